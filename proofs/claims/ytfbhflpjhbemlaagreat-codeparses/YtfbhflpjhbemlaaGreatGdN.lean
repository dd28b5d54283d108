/- Stage 19: code.codeOf answers a body of its own (written by mkgdn.py, out of CgK). -/
import Derived.Test.YtfbhflpjhbemlaaGreatGdJ
namespace Go.Proofs.YtfbhflpjhbemlaaGreat
open Go.RowKit Go.Maps Go.WideMaps

def CoQ (w : World) (c : Cd.Code) (e : Ending) (w' : World) : Prop :=
  w.grownBy w' none ∧ ∃ ka kc ia ic ba bc, e = .returned (.tuple #[.agg (codeV c ka kc ia ic ba bc), .bool true]) ∧ (∀ X V, X < w.heap.size → Kp [X] w' V → CodeAt V c ka ia ba ∧ V.ownsRow w.heap.size 32 3 (.slice ba c.body.length bc) c.body.length (insC c.body)) ∧ c.kinds.length ≤ kc

set_option maxHeartbeats 8000000 in
set_option maxRecDepth 100000 in
theorem codeOf_own (w : World) (c : Cd.Code) (l1 : List UInt8) (a : Option Addr) (cap : Nat) (hr : Rds l1 c) (hb : BytesAt w a (Cd.magic ++ l1)) (hcap : (Cd.magic ++ l1).length ≤ cap) (hl : (Cd.magic ++ l1).length ≤ 4000000) :
    Calls Tryz.prog 12 #[.slice a (Cd.magic ++ l1).length cap] w (CoQ w c) := by
  obtain ⟨⟨l2, l3, l4, l5, l6, r1, r2, r3, r4, r5, r6⟩, k8, ic, ik, b6⟩ := hr
  obtain ⟨W1, hW1⟩ : ∃ W1, W1 = w.alloc (.cells #[.slice none 0 0, .int .i64 0, .int .i64 0, .int .i64 0, .int .i64 0, .slice none 0 0, .slice none 0 0] 27) := ⟨_, rfl⟩
  have hz1 : W1.heap.size = w.heap.size + 1 := by rw [hW1, World.size_alloc]
  have hX1 : W1.heap[w.heap.size]? = some (.cells #[.slice none 0 0, .int .i64 0, .int .i64 0, .int .i64 0, .int .i64 0, .slice none 0 0, .slice none 0 0] 27 (0, 0)) := by rw [hW1]; exact heap_alloc_new w _
  obtain ⟨W2, hW2⟩ : ∃ W2, W2 = W1.alloc (.cells #[.int .u8 77, .int .u8 84, .int .u8 82, .int .u8 49] 5 (4, 5)) := ⟨_, rfl⟩
  have hg2 : w.grownBy W2 none := by rw [hW2, hW1]; exact (World.grownBy_alloc w _ none).trans (World.grownBy_alloc _ _ none)
  have hX2 : W2.heap[w.heap.size]? = some (.cells #[.slice none 0 0, .int .i64 0, .int .i64 0, .int .i64 0, .int .i64 0, .slice none 0 0, .slice none 0 0] 27 (0, 0)) := by rw [hW2]; exact row_alloc hX1 _
  have hcvt : (convert 22 22 (.slice (some ⟨w.heap.size + 1, 0, none⟩) 4 4)).run Tryz.prog (W1.alloc (.cells #[.int .u8 77, .int .u8 84, .int .u8 82, .int .u8 49] 5)) = .ok (.slice (some ⟨w.heap.size + 1, 0, none⟩) 4 4) W2 := by
    have := Lib.run_convert_bytes_const (P := Tryz.prog) W1 22 5 #[.int .u8 77, .int .u8 84, .int .u8 82, .int .u8 49] 4 4 Tryz.underlying22 Tryz.underlying5
    rw [hz1] at this
    rw [hW2]
    exact this
  have hG : ∀ j b, Cd.magic[j]? = some b → W2.cell? ⟨w.heap.size + 1, 0 + j, none⟩ = some (.int .u8 b.toNat) := fun j b hj => by
    have hr := heap_alloc_new W1 (.cells #[.int .u8 77, .int .u8 84, .int .u8 82, .int .u8 49] 5 (4, 5))
    rw [hz1, ← hW2] at hr
    unfold World.cell?
    rw [hr]
    have hi : j < 4 := (List.getElem?_eq_some_iff.1 hj).1
    rcases (show j = 0 ∨ j = 1 ∨ j = 2 ∨ j = 3 by omega) with rfl | rfl | rfl | rfl <;> (cases hj; rfl)
  have hb2 : BytesAt W2 a (Cd.magic ++ l1) := fun i b h => by
    obtain ⟨g, o, e, hc⟩ := hb i b h
    exact ⟨g, o, e, hg2.cell hc (by simp)⟩
  have hcut := cutPrefix_any W2 a cap (w.heap.size + 1) l1 hb2 hcap hl hG
  have hbM : ∀ g o, a = some ⟨g, o, none⟩ → g < w.heap.size := fun g o e => by
    obtain ⟨g', o', e', hc⟩ := hb 0 77 rfl
    rw [e] at e'
    cases e'
    exact lt_of_cell? hc
  have hl1 : l1.length ≤ 4000000 := by rw [List.length_append] at hl; omega
  rw [hW1] at hcvt
  have HX2 := Lib.hid (And.intro hX2 (And.intro hg2 hbM))
  have HRD := Lib.hid (And.intro r1 (And.intro r2 (And.intro r3 (And.intro r4 (And.intro r5 r6)))))
  have HZ2 : Hid (W2.heap.size = w.heap.size + 1 + 1) := Lib.hid (by rw [hW2, World.size_alloc, hz1])
  obtain ⟨LL, hLL⟩ : ∃ LL, LL = (Cd.magic ++ l1).length := ⟨_, rfl⟩
  rw [← hLL] at hcut hcap hl ⊢
  clear hW1 hW2 hX1 hX2 hg2 hG hb2 hb hbM hz1 r1 r2 r3 r4 r5 r6 hLL hcap hl
  go_enter Tryz.func12, Tryz.ntmps12
  go_wp2_with (first | (go_at_call 21; refine hcut.mono ?_; rintro e w' ⟨hw', a1, c1, rfl, hb1, hm1⟩; obtain rfl := hw'.symm; refine Hid.out ?_))
  have hnew := newReader_any w.heap.size W2 a1 c1 l1 hb1 (by rw [HZ2.out]; omega) (fun g o e hne => by obtain ⟨o', e2⟩ := hm1 g o e hne; exact HX2.out.2.2 g o' e2)
  refine Lib.hid ?_
  clear hcut hcvt
  unfold rdV at hnew
  go_wp2_with (go_at_call 22; refine hnew.mono ?_; rintro e V1 ⟨A, B, rfl, hR1, hg1, hA1, hB1⟩; refine Hid.out ?_)
  refine Lib.hid ?_
  have hC1 : Cs w A B V1.heap.size l1 0 #[.slice none 0 0, .int .i64 0, .int .i64 0, .int .i64 0, .int .i64 0, .slice none 0 0, .slice none 0 0] (V1.alloc (.cells (rdV A B) 58)) := by
    have h1 := HZ2.out
    have h2 := gl hR1.at_
    have h3 : B < V1.heap.size := by obtain ⟨x, y, h4, -⟩ := hR1.box; exact gl h4
    exact ⟨hR1.on (World.grownBy_alloc V1 _ none), row_alloc ((hg1.block _ (gl HX2.out.1) (by simp)).trans HX2.out.1) _, heap_alloc_new V1 _, (HX2.out.2.1.trans hg1).trans (World.grownBy_alloc V1 _ none), by omega, by omega, by omega, by omega, by omega⟩
  obtain ⟨R, hRR⟩ : ∃ R, R = V1.heap.size := ⟨_, rfl⟩
  have HC1 := Lib.hid hC1
  have y0 := hC1.fn
  have hnum := number_any w.heap.size A B l1 0 hl1 _ hC1.rn
  unfold rdV at y0 hnum
  obtain ⟨y0, y0'⟩ := y0
  have hnum' : Calls Tryz.prog 37 #[.pointer (some ⟨A, 0, none⟩), .pointer (some ⟨B, 0, none⟩)] (V1.alloc (.cells #[.func (.func 37) #[] #[.pointer (some ⟨A, 0, none⟩), .pointer (some ⟨B, 0, none⟩)], .func (.func 39) #[] #[.pointer (some ⟨A, 0, none⟩), .pointer (some ⟨B, 0, none⟩)]] 58)) fun e w' => e = .returned (.tuple #[.int .i64 (c.kinds.length : Int), .bool true]) ∧ ∃ q, Cs w A B V1.heap.size l1 q #[.slice none 0 0, .int .i64 0, .int .i64 0, .int .i64 0, .int .i64 0, .slice none 0 0, .slice none 0 0] w' ∧ l1.drop q = l2 := hnum.mono fun e w' H => by
    obtain ⟨hg, q, hr, hm⟩ := H
    rw [List.drop_zero, HRD.out.1] at hm
    exact ⟨hm.1, q, HC1.out.kp hg hr, hm.2⟩
  clear hnum hC1 hnew hb1 hm1 hR1 hg1 hA1 hB1 hRR R
  go_wp2_with (go_at_call 37; refine hnum'.mono ?_; rintro e V2 ⟨rfl, q2, hC2, hq2⟩; refine Hid.out ?_)
  refine Lib.hid ?_
  clear hnum' y0 y0' HC1
  generalize V1.heap.size = R at hC2 ⊢
  have HC2 := Lib.hid hC2
  have hW3 := hC2.alloc (.cells (ptrs w.heap.size 1 4).toArray 62)
  have hY : (V2.alloc (.cells (ptrs w.heap.size 1 4).toArray 62)).heap[V2.heap.size]? = some (.cells (ptrs w.heap.size 1 4).toArray 62 (0, 0)) := heap_alloc_new V2 _
  have hlt2 := hC2.lt
  have hA2 := gl hC2.rn.at_
  have hX2' := gl hC2.xr
  have hns := numbers_any w.heap.size _ A B w.heap.size V2.heap.size 27 1 4 _ l1 q2 hl1 (by decide) hW3.rn hW3.xr (by decide) hY ⟨by omega, by omega, by omega, by omega⟩ (Nat.le_refl _)
  have y0 := hC2.fn
  obtain ⟨y0, y0'⟩ := y0
  have hns' : Calls Tryz.prog 23 #[.agg (rdV A B), .slice (some ⟨V2.heap.size, 0, none⟩) 4 4] (V2.alloc (.cells (ptrs w.heap.size 1 4).toArray 62)) fun e w' => e = .returned (.bool true) ∧ ∃ q, Cs w A B R l1 q #[.slice none 0 0, .int .i64 c.ins, .int .i64 c.outs, .int .i64 c.cells, .int .i64 c.stack, .slice none 0 0, .slice none 0 0] w' ∧ l1.drop q = l3 := hns.mono fun e w' H => by
    obtain ⟨hk, q, ms, hr, hx, -, hm⟩ := H
    rw [hq2, HRD.out.2.1] at hm
    obtain ⟨h1, h2, rfl⟩ := hm
    exact ⟨h1, q, ⟨hr, hx, (hk.block _ (gl hW3.rr) (by simp; have := hC2.lt; omega)).trans hW3.rr, Kp.grown hW3.gr hk (fun k hk => by simp at hk; have := hC2.lt; omega), hC2.lt⟩, h2⟩
  clear hns hW3 hY hlt2 hA2 hX2' hC2 hq2
  unfold rdV at hns'
  generalize hKK : c.kinds.length = K at k8 ik ⊢
  have HKK := Lib.hid hKK
  clear hKK
  go_wp2_with (go_at_call 23; refine hns'.mono ?_; rintro e V3 ⟨rfl, q3, hC3, hq3⟩; refine Hid.out ?_)
  refine Lib.hid ?_
  clear hns' y0 y0' HC2
  have HC3 := Lib.hid hC3
  obtain ⟨y0, y0'⟩ := hC3.fn
  have x0 := cell_of_row V3 _ 0 _ _ _ hC3.xr
  have f0 : V3.frozen? ⟨w.heap.size, 0, none⟩ = false := by simp [World.frozen?, hC3.xr]
  have hli := listInt_any w.heap.size V3 A B l1 q3 (K : Int) 8000 hl1 (by decide) hC3.rn
  have hli' : Calls Tryz.prog 24 #[.int .i64 (K : Int), .int .i64 8000, .func (.func 37) #[] #[.pointer (some ⟨A, 0, none⟩), .pointer (some ⟨B, 0, none⟩)]] V3 fun e w' => ∃ ka kc, e = .returned (.tuple #[.slice ka K kc, .bool true]) ∧ Na w' A w.heap.size ka c.kinds ∧ K ≤ kc ∧ ∃ q, Cs w A B R l1 q #[.slice none 0 0, .int .i64 c.ins, .int .i64 c.outs, .int .i64 c.cells, .int .i64 c.stack, .slice none 0 0, .slice none 0 0] w' ∧ l1.drop q = l4 := hli.mono fun e w' H => by
    obtain ⟨hg, q, hr, hm⟩ := H
    have e3 := HRD.out.2.2.1
    rw [HKK.out] at e3
    rw [if_neg (by omega), Int.toNat_natCast, hq3, e3] at hm
    obtain ⟨v, h1, h2, h3⟩ := hm
    obtain ⟨ka, kc, hv, -⟩ := NumsAt.own h2
    subst hv
    have h4 := own_cap h2
    rw [HKK.out] at h1 h4
    exact ⟨ka, kc, h1, Na.own h2 (gl HC3.out.rn.at_) (gl HC3.out.xr), h4, q, HC3.out.kp hg hr, h3⟩
  clear hli hq3 hC3
  go_wp2_with (go_at_call 24; refine hli'.mono ?_; rintro e V4 ⟨ka, kc, rfl, hna, hkc, q4, hC4, hq4⟩; have x0 := cell_of_row V4 _ 0 _ _ _ hC4.xr; have f0 : V4.frozen? ⟨w.heap.size, 0, none⟩ = false := (by simp [World.frozen?, hC4.xr]); refine Hid.out ?_)
  refine Lib.hid ?_
  have hC4s := hC4.set 0 (.slice ka K kc)
  have hC4s : Cs w A B R l1 q4 #[.slice ka K kc, .int .i64 c.ins, .int .i64 c.outs, .int .i64 c.cells, .int .i64 c.stack, .slice none 0 0, .slice none 0 0] (V4.setCell ⟨w.heap.size, 0, none⟩ (.slice ka K kc)) := hC4s
  have HN4 : Hid (Na (V4.setCell ⟨w.heap.size, 0, none⟩ (.slice ka K kc)) A w.heap.size ka c.kinds) := Lib.hid (hna.kp ((Kp.refl _ _).set (by simp) _))
  have HC4 := Lib.hid hC4s
  have yy0 := hC4s.fn.1
  have x3 := cell_of_row _ _ 3 _ _ _ hC4s.xr
  have hlj := listInt_any w.heap.size _ A B l1 q4 c.cells (K : Int) hl1 (by omega) hC4s.rn
  have hlj' : Calls Tryz.prog 24 #[.int .i64 c.cells, .int .i64 (K : Int), .func (.func 37) #[] #[.pointer (some ⟨A, 0, none⟩), .pointer (some ⟨B, 0, none⟩)]] (V4.setCell ⟨w.heap.size, 0, none⟩ (.slice ka K kc)) fun e w' => ∃ ia ic', e = .returned (.tuple #[.slice ia c.init.length ic', .bool true]) ∧ Na w' A w.heap.size ia c.init ∧ Na w' A w.heap.size ka c.kinds ∧ ∃ q, Cs w A B R l1 q #[.slice ka K kc, .int .i64 c.ins, .int .i64 c.outs, .int .i64 c.cells, .int .i64 c.stack, .slice none 0 0, .slice none 0 0] w' ∧ l1.drop q = l5 := hlj.mono fun e w' H => by
    obtain ⟨hg, q, hr, hm⟩ := H
    have e3 := HRD.out.2.2.2.1
    rw [if_neg (by omega), show c.cells.toNat = c.init.length by omega, hq4, e3] at hm
    obtain ⟨v, h1, h2, h3⟩ := hm
    obtain ⟨ia, ic', hv, -⟩ := NumsAt.own h2
    subst hv
    exact ⟨ia, ic', h1, Na.own h2 (gl HC4.out.rn.at_) (gl HC4.out.xr), HN4.out.kp (Kp.of hg _ (fun k e _ => by cases e; simp)), q, HC4.out.kp hg hr, h3⟩
  have HKC := Lib.hid hkc
  clear hlj hq4 hC4 hC4s hna hli' y0 y0' HC3 hkc
  go_wp2_with (go_at_call 24; refine hlj'.mono ?_; rintro e V5 ⟨ia, ic', rfl, hni, hnk, q5, hC5, hq5⟩; have x5 := cell_of_row V5 _ 5 _ _ _ hC5.xr; have f5 : V5.frozen? ⟨w.heap.size, 5, none⟩ = false := (by simp [World.frozen?, hC5.xr]); refine Hid.out ?_)
  refine Lib.hid ?_
  have hC5s : Cs w A B R l1 q5 #[.slice ka K kc, .int .i64 c.ins, .int .i64 c.outs, .int .i64 c.cells, .int .i64 c.stack, .slice ia c.init.length ic', .slice none 0 0] (V5.setCell ⟨w.heap.size, 5, none⟩ (.slice ia c.init.length ic')) := hC5.set 5 (.slice ia c.init.length ic')
  have hks : Kp [A, w.heap.size] V5 (V5.setCell ⟨w.heap.size, 5, none⟩ (.slice ia c.init.length ic')) := (Kp.refl _ _).set (by simp) _
  have HN5 : Hid (Na (V5.setCell ⟨w.heap.size, 5, none⟩ (.slice ia c.init.length ic')) A w.heap.size ka c.kinds ∧ Na (V5.setCell ⟨w.heap.size, 5, none⟩ (.slice ia c.init.length ic')) A w.heap.size ia c.init) := Lib.hid ⟨hnk.kp hks, hni.kp hks⟩
  have HC5 := Lib.hid hC5s
  have yy1 := hC5s.fn.1
  have hnum := number_any w.heap.size A B l1 q5 hl1 _ hC5s.rn
  have hnum' : Calls Tryz.prog 37 #[.pointer (some ⟨A, 0, none⟩), .pointer (some ⟨B, 0, none⟩)] (V5.setCell ⟨w.heap.size, 5, none⟩ (.slice ia c.init.length ic')) fun e w' => e = .returned (.tuple #[.int .i64 (c.body.length : Int), .bool true]) ∧ (Na w' A w.heap.size ka c.kinds ∧ Na w' A w.heap.size ia c.init) ∧ ∃ q, Cs w A B R l1 q #[.slice ka K kc, .int .i64 c.ins, .int .i64 c.outs, .int .i64 c.cells, .int .i64 c.stack, .slice ia c.init.length ic', .slice none 0 0] w' ∧ l1.drop q = l6 := hnum.mono fun e w' H => by
    obtain ⟨hg, q, hr, hm⟩ := H
    rw [hq5, HRD.out.2.2.2.2.1] at hm
    have hk : Kp [A, w.heap.size] _ w' := Kp.of hg _ (fun k e _ => by cases e; simp)
    exact ⟨hm.1, ⟨HN5.out.1.kp hk, HN5.out.2.kp hk⟩, q, HC5.out.kp hg hr, hm.2⟩
  clear hnum hq5 hC5 hC5s hks hni hnk hlj' yy0 x3 HC4 HN4
  go_wp2_with (go_at_call 37; refine hnum'.mono ?_; rintro e V6 ⟨rfl, hn6, q6, hC6, hq6⟩; refine Hid.out ?_)
  refine Lib.hid ?_
  have HN6 := Lib.hid hn6
  have HC6 := Lib.hid hC6
  obtain ⟨z0, z1⟩ := hC6.fn
  have hlx := listIns_any w.heap.size V6 A B l1 q6 (c.body.length : Int) 60000 hl1 (by decide) hC6.rn (by have := gl hC6.xr; omega)
  have hlx' : Calls Tryz.prog 25 #[.int .i64 (c.body.length : Int), .int .i64 60000, .func (.func 26) #[.agg (rdV A B)] #[]] V6 fun e w' => ∃ ba bc, e = .returned (.tuple #[.slice ba c.body.length bc, .bool true]) ∧ (InssAt w' ba c.body ∧ ∃ M, A < M ∧ w.heap.size < M ∧ w'.ownsRow M 32 3 (.slice ba c.body.length bc) c.body.length (insC c.body)) ∧ (∀ b o, ba = some ⟨b, o, none⟩ → c.body ≠ [] → b ≠ A ∧ w.heap.size < b) ∧ (Na w' A w.heap.size ka c.kinds ∧ Na w' A w.heap.size ia c.init) ∧ ∃ q, Cs w A B R l1 q #[.slice ka K kc, .int .i64 c.ins, .int .i64 c.outs, .int .i64 c.cells, .int .i64 c.stack, .slice ia c.init.length ic', .slice none 0 0] w' ∧ l1.drop q = [] := hlx.mono fun e w' H => by
    obtain ⟨hg, q, hr, hm⟩ := H
    rw [if_neg (by omega), Int.toNat_natCast, hq6, HRD.out.2.2.2.2.2] at hm
    obtain ⟨v, h1, h2, h3⟩ := hm
    obtain ⟨ba, bc, hv, hin⟩ := InssAt.own h2
    subst hv
    have hk : Kp [A, w.heap.size] _ w' := Kp.of hg _ (fun k e _ => by cases e; simp)
    refine ⟨ba, bc, h1, ⟨hin, V6.heap.size, gl HC6.out.rn.at_, gl HC6.out.xr, h2⟩, fun b o e _ => ?_, ⟨HN6.out.1.kp hk, HN6.out.2.kp hk⟩, q, HC6.out.kp hg hr, h3⟩
    have h4 := (h2.lt b (by rw [e]; rfl)).1
    have h5 := gl HC6.out.rn.at_
    have h6 := gl HC6.out.xr
    exact ⟨by omega, by omega⟩
  clear hlx hq6 hC6 hn6 hnum' yy1 HC5 HN5
  unfold rdV at hlx'
  generalize hBB : c.body.length = Bn at b6 hlx' ⊢
  have HBB := Lib.hid hBB
  clear hBB
  go_wp2_with (go_at_call 25; refine hlx'.mono ?_; rintro e V7 ⟨ba, bc, rfl, hin, hbn, hn7, q7, hC7, hq7⟩; have x6 := cell_of_row V7 _ 6 _ _ _ hC7.xr; have f6 : V7.frozen? ⟨w.heap.size, 6, none⟩ = false := (by simp [World.frozen?, hC7.xr]); refine Hid.out ?_)
  refine Lib.hid ?_
  obtain ⟨V8, hV8⟩ : ∃ V8, V8 = V7.setCell ⟨w.heap.size, 6, none⟩ (.slice ba Bn bc) := ⟨_, rfl⟩
  have hC8 : Cs w A B R l1 q7 #[.slice ka K kc, .int .i64 c.ins, .int .i64 c.outs, .int .i64 c.cells, .int .i64 c.stack, .slice ia c.init.length ic', .slice ba Bn bc] V8 := by rw [hV8]; exact hC7.set 6 (.slice ba Bn bc)
  have hks : Kp [A, w.heap.size] V7 V8 := by rw [hV8]; exact (Kp.refl _ _).set (by simp) _
  have hq : q7 = l1.length := by
    have h1 := hC8.rn.le
    have h2 := congrArg List.length hq7
    rw [List.length_drop] at h2
    simp at h2
    omega
  have HF : Hid (∀ Z V, (∀ z ∈ Z, z = A ∨ z ≤ w.heap.size) → Kp Z V8 V → CodeAt V c ka ia ba ∧ V.ownsRow w.heap.size 32 3 (.slice ba Bn bc) Bn (insC c.body)) := Lib.hid (fun Z V hZ hk => ⟨⟨((hn7.1.kp hks).kq hk hZ).1, ((hn7.2.kp hks).kq hk hZ).1, fun i x hi => by
    obtain ⟨b, o, e, h1, h2, h3⟩ := hin.1 i x hi
    have hb := hbn b o e (fun e2 => by rw [e2] at hi; simp at hi)
    have hz : b ∉ Z := fun hz => by have := hZ _ hz; omega
    have hy : b ∉ [A, w.heap.size] := by simp; omega
    exact ⟨b, o, e, hk.cell (hks.cell h1 hy) hz, hk.cell (hks.cell h2 hy) hz, hk.cell (hks.cell h3 hy) hz⟩⟩, by
    obtain ⟨M, m1, m2, ho⟩ := hin.2
    exact owns_base (own_kp (own_kp ho hks (fun x hx => by simp at hx; omega)) hk (fun x hx => by rcases hZ x hx with h | h <;> omega)) (Nat.le_of_lt m2)⟩)
  have HV8 := Lib.hid hV8
  have HC8 := Lib.hid hC8
  clear hks hq7 hC7 hn7 hin hbn hlx' HC6 HN6 z0 z1
  go_wp2
  rw [← hV8]
  have hS0 : Cs w A B R l1 q7 #[.slice ka K kc, .int .i64 c.ins, .int .i64 c.outs, .int .i64 c.cells, .int .i64 c.stack, .slice ia c.init.length ic', .slice ba Bn bc] V8.drew := ⟨⟨hC8.rn.at_, hC8.rn.box, hC8.rn.hA, hC8.rn.hB, hC8.rn.ne, hC8.rn.le⟩, hC8.xr, hC8.rr, ⟨hC8.gr.os, hC8.gr.tape, hC8.gr.output, hC8.gr.size, hC8.gr.block⟩, hC8.lt⟩
  have hend := atEnd_any w.heap.size A B l1 q7 V8.drew hS0.rn
  rw [decide_eq_true hq] at hend
  clear hV8 hC8 hq
  refine wp_region_L (S := fun V => Cs w A B R l1 q7 #[.slice ka K kc, .int .i64 c.ins, .int .i64 c.outs, .int .i64 c.cells, .int .i64 c.stack, .slice ia c.init.length ic', .slice ba Bn bc] V) (Z := []) (by kernel_rfl) ?_
  have HD : Hid (Kp [A, w.heap.size] V8 V8.drew) := Lib.hid (Kp.refl _ _).drew
  generalize V8.drew = V9 at hS0 hend HD ⊢
  refine t2 0 80 (.agg #[.slice ka K kc, .int .i64 c.ins, .int .i64 c.outs, .int .i64 c.cells, .int .i64 c.stack, .slice ia c.init.length ic', .slice ba Bn bc]) (fun w' hw' => ?_) hS0 ?_
  · exact exec_load_mid 27 _ rfl w.heap.size 0 rfl _ _ (row_range hw'.xr) Tryz.underlying27 rfl (by kernel_rfl)
  (try simp only [Act.put, sA, sB, sC])
  refine t1 1 81 (.bool true) hS0 ?_
  (try simp only [Act.put, sA, sB, sC])
  refine t1 2 82 (.bool true) hS0 ?_
  (try simp only [Act.put, sA, sB, sC])
  refine t1 3 83 (.pointer (some ⟨R, 1, none⟩)) hS0 ?_
  (try simp only [Act.put, sA, sB, sC])
  refine t2 4 84 (.func (.func 39) #[] #[.pointer (some ⟨A, 0, none⟩), .pointer (some ⟨B, 0, none⟩)]) (fun w' hw' => ?_) hS0 ?_
  · have hc0 := hw'.fn.2; clear hw'; go_simp
  (try simp only [Act.put, sA, sB, sC])
  refine wpL_call (i := 5) (d := 85) (R := fun v w' => v = .bool true ∧ w' = V9) (by kernel_rfl) rfl rfl (by kernel_rfl) (by kernel_rfl) (hend.mono fun e w' he => ⟨_, he.1, rfl, he.2⟩) (fun v w' hR => by rw [hR.2]; exact hS0) (fun v w' hR => ?_)
  obtain ⟨rfl, hw⟩ := hR
  obtain rfl := hw.symm
  (try simp only [Act.put, sA, sB, sC])
  refine t1 6 86 (.bool true) hS0 ?_
  (try simp only [Act.put, sA, sB, sC])
  refine wpL_store (i := 7) w.heap.size #[.slice ka K kc, .int .i64 c.ins, .int .i64 c.outs, .int .i64 c.cells, .int .i64 c.stack, .slice ia c.init.length ic', .slice ba Bn bc] #[.slice ka K kc, .int .i64 c.ins, .int .i64 c.outs, .int .i64 c.cells, .int .i64 c.stack, .slice ia c.init.length ic', .slice ba Bn bc] 27 27 (.tmp 2) (.tmp 80) (by kernel_rfl) rfl (by kernel_rfl) rfl rfl rfl rfl hS0.xr (by kernel_rfl) rfl (by simp [Value.oneCell']) (fun V hbV hgV => and2 ?_ (fun hSV => ?_))
  · have hk : Kp [w.heap.size] V9 V := Kp.of hgV _ (fun k e _ => by cases e; simp)
    have := hS0.lt
    exact ⟨hS0.rn.kp hk (by simp; omega) (by simp; omega) (fun x hx => by simp at hx; omega), hbV, (hk.block _ (gl hS0.rr) (by simp; omega)).trans hS0.rr, Kp.grown hS0.gr hk (fun k hk => by simp at hk; omega), hS0.lt⟩
  have hk : Kp [A, w.heap.size] V8 V := HD.out.trans (Kp.of hgV _ (fun k e _ => by cases e; simp))
  have HE : Hid (w.grownBy V none ∧ ∀ X V', X < w.heap.size → Kp [X] V V' → CodeAt V' c ka ia ba ∧ V'.ownsRow w.heap.size 32 3 (.slice ba Bn bc) Bn (insC c.body)) := Lib.hid ⟨Kp.grown HC8.out.gr hk (fun k hk => by simp at hk; have := HC8.out.lt; omega), fun X V' hX hk2 => HF.out [A, w.heap.size, X] V' (fun z hz => by simp at hz; omega) ((hk.mono (fun k hk _ => by simp at hk ⊢; omega)).trans (hk2.mono (fun k hk _ => by simp at hk ⊢; omega)))⟩
  have HB := Lib.hid hbV
  have HO : Hid (#[.slice ka K kc, .int .i64 c.ins, .int .i64 c.outs, .int .i64 c.cells, .int .i64 c.stack, .slice ia c.init.length ic', .slice ba Bn bc] = codeV c ka kc ia ic' ba bc) := Lib.hid (by unfold codeV; rw [HKK.out, HBB.out])
  clear hk hbV hgV hS0 hend
  refine t1 8 3 (.bool true) hSV ?_
  (try simp only [Act.put, sA, sB, sC])
  clear hSV
  refine wpL_done (by kernel_rfl) ?_ _
  go_wp2
  exact bodyPost_ret (results_row_tmp rfl _ _ w.heap.size 27 _ (0, 0) _ (.bool true) rfl rfl HB.out Tryz.underlying27 rfl (by kernel_rfl)) rfl ⟨HE.out.1, ka, kc, ia, ic', ba, bc, by rw [← HO.out], fun X V hX hk => by rw [HBB.out]; exact HE.out.2 X V hX hk, by rw [HKK.out]; exact HKC.out⟩
end Go.Proofs.YtfbhflpjhbemlaaGreat
