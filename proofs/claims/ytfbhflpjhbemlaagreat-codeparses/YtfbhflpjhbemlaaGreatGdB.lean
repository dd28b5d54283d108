/- Stage 19: bytes that are no code (written by mkgdb.py): the mark, code.codeOf. -/
import Derived.Test.YtfbhflpjhbemlaaGreatGdA
namespace Go.Proofs.YtfbhflpjhbemlaaGreat
open Go.RowKit Go.Maps Go.WideMaps

def BadP (w : World) (e : Ending) (w' : World) : Prop := w.grownBy w' none ∧ ∃ (ka : Option Addr) (nk kc : Nat) (x1 x2 x3 x4 : Int) (ia : Option Addr) (ni ic : Nat) (ba : Option Addr) (nb bc : Nat), e = .returned (.tuple #[.agg #[.slice ka nk kc, .int .i64 x1, .int .i64 x2, .int .i64 x3, .int .i64 x4, .slice ia ni ic, .slice ba nb bc], .bool false])
theorem set4 : ∀ (ms : List Int), ms.length ≤ 4 → ∃ a b c d, setN 1 ms #[.slice none 0 0, .int .i64 0, .int .i64 0, .int .i64 0, .int .i64 0, .slice none 0 0, .slice none 0 0] = #[.slice none 0 0, .int .i64 a, .int .i64 b, .int .i64 c, .int .i64 d, .slice none 0 0, .slice none 0 0]
  | [], _ => ⟨0, 0, 0, 0, rfl⟩
  | [a], _ => ⟨a, 0, 0, 0, rfl⟩
  | [a, b], _ => ⟨a, b, 0, 0, rfl⟩
  | [a, b, c], _ => ⟨a, b, c, 0, rfl⟩
  | [a, b, c, d], _ => ⟨a, b, c, d, rfl⟩
  | _ :: _ :: _ :: _ :: _ :: _, h => absurd h (by simp)
theorem rdN4 {l r : List UInt8} {ns : List Int} (h : Cd.rdN 4 l = some (ns, r)) : ∃ a b c d, ns = [a, b, c, d] := by
  have h1 := rdN_len 4 l ns r h
  match ns, h1 with
  | [a, b, c, d], _ => exact ⟨a, b, c, d, rfl⟩
set_option maxHeartbeats 8000000 in
set_option maxRecDepth 100000 in
theorem codeOf_bad (w : World) (l1 : List UInt8) (a : Option Addr) (cap : Nat) (hno : ∀ c, ¬ Rds l1 c) (hb : BytesAt w a (Cd.magic ++ l1)) (hcap : (Cd.magic ++ l1).length ≤ cap) (hl : (Cd.magic ++ l1).length ≤ 4000000) :
    Calls Tryz.prog 12 #[.slice a (Cd.magic ++ l1).length cap] w (BadP w) := by
  obtain ⟨W1, hW1⟩ : ∃ W1, W1 = w.alloc (.cells #[.slice none 0 0, .int .i64 0, .int .i64 0, .int .i64 0, .int .i64 0, .slice none 0 0, .slice none 0 0] 27) := ⟨_, rfl⟩
  have hz1 : W1.heap.size = w.heap.size + 1 := by rw [hW1, World.size_alloc]
  have hX1 : W1.heap[w.heap.size]? = some (.cells #[.slice none 0 0, .int .i64 0, .int .i64 0, .int .i64 0, .int .i64 0, .slice none 0 0, .slice none 0 0] 27 (0, 0)) := by rw [hW1]; exact heap_alloc_new w _
  obtain ⟨W2, hW2⟩ : ∃ W2, W2 = W1.alloc (.cells #[.int .u8 77, .int .u8 84, .int .u8 82, .int .u8 49] 5 (4, 5)) := ⟨_, rfl⟩
  have hg2 : w.grownBy W2 none := by rw [hW2, hW1]; exact (World.grownBy_alloc w _ none).trans (World.grownBy_alloc _ _ none)
  have hX2 : W2.heap[w.heap.size]? = some (.cells #[.slice none 0 0, .int .i64 0, .int .i64 0, .int .i64 0, .int .i64 0, .slice none 0 0, .slice none 0 0] 27 (0, 0)) := by rw [hW2]; exact row_alloc hX1 _
  have hcvt : (convert 22 22 (.slice (some ⟨w.heap.size + 1, 0, none⟩) 4 4)).run Tryz.prog (W1.alloc (.cells #[.int .u8 77, .int .u8 84, .int .u8 82, .int .u8 49] 5)) = .ok (.slice (some ⟨w.heap.size + 1, 0, none⟩) 4 4) W2 := by
    have := Lib.run_convert_bytes_const (P := Tryz.prog) W1 22 5 #[.int .u8 77, .int .u8 84, .int .u8 82, .int .u8 49] 4 4 Tryz.underlying22 Tryz.underlying5
    rw [hz1] at this
    rw [hW2]
    exact this
  have hG : ∀ j b, Cd.magic[j]? = some b → W2.cell? ⟨w.heap.size + 1, 0 + j, none⟩ = some (.int .u8 b.toNat) := fun j b hj => by
    have hr := heap_alloc_new W1 (.cells #[.int .u8 77, .int .u8 84, .int .u8 82, .int .u8 49] 5 (4, 5))
    rw [hz1, ← hW2] at hr
    unfold World.cell?
    rw [hr]
    have hi : j < 4 := (List.getElem?_eq_some_iff.1 hj).1
    rcases (show j = 0 ∨ j = 1 ∨ j = 2 ∨ j = 3 by omega) with rfl | rfl | rfl | rfl <;> (cases hj; rfl)
  have hb2 : BytesAt W2 a (Cd.magic ++ l1) := fun i b h => by
    obtain ⟨g, o, e, hc⟩ := hb i b h
    exact ⟨g, o, e, hg2.cell hc (by simp)⟩
  have hcut := cutPrefix_any W2 a cap (w.heap.size + 1) l1 hb2 hcap hl hG
  have hbM : ∀ g o, a = some ⟨g, o, none⟩ → g < w.heap.size := fun g o e => by
    obtain ⟨g', o', e', hc⟩ := hb 0 77 rfl
    rw [e] at e'
    cases e'
    exact lt_of_cell? hc
  have hl1 : l1.length ≤ 4000000 := by rw [List.length_append] at hl; omega
  rw [hW1] at hcvt
  have HX2 := Lib.hid (And.intro hX2 (And.intro hg2 hbM))
  have HNO := Lib.hid hno
  have HZ2 : Hid (W2.heap.size = w.heap.size + 1 + 1) := Lib.hid (by rw [hW2, World.size_alloc, hz1])
  obtain ⟨LL, hLL⟩ : ∃ LL, LL = (Cd.magic ++ l1).length := ⟨_, rfl⟩
  rw [← hLL] at hcut hcap hl ⊢
  clear hW1 hW2 hX1 hX2 hg2 hG hb2 hb hbM hz1 hno hLL hcap hl
  go_enter Tryz.func12, Tryz.ntmps12
  go_wp2_with (first | (go_at_call 21; refine hcut.mono ?_; rintro e w' ⟨hw', a1, c1, rfl, hb1, hm1⟩; obtain rfl := hw'.symm; refine Hid.out ?_))
  have hnew := newReader_any w.heap.size W2 a1 c1 l1 hb1 (by rw [HZ2.out]; omega) (fun g o e hne => by obtain ⟨o', e2⟩ := hm1 g o e hne; exact HX2.out.2.2 g o' e2)
  refine Lib.hid ?_
  clear hcut hcvt
  unfold rdV at hnew
  go_wp2_with (go_at_call 22; refine hnew.mono ?_; rintro e V1 ⟨A, B, rfl, hR1, hg1, hA1, hB1⟩; refine Hid.out ?_)
  refine Lib.hid ?_
  have hC1 : Cs w A B V1.heap.size l1 0 #[.slice none 0 0, .int .i64 0, .int .i64 0, .int .i64 0, .int .i64 0, .slice none 0 0, .slice none 0 0] (V1.alloc (.cells (rdV A B) 58)) := by
    have h1 := HZ2.out
    have h2 := gl hR1.at_
    have h3 : B < V1.heap.size := by obtain ⟨x, y, h4, -⟩ := hR1.box; exact gl h4
    exact ⟨hR1.on (World.grownBy_alloc V1 _ none), row_alloc ((hg1.block _ (gl HX2.out.1) (by simp)).trans HX2.out.1) _, heap_alloc_new V1 _, (HX2.out.2.1.trans hg1).trans (World.grownBy_alloc V1 _ none), by omega, by omega, by omega, by omega, by omega⟩
  obtain ⟨R, hRR⟩ : ∃ R, R = V1.heap.size := ⟨_, rfl⟩
  have HC1 := Lib.hid hC1
  have y0 := hC1.fn
  have hnum := number_any w.heap.size A B l1 0 hl1 _ hC1.rn
  unfold rdV at y0 hnum
  obtain ⟨y0, y0'⟩ := y0
  clear hC1 hnew hb1 hm1 hR1 hg1 hA1 hB1 hRR R
  cases r1 : Cd.rd1 l1 with
  | none =>
    have hnum' : Calls Tryz.prog 37 #[.pointer (some ⟨A, 0, none⟩), .pointer (some ⟨B, 0, none⟩)] (V1.alloc (.cells #[.func (.func 37) #[] #[.pointer (some ⟨A, 0, none⟩), .pointer (some ⟨B, 0, none⟩)], .func (.func 39) #[] #[.pointer (some ⟨A, 0, none⟩), .pointer (some ⟨B, 0, none⟩)]] 58)) fun e w' => e = .returned (.tuple #[.int .i64 0, .bool false]) ∧ ∃ q, Cs w A B V1.heap.size l1 q #[.slice none 0 0, .int .i64 0, .int .i64 0, .int .i64 0, .int .i64 0, .slice none 0 0, .slice none 0 0] w' := hnum.mono fun e w' H => by
      obtain ⟨hg, q, hr, hm⟩ := H
      rw [List.drop_zero, r1] at hm
      exact ⟨hm, q, HC1.out.kp hg hr⟩
    clear hnum r1
    go_wp2_with (go_at_call 37; refine hnum'.mono ?_; rintro e V2 ⟨rfl, q2, hC2⟩; refine Hid.out ?_)
    refine Lib.hid ?_
    clear hnum' y0 y0' HC1
    generalize V1.heap.size = R at hC2 ⊢
    have HC2 := Lib.hid hC2
    clear hC2
    have y0 := cell_of_row V2 _ 0 _ _ _ HC2.out.xr
    have y1 := cell_of_row V2 _ 1 _ _ _ HC2.out.xr
    have y2 := cell_of_row V2 _ 2 _ _ _ HC2.out.xr
    have y3 := cell_of_row V2 _ 3 _ _ _ HC2.out.xr
    have y4 := cell_of_row V2 _ 4 _ _ _ HC2.out.xr
    have y5 := cell_of_row V2 _ 5 _ _ _ HC2.out.xr
    have y6 := cell_of_row V2 _ 6 _ _ _ HC2.out.xr
    go_wp2_with (with_reducible refine hold_st ?_)
    refine Lib.hid ?_
    refine store_rowL (t0 := 27) w.heap.size #[.slice none 0 0, .int .i64 0, .int .i64 0, .int .i64 0, .int .i64 0, .slice none 0 0, .slice none 0 0] #[.slice none 0 0, .int .i64 0, .int .i64 0, .int .i64 0, .int .i64 0, .slice none 0 0, .slice none 0 0] ?qhp1 ?qhv1 ?qhg1 ?qhi1 ?qho1 ?qh11 ?qhK1
    case qhp1 => rfl
    case qhv1 => rfl
    case qhg1 => exact HC2.out.xr
    case qhi1 => kernel_rfl
    case qho1 => rfl
    case qh11 => simp [Value.oneCell']
    intro V' hV' hgV'
    have HE : Hid (BadP w (.returned (.tuple #[.agg #[.slice none 0 0, .int .i64 0, .int .i64 0, .int .i64 0, .int .i64 0, .slice none 0 0, .slice none 0 0], .bool false])) V') := Lib.hid ⟨Kp.grown HC2.out.gr (Kp.of hgV' [w.heap.size] (fun k e _ => by cases e; simp)) (fun k hk => by simp at hk; omega), none, 0, 0, 0, 0, 0, 0, none, 0, 0, none, 0, 0, rfl⟩
    have HB := Lib.hid hV'
    clear y0 y1 y2 y3 y4 y5 y6 hV' hgV'
    go_wp2
    exact bodyPost_ret (results_row_tmp rfl _ _ w.heap.size 27 _ (0, 0) _ (.bool false) rfl rfl HB.out Tryz.underlying27 rfl (by kernel_rfl)) rfl HE.out
  | some x =>
    obtain ⟨n, l2⟩ := x
    have hnum' : Calls Tryz.prog 37 #[.pointer (some ⟨A, 0, none⟩), .pointer (some ⟨B, 0, none⟩)] (V1.alloc (.cells #[.func (.func 37) #[] #[.pointer (some ⟨A, 0, none⟩), .pointer (some ⟨B, 0, none⟩)], .func (.func 39) #[] #[.pointer (some ⟨A, 0, none⟩), .pointer (some ⟨B, 0, none⟩)]] 58)) fun e w' => e = .returned (.tuple #[.int .i64 n, .bool true]) ∧ ∃ q, Cs w A B V1.heap.size l1 q #[.slice none 0 0, .int .i64 0, .int .i64 0, .int .i64 0, .int .i64 0, .slice none 0 0, .slice none 0 0] w' ∧ l1.drop q = l2 := hnum.mono fun e w' H => by
      obtain ⟨hg, q, hr, hm⟩ := H
      rw [List.drop_zero, r1] at hm
      exact ⟨hm.1, q, HC1.out.kp hg hr, hm.2⟩
    have HR1 := Lib.hid r1
    clear hnum r1
    go_wp2_with (go_at_call 37; refine hnum'.mono ?_; rintro e V2 ⟨rfl, q2, hC2, hq2⟩; refine Hid.out ?_)
    refine Lib.hid ?_
    clear hnum' y0 y0' HC1
    generalize V1.heap.size = R at hC2 ⊢
    have HC2 := Lib.hid hC2
    have hW3 := hC2.alloc (.cells (ptrs w.heap.size 1 4).toArray 62)
    have hY : (V2.alloc (.cells (ptrs w.heap.size 1 4).toArray 62)).heap[V2.heap.size]? = some (.cells (ptrs w.heap.size 1 4).toArray 62 (0, 0)) := heap_alloc_new V2 _
    have hlt2 := hC2.lt
    have hA2 := gl hC2.rn.at_
    have hX2' := gl hC2.xr
    have hns := numbers_any w.heap.size _ A B w.heap.size V2.heap.size 27 1 4 _ l1 q2 hl1 (by decide) hW3.rn hW3.xr (by decide) hY ⟨by omega, by omega, by omega, by omega⟩ (Nat.le_refl _)
    have y0 := hC2.fn
    obtain ⟨y0, y0'⟩ := y0
    cases r2 : Cd.rdN 4 l2 with
    | none =>
      have hns' : Calls Tryz.prog 23 #[.agg (rdV A B), .slice (some ⟨V2.heap.size, 0, none⟩) 4 4] (V2.alloc (.cells (ptrs w.heap.size 1 4).toArray 62)) fun e w' => e = .returned (.bool false) ∧ ∃ q x1 x2 x3 x4, Cs w A B R l1 q #[.slice none 0 0, .int .i64 x1, .int .i64 x2, .int .i64 x3, .int .i64 x4, .slice none 0 0, .slice none 0 0] w' := hns.mono fun e w' H => by
        obtain ⟨hk, q, ms, hr, hx, hml, hm⟩ := H
        rw [hq2, r2] at hm
        obtain ⟨x1, x2, x3, x4, h4⟩ := set4 ms hml
        rw [h4] at hx
        exact ⟨hm, q, x1, x2, x3, x4, hr, hx, (hk.block _ (gl hW3.rr) (by simp; have := hC2.lt; omega)).trans hW3.rr, Kp.grown hW3.gr hk (fun k hk => by simp at hk; have := hC2.lt; omega), hC2.lt⟩
      clear hns hW3 hY hlt2 hA2 hX2' hC2 hq2 r2
      unfold rdV at hns'
      go_wp2_with (go_at_call 23; refine hns'.mono ?_; rintro e V3 ⟨rfl, q3, x1, x2, x3, x4, hC3⟩; refine Hid.out ?_)
      refine Lib.hid ?_
      clear hns' y0 y0' HC2
      have HC3 := Lib.hid hC3
      clear hC3
      have y0 := cell_of_row V3 _ 0 _ _ _ HC3.out.xr
      have y1 := cell_of_row V3 _ 1 _ _ _ HC3.out.xr
      have y2 := cell_of_row V3 _ 2 _ _ _ HC3.out.xr
      have y3 := cell_of_row V3 _ 3 _ _ _ HC3.out.xr
      have y4 := cell_of_row V3 _ 4 _ _ _ HC3.out.xr
      have y5 := cell_of_row V3 _ 5 _ _ _ HC3.out.xr
      have y6 := cell_of_row V3 _ 6 _ _ _ HC3.out.xr
      go_wp2_with (with_reducible refine hold_st ?_)
      refine Lib.hid ?_
      refine store_rowL (t0 := 27) w.heap.size #[.slice none 0 0, .int .i64 x1, .int .i64 x2, .int .i64 x3, .int .i64 x4, .slice none 0 0, .slice none 0 0] #[.slice none 0 0, .int .i64 x1, .int .i64 x2, .int .i64 x3, .int .i64 x4, .slice none 0 0, .slice none 0 0] ?qhp2 ?qhv2 ?qhg2 ?qhi2 ?qho2 ?qh12 ?qhK2
      case qhp2 => rfl
      case qhv2 => rfl
      case qhg2 => exact HC3.out.xr
      case qhi2 => kernel_rfl
      case qho2 => rfl
      case qh12 => simp [Value.oneCell']
      intro V' hV' hgV'
      have HE : Hid (BadP w (.returned (.tuple #[.agg #[.slice none 0 0, .int .i64 x1, .int .i64 x2, .int .i64 x3, .int .i64 x4, .slice none 0 0, .slice none 0 0], .bool false])) V') := Lib.hid ⟨Kp.grown HC3.out.gr (Kp.of hgV' [w.heap.size] (fun k e _ => by cases e; simp)) (fun k hk => by simp at hk; omega), none, 0, 0, x1, x2, x3, x4, none, 0, 0, none, 0, 0, rfl⟩
      have HB := Lib.hid hV'
      clear y0 y1 y2 y3 y4 y5 y6 hV' hgV'
      go_wp2
      exact bodyPost_ret (results_row_tmp rfl _ _ w.heap.size 27 _ (0, 0) _ (.bool false) rfl rfl HB.out Tryz.underlying27 rfl (by kernel_rfl)) rfl HE.out
    | some x =>
      obtain ⟨ns, l3⟩ := x
      obtain ⟨a4, b4, c4, d4, rfl⟩ := rdN4 r2
      have hns' : Calls Tryz.prog 23 #[.agg (rdV A B), .slice (some ⟨V2.heap.size, 0, none⟩) 4 4] (V2.alloc (.cells (ptrs w.heap.size 1 4).toArray 62)) fun e w' => e = .returned (.bool true) ∧ ∃ q, Cs w A B R l1 q #[.slice none 0 0, .int .i64 a4, .int .i64 b4, .int .i64 c4, .int .i64 d4, .slice none 0 0, .slice none 0 0] w' ∧ l1.drop q = l3 := hns.mono fun e w' H => by
        obtain ⟨hk, q, ms, hr, hx, -, hm⟩ := H
        rw [hq2, r2] at hm
        obtain ⟨h1, h2, rfl⟩ := hm
        exact ⟨h1, q, ⟨hr, hx, (hk.block _ (gl hW3.rr) (by simp; have := hC2.lt; omega)).trans hW3.rr, Kp.grown hW3.gr hk (fun k hk => by simp at hk; have := hC2.lt; omega), hC2.lt⟩, h2⟩
      have HR2 := Lib.hid r2
      clear hns hW3 hY hlt2 hA2 hX2' hC2 hq2 r2
      unfold rdV at hns'
      go_wp2_with (go_at_call 23; refine hns'.mono ?_; rintro e V3 ⟨rfl, q3, hC3, hq3⟩; refine Hid.out ?_)
      refine Lib.hid ?_
      clear hns' y0 y0' HC2
      have HC3 := Lib.hid hC3
      obtain ⟨y0, y0'⟩ := hC3.fn
      have x0 := cell_of_row V3 _ 0 _ _ _ hC3.xr
      have f0 : V3.frozen? ⟨w.heap.size, 0, none⟩ = false := by simp [World.frozen?, hC3.xr]
      have hli := listInt_any w.heap.size V3 A B l1 q3 n 8000 hl1 (by decide) hC3.rn
      cases r3 : (if n < 0 ∨ 8000 < n then none else Cd.rdN n.toNat l3) with
      | none =>
        have hli' : Calls Tryz.prog 24 #[.int .i64 n, .int .i64 8000, .func (.func 37) #[] #[.pointer (some ⟨A, 0, none⟩), .pointer (some ⟨B, 0, none⟩)]] V3 fun e w' => e = .returned (.tuple #[.slice none 0 0, .bool false]) ∧ ∃ q, Cs w A B R l1 q #[.slice none 0 0, .int .i64 a4, .int .i64 b4, .int .i64 c4, .int .i64 d4, .slice none 0 0, .slice none 0 0] w' := hli.mono fun e w' H => by
          obtain ⟨hg, q, hr, hm⟩ := H
          rw [hq3, r3] at hm
          exact ⟨hm, q, HC3.out.kp hg hr⟩
        clear hli hq3 hC3 r3
        go_wp2_with (go_at_call 24; refine hli'.mono ?_; rintro e V4 ⟨rfl, q4, hC4⟩; have x0 := cell_of_row V4 _ 0 _ _ _ hC4.xr; have f0 : V4.frozen? ⟨w.heap.size, 0, none⟩ = false := (by simp [World.frozen?, hC4.xr]); refine Hid.out ?_)
        refine Lib.hid ?_
        have HC4s : Hid (Cs w A B R l1 q4 #[.slice none 0 0, .int .i64 a4, .int .i64 b4, .int .i64 c4, .int .i64 d4, .slice none 0 0, .slice none 0 0] (V4.setCell ⟨w.heap.size, 0, none⟩ (.slice none 0 0))) := Lib.hid (hC4.set 0 (.slice none 0 0))
        have HC4 := Lib.hid hC4
        clear hC4 hli' y0 y0' HC3
        go_upto_region 10 with fail
        have y0 := cell_of_row V4 _ 0 _ _ _ HC4.out.xr
        have y1 := cell_of_row V4 _ 1 _ _ _ HC4.out.xr
        have y2 := cell_of_row V4 _ 2 _ _ _ HC4.out.xr
        have y3 := cell_of_row V4 _ 3 _ _ _ HC4.out.xr
        have y4 := cell_of_row V4 _ 4 _ _ _ HC4.out.xr
        have y5 := cell_of_row V4 _ 5 _ _ _ HC4.out.xr
        have y6 := cell_of_row V4 _ 6 _ _ _ HC4.out.xr
        have z0 := cell_of_row (V4.setCell ⟨w.heap.size, 0, none⟩ (.slice none 0 0)) _ 0 _ _ _ HC4s.out.xr
        have z1 := cell_of_row (V4.setCell ⟨w.heap.size, 0, none⟩ (.slice none 0 0)) _ 1 _ _ _ HC4s.out.xr
        have z2 := cell_of_row (V4.setCell ⟨w.heap.size, 0, none⟩ (.slice none 0 0)) _ 2 _ _ _ HC4s.out.xr
        have z3 := cell_of_row (V4.setCell ⟨w.heap.size, 0, none⟩ (.slice none 0 0)) _ 3 _ _ _ HC4s.out.xr
        have z4 := cell_of_row (V4.setCell ⟨w.heap.size, 0, none⟩ (.slice none 0 0)) _ 4 _ _ _ HC4s.out.xr
        have z5 := cell_of_row (V4.setCell ⟨w.heap.size, 0, none⟩ (.slice none 0 0)) _ 5 _ _ _ HC4s.out.xr
        have z6 := cell_of_row (V4.setCell ⟨w.heap.size, 0, none⟩ (.slice none 0 0)) _ 6 _ _ _ HC4s.out.xr
        go_wp2_with (with_reducible refine hold_st ?_)
        refine Lib.hid ?_
        refine store_rowL (t0 := 27) w.heap.size #[.slice none 0 0, .int .i64 a4, .int .i64 b4, .int .i64 c4, .int .i64 d4, .slice none 0 0, .slice none 0 0] #[.slice none 0 0, .int .i64 a4, .int .i64 b4, .int .i64 c4, .int .i64 d4, .slice none 0 0, .slice none 0 0] ?qhp3 ?qhv3 ?qhg3 ?qhi3 ?qho3 ?qh13 ?qhK3
        case qhp3 => rfl
        case qhv3 => rfl
        case qhg3 => first | exact HC4s.out.xr | exact HC4.out.xr
        case qhi3 => kernel_rfl
        case qho3 => rfl
        case qh13 => simp [Value.oneCell']
        intro V' hV' hgV'
        have HE : Hid (BadP w (.returned (.tuple #[.agg #[.slice none 0 0, .int .i64 a4, .int .i64 b4, .int .i64 c4, .int .i64 d4, .slice none 0 0, .slice none 0 0], .bool false])) V') := Lib.hid ⟨Kp.grown (by first | exact HC4s.out.gr | exact HC4.out.gr) (Kp.of hgV' [w.heap.size] (fun k e _ => by cases e; simp)) (fun k hk => by simp at hk; omega), none, 0, 0, a4, b4, c4, d4, none, 0, 0, none, 0, 0, rfl⟩
        have HB := Lib.hid hV'
        clear y0 y1 y2 y3 y4 y5 y6 z0 z1 z2 z3 z4 z5 z6 hV' hgV'
        go_wp2
        exact bodyPost_ret (results_row_tmp rfl _ _ w.heap.size 27 _ (0, 0) _ (.bool false) rfl rfl HB.out Tryz.underlying27 rfl (by kernel_rfl)) rfl HE.out
      | some x =>
        obtain ⟨ks, l4⟩ := x
        have hn8 : ¬ (n < 0 ∨ 8000 < n) := fun h => by rw [if_pos h] at r3; cases r3
        rw [if_neg hn8] at r3
        have hkl := rdN_len _ _ _ _ r3
        obtain ⟨K, hK⟩ : ∃ K, K = ks.length := ⟨_, rfl⟩
        have hnK : n = (K : Int) := by omega
        have hK8 : K ≤ 8000 := by omega
        have hli' : Calls Tryz.prog 24 #[.int .i64 n, .int .i64 8000, .func (.func 37) #[] #[.pointer (some ⟨A, 0, none⟩), .pointer (some ⟨B, 0, none⟩)]] V3 fun e w' => ∃ ka kc, e = .returned (.tuple #[.slice ka K kc, .bool true]) ∧ ∃ q, Cs w A B R l1 q #[.slice none 0 0, .int .i64 a4, .int .i64 b4, .int .i64 c4, .int .i64 d4, .slice none 0 0, .slice none 0 0] w' ∧ l1.drop q = l4 := hli.mono fun e w' H => by
          obtain ⟨hg, q, hr, hm⟩ := H
          rw [if_neg hn8, hq3, r3] at hm
          obtain ⟨v, h1, h2, h3⟩ := hm
          obtain ⟨ka, kc, hv, -⟩ := NumsAt.own h2
          subst hv
          rw [← hK] at h1
          exact ⟨ka, kc, h1, q, HC3.out.kp hg hr, h3⟩
        have HR3 := Lib.hid (And.intro r3 (And.intro hK hnK))
        clear hli hq3 hC3 r3 hkl hK hn8
        subst hnK
        go_wp2_with (go_at_call 24; refine hli'.mono ?_; rintro e V4 ⟨ka, kc, rfl, q4, hC4, hq4⟩; have x0 := cell_of_row V4 _ 0 _ _ _ hC4.xr; have f0 : V4.frozen? ⟨w.heap.size, 0, none⟩ = false := (by simp [World.frozen?, hC4.xr]); refine Hid.out ?_)
        refine Lib.hid ?_
        have hC4s : Cs w A B R l1 q4 #[.slice ka K kc, .int .i64 a4, .int .i64 b4, .int .i64 c4, .int .i64 d4, .slice none 0 0, .slice none 0 0] (V4.setCell ⟨w.heap.size, 0, none⟩ (.slice ka K kc)) := hC4.set 0 (.slice ka K kc)
        have HC4 := Lib.hid hC4s
        have yy0 := hC4s.fn.1
        have x3 := cell_of_row _ _ 3 _ _ _ hC4s.xr
        have hlj := listInt_any w.heap.size _ A B l1 q4 c4 (K : Int) hl1 (by omega) hC4s.rn
        cases r4 : (if c4 < 0 ∨ (K : Int) < c4 then none else Cd.rdN c4.toNat l4) with
        | none =>
          have hlj' : Calls Tryz.prog 24 #[.int .i64 c4, .int .i64 (K : Int), .func (.func 37) #[] #[.pointer (some ⟨A, 0, none⟩), .pointer (some ⟨B, 0, none⟩)]] (V4.setCell ⟨w.heap.size, 0, none⟩ (.slice ka K kc)) fun e w' => e = .returned (.tuple #[.slice none 0 0, .bool false]) ∧ ∃ q, Cs w A B R l1 q #[.slice ka K kc, .int .i64 a4, .int .i64 b4, .int .i64 c4, .int .i64 d4, .slice none 0 0, .slice none 0 0] w' := hlj.mono fun e w' H => by
            obtain ⟨hg, q, hr, hm⟩ := H
            rw [hq4, r4] at hm
            exact ⟨hm, q, HC4.out.kp hg hr⟩
          clear hlj hq4 hC4 hC4s hli' y0 y0' HC3 r4
          go_wp2_with (go_at_call 24; refine hlj'.mono ?_; rintro e V5 ⟨rfl, q5, hC5⟩; have x5 := cell_of_row V5 _ 5 _ _ _ hC5.xr; have f5 : V5.frozen? ⟨w.heap.size, 5, none⟩ = false := (by simp [World.frozen?, hC5.xr]); refine Hid.out ?_)
          refine Lib.hid ?_
          have HC5s : Hid (Cs w A B R l1 q5 #[.slice ka K kc, .int .i64 a4, .int .i64 b4, .int .i64 c4, .int .i64 d4, .slice none 0 0, .slice none 0 0] (V5.setCell ⟨w.heap.size, 5, none⟩ (.slice none 0 0))) := Lib.hid (hC5.set 5 (.slice none 0 0))
          have HC5 := Lib.hid hC5
          clear hC5 hlj' HC4 x3 yy0
          go_upto_region 13 with fail
          have y0 := cell_of_row V5 _ 0 _ _ _ HC5.out.xr
          have y1 := cell_of_row V5 _ 1 _ _ _ HC5.out.xr
          have y2 := cell_of_row V5 _ 2 _ _ _ HC5.out.xr
          have y3 := cell_of_row V5 _ 3 _ _ _ HC5.out.xr
          have y4 := cell_of_row V5 _ 4 _ _ _ HC5.out.xr
          have y5 := cell_of_row V5 _ 5 _ _ _ HC5.out.xr
          have y6 := cell_of_row V5 _ 6 _ _ _ HC5.out.xr
          have z0 := cell_of_row (V5.setCell ⟨w.heap.size, 5, none⟩ (.slice none 0 0)) _ 0 _ _ _ HC5s.out.xr
          have z1 := cell_of_row (V5.setCell ⟨w.heap.size, 5, none⟩ (.slice none 0 0)) _ 1 _ _ _ HC5s.out.xr
          have z2 := cell_of_row (V5.setCell ⟨w.heap.size, 5, none⟩ (.slice none 0 0)) _ 2 _ _ _ HC5s.out.xr
          have z3 := cell_of_row (V5.setCell ⟨w.heap.size, 5, none⟩ (.slice none 0 0)) _ 3 _ _ _ HC5s.out.xr
          have z4 := cell_of_row (V5.setCell ⟨w.heap.size, 5, none⟩ (.slice none 0 0)) _ 4 _ _ _ HC5s.out.xr
          have z5 := cell_of_row (V5.setCell ⟨w.heap.size, 5, none⟩ (.slice none 0 0)) _ 5 _ _ _ HC5s.out.xr
          have z6 := cell_of_row (V5.setCell ⟨w.heap.size, 5, none⟩ (.slice none 0 0)) _ 6 _ _ _ HC5s.out.xr
          go_wp2_with (with_reducible refine hold_st ?_)
          refine Lib.hid ?_
          refine store_rowL (t0 := 27) w.heap.size #[.slice ka K kc, .int .i64 a4, .int .i64 b4, .int .i64 c4, .int .i64 d4, .slice none 0 0, .slice none 0 0] #[.slice ka K kc, .int .i64 a4, .int .i64 b4, .int .i64 c4, .int .i64 d4, .slice none 0 0, .slice none 0 0] ?qhp4 ?qhv4 ?qhg4 ?qhi4 ?qho4 ?qh14 ?qhK4
          case qhp4 => rfl
          case qhv4 => rfl
          case qhg4 => first | exact HC5s.out.xr | exact HC5.out.xr
          case qhi4 => kernel_rfl
          case qho4 => rfl
          case qh14 => simp [Value.oneCell']
          intro V' hV' hgV'
          have HE : Hid (BadP w (.returned (.tuple #[.agg #[.slice ka K kc, .int .i64 a4, .int .i64 b4, .int .i64 c4, .int .i64 d4, .slice none 0 0, .slice none 0 0], .bool false])) V') := Lib.hid ⟨Kp.grown (by first | exact HC5s.out.gr | exact HC5.out.gr) (Kp.of hgV' [w.heap.size] (fun k e _ => by cases e; simp)) (fun k hk => by simp at hk; omega), ka, K, kc, a4, b4, c4, d4, none, 0, 0, none, 0, 0, rfl⟩
          have HB := Lib.hid hV'
          clear y0 y1 y2 y3 y4 y5 y6 z0 z1 z2 z3 z4 z5 z6 hV' hgV'
          go_wp2
          exact bodyPost_ret (results_row_tmp rfl _ _ w.heap.size 27 _ (0, 0) _ (.bool false) rfl rfl HB.out Tryz.underlying27 rfl (by kernel_rfl)) rfl HE.out
        | some x =>
          obtain ⟨is, l5⟩ := x
          have hn9 : ¬ (c4 < 0 ∨ (K : Int) < c4) := fun h => by rw [if_pos h] at r4; cases r4
          rw [if_neg hn9] at r4
          have hil := rdN_len _ _ _ _ r4
          obtain ⟨I, hI⟩ : ∃ I, I = is.length := ⟨_, rfl⟩
          have hlj' : Calls Tryz.prog 24 #[.int .i64 c4, .int .i64 (K : Int), .func (.func 37) #[] #[.pointer (some ⟨A, 0, none⟩), .pointer (some ⟨B, 0, none⟩)]] (V4.setCell ⟨w.heap.size, 0, none⟩ (.slice ka K kc)) fun e w' => ∃ ia ic, e = .returned (.tuple #[.slice ia I ic, .bool true]) ∧ ∃ q, Cs w A B R l1 q #[.slice ka K kc, .int .i64 a4, .int .i64 b4, .int .i64 c4, .int .i64 d4, .slice none 0 0, .slice none 0 0] w' ∧ l1.drop q = l5 := hlj.mono fun e w' H => by
            obtain ⟨hg, q, hr, hm⟩ := H
            rw [if_neg hn9, hq4, r4] at hm
            obtain ⟨v, h1, h2, h3⟩ := hm
            obtain ⟨ia, ic, hv, -⟩ := NumsAt.own h2
            subst hv
            rw [← hI] at h1
            exact ⟨ia, ic, h1, q, HC4.out.kp hg hr, h3⟩
          have HR4 := Lib.hid (And.intro r4 (And.intro hI hn9))
          clear hlj hq4 hC4 hC4s hli' y0 y0' HC3 r4 hI
          go_wp2_with (go_at_call 24; refine hlj'.mono ?_; rintro e V5 ⟨ia, ic, rfl, q5, hC5, hq5⟩; have x5 := cell_of_row V5 _ 5 _ _ _ hC5.xr; have f5 : V5.frozen? ⟨w.heap.size, 5, none⟩ = false := (by simp [World.frozen?, hC5.xr]); refine Hid.out ?_)
          refine Lib.hid ?_
          have hC5s : Cs w A B R l1 q5 #[.slice ka K kc, .int .i64 a4, .int .i64 b4, .int .i64 c4, .int .i64 d4, .slice ia I ic, .slice none 0 0] (V5.setCell ⟨w.heap.size, 5, none⟩ (.slice ia I ic)) := hC5.set 5 (.slice ia I ic)
          have HC5 := Lib.hid hC5s
          have yy1 := hC5s.fn.1
          have hnum := number_any w.heap.size A B l1 q5 hl1 _ hC5s.rn
          cases r5 : Cd.rd1 l5 with
          | none =>
            have hnum' : Calls Tryz.prog 37 #[.pointer (some ⟨A, 0, none⟩), .pointer (some ⟨B, 0, none⟩)] (V5.setCell ⟨w.heap.size, 5, none⟩ (.slice ia I ic)) fun e w' => e = .returned (.tuple #[.int .i64 0, .bool false]) ∧ ∃ q, Cs w A B R l1 q #[.slice ka K kc, .int .i64 a4, .int .i64 b4, .int .i64 c4, .int .i64 d4, .slice ia I ic, .slice none 0 0] w' := hnum.mono fun e w' H => by
              obtain ⟨hg, q, hr, hm⟩ := H
              rw [hq5, r5] at hm
              exact ⟨hm, q, HC5.out.kp hg hr⟩
            clear hnum hq5 hC5 hC5s hlj' yy0 x3 HC4 r5
            go_wp2_with (go_at_call 37; refine hnum'.mono ?_; rintro e V6 ⟨rfl, q6, hC6⟩; refine Hid.out ?_)
            refine Lib.hid ?_
            have HC6 := Lib.hid hC6
            clear hC6 hnum' HC5 yy1
            have y0 := cell_of_row V6 _ 0 _ _ _ HC6.out.xr
            have y1 := cell_of_row V6 _ 1 _ _ _ HC6.out.xr
            have y2 := cell_of_row V6 _ 2 _ _ _ HC6.out.xr
            have y3 := cell_of_row V6 _ 3 _ _ _ HC6.out.xr
            have y4 := cell_of_row V6 _ 4 _ _ _ HC6.out.xr
            have y5 := cell_of_row V6 _ 5 _ _ _ HC6.out.xr
            have y6 := cell_of_row V6 _ 6 _ _ _ HC6.out.xr
            go_wp2_with (with_reducible refine hold_st ?_)
            refine Lib.hid ?_
            refine store_rowL (t0 := 27) w.heap.size #[.slice ka K kc, .int .i64 a4, .int .i64 b4, .int .i64 c4, .int .i64 d4, .slice ia I ic, .slice none 0 0] #[.slice ka K kc, .int .i64 a4, .int .i64 b4, .int .i64 c4, .int .i64 d4, .slice ia I ic, .slice none 0 0] ?qhp5 ?qhv5 ?qhg5 ?qhi5 ?qho5 ?qh15 ?qhK5
            case qhp5 => rfl
            case qhv5 => rfl
            case qhg5 => exact HC6.out.xr
            case qhi5 => kernel_rfl
            case qho5 => rfl
            case qh15 => simp [Value.oneCell']
            intro V' hV' hgV'
            have HE : Hid (BadP w (.returned (.tuple #[.agg #[.slice ka K kc, .int .i64 a4, .int .i64 b4, .int .i64 c4, .int .i64 d4, .slice ia I ic, .slice none 0 0], .bool false])) V') := Lib.hid ⟨Kp.grown HC6.out.gr (Kp.of hgV' [w.heap.size] (fun k e _ => by cases e; simp)) (fun k hk => by simp at hk; omega), ka, K, kc, a4, b4, c4, d4, ia, I, ic, none, 0, 0, rfl⟩
            have HB := Lib.hid hV'
            clear y0 y1 y2 y3 y4 y5 y6 hV' hgV'
            go_wp2
            exact bodyPost_ret (results_row_tmp rfl _ _ w.heap.size 27 _ (0, 0) _ (.bool false) rfl rfl HB.out Tryz.underlying27 rfl (by kernel_rfl)) rfl HE.out
          | some x =>
            obtain ⟨m, l6⟩ := x
            have hnum' : Calls Tryz.prog 37 #[.pointer (some ⟨A, 0, none⟩), .pointer (some ⟨B, 0, none⟩)] (V5.setCell ⟨w.heap.size, 5, none⟩ (.slice ia I ic)) fun e w' => e = .returned (.tuple #[.int .i64 m, .bool true]) ∧ ∃ q, Cs w A B R l1 q #[.slice ka K kc, .int .i64 a4, .int .i64 b4, .int .i64 c4, .int .i64 d4, .slice ia I ic, .slice none 0 0] w' ∧ l1.drop q = l6 := hnum.mono fun e w' H => by
              obtain ⟨hg, q, hr, hm⟩ := H
              rw [hq5, r5] at hm
              exact ⟨hm.1, q, HC5.out.kp hg hr, hm.2⟩
            have HR5 := Lib.hid r5
            clear hnum hq5 hC5 hC5s hlj' yy0 x3 HC4 r5
            go_wp2_with (go_at_call 37; refine hnum'.mono ?_; rintro e V6 ⟨rfl, q6, hC6, hq6⟩; refine Hid.out ?_)
            refine Lib.hid ?_
            have HC6 := Lib.hid hC6
            obtain ⟨z0, z1⟩ := hC6.fn
            have hlx := listIns_any w.heap.size V6 A B l1 q6 m 60000 hl1 (by decide) hC6.rn (by have := gl hC6.xr; omega)
            cases r6 : (if m < 0 ∨ 60000 < m then none else Cd.rdI m.toNat l6) with
            | none =>
              have hlx' : Calls Tryz.prog 25 #[.int .i64 m, .int .i64 60000, .func (.func 26) #[.agg (rdV A B)] #[]] V6 fun e w' => e = .returned (.tuple #[.slice none 0 0, .bool false]) ∧ ∃ q, Cs w A B R l1 q #[.slice ka K kc, .int .i64 a4, .int .i64 b4, .int .i64 c4, .int .i64 d4, .slice ia I ic, .slice none 0 0] w' := hlx.mono fun e w' H => by
                obtain ⟨hg, q, hr, hm⟩ := H
                rw [hq6, r6] at hm
                exact ⟨hm, q, HC6.out.kp hg hr⟩
              clear hlx hq6 hC6 hnum' yy1 HC5 r6
              unfold rdV at hlx'
              go_wp2_with (go_at_call 25; refine hlx'.mono ?_; rintro e V7 ⟨rfl, q7, hC7⟩; have x6 := cell_of_row V7 _ 6 _ _ _ hC7.xr; have f6 : V7.frozen? ⟨w.heap.size, 6, none⟩ = false := (by simp [World.frozen?, hC7.xr]); refine Hid.out ?_)
              refine Lib.hid ?_
              clear hlx' HC6 z0 z1
              have hC7s : Cs w A B R l1 q7 #[.slice ka K kc, .int .i64 a4, .int .i64 b4, .int .i64 c4, .int .i64 d4, .slice ia I ic, .slice none 0 0] (V7.setCell ⟨w.heap.size, 6, none⟩ (.slice none 0 0)) := hC7.set 6 (.slice none 0 0)
              go_upto_region 18 with fail
              obtain ⟨V8, hV8, hC8⟩ : ∃ V8, V8 = V7.setCell ⟨w.heap.size, 6, none⟩ (.slice none 0 0) ∧ Cs w A B R l1 q7 #[.slice ka K kc, .int .i64 a4, .int .i64 b4, .int .i64 c4, .int .i64 d4, .slice ia I ic, .slice none 0 0] V8 := ⟨_, rfl, hC7s⟩
              have HC8 := Lib.hid hC8
              rw [← hV8]
              clear hC7 hC7s x6 f6
              have hS0 : Cs w A B R l1 q7 #[.slice ka K kc, .int .i64 a4, .int .i64 b4, .int .i64 c4, .int .i64 d4, .slice ia I ic, .slice none 0 0] V8.drew := ⟨⟨hC8.rn.at_, hC8.rn.box, hC8.rn.hA, hC8.rn.hB, hC8.rn.ne, hC8.rn.le⟩, hC8.xr, hC8.rr, ⟨hC8.gr.os, hC8.gr.tape, hC8.gr.output, hC8.gr.size, hC8.gr.block⟩, hC8.lt⟩

              clear hV8 hC8
              refine wp_region_L (S := fun V => Cs w A B R l1 q7 #[.slice ka K kc, .int .i64 a4, .int .i64 b4, .int .i64 c4, .int .i64 d4, .slice ia I ic, .slice none 0 0] V) (Z := []) (by kernel_rfl) ?_
              have HD : Hid (Kp [A, w.heap.size] V8 V8.drew) := Lib.hid (Kp.refl _ _).drew
              generalize V8.drew = V9 at *
              refine t2 0 80 (.agg #[.slice ka K kc, .int .i64 a4, .int .i64 b4, .int .i64 c4, .int .i64 d4, .slice ia I ic, .slice none 0 0]) (fun w' hw' => ?_) hS0 ?_
              · exact exec_load_mid 27 _ rfl w.heap.size 0 rfl _ _ (row_range hw'.xr) Tryz.underlying27 rfl (by kernel_rfl)
              (try simp only [Act.put, sA, sB, sC])
              refine t1 1 81 (.bool false) hS0 ?_
              (try simp only [Act.put, sA, sB, sC])
              refine t1 2 82 (.bool false) hS0 ?_
              (try simp only [Act.put, sA, sB, sC])
              refine t3 3 83 hS0 ?_
              (try simp only [Act.put, sA, sB, sC])
              refine t3 4 84 hS0 ?_
              (try simp only [Act.put, sA, sB, sC])
              refine t3 5 85 hS0 ?_
              (try simp only [Act.put, sA, sB, sC])
              refine t1 6 86 (.bool false) hS0 ?_
              (try simp only [Act.put, sA, sB, sC])
              refine wpL_store (i := 7) w.heap.size #[.slice ka K kc, .int .i64 a4, .int .i64 b4, .int .i64 c4, .int .i64 d4, .slice ia I ic, .slice none 0 0] #[.slice ka K kc, .int .i64 a4, .int .i64 b4, .int .i64 c4, .int .i64 d4, .slice ia I ic, .slice none 0 0] 27 27 (.tmp 2) (.tmp 80) (by kernel_rfl) rfl (by kernel_rfl) rfl rfl rfl rfl hS0.xr (by kernel_rfl) rfl (by simp [Value.oneCell']) (fun V hbV hgV => and2 ?_ (fun hSV => ?_))
              · have hk : Kp [w.heap.size] V9 V := Kp.of hgV _ (fun k e _ => by cases e; simp)
                have := hS0.lt
                exact ⟨hS0.rn.kp hk (by simp; omega) (by simp; omega) (fun x hx => by simp at hx; omega), hbV, (hk.block _ (gl hS0.rr) (by simp; omega)).trans hS0.rr, Kp.grown hS0.gr hk (fun k hk => by simp at hk; omega), hS0.lt⟩
              have hk : Kp [A, w.heap.size] V8 V := HD.out.trans (Kp.of hgV _ (fun k e _ => by cases e; simp))
              have HE : Hid (BadP w (.returned (.tuple #[.agg #[.slice ka K kc, .int .i64 a4, .int .i64 b4, .int .i64 c4, .int .i64 d4, .slice ia I ic, .slice none 0 0], .bool false])) V) := Lib.hid ⟨Kp.grown HC8.out.gr hk (fun k hk => by simp at hk; have := HC8.out.lt; omega), ka, K, kc, a4, b4, c4, d4, ia, I, ic, none, 0, 0, rfl⟩
              have HB := Lib.hid hbV
              clear hk hbV hgV hS0
              refine t1 8 3 (.bool false) hSV ?_
              (try simp only [Act.put, sA, sB, sC])
              clear hSV
              refine wpL_done (by kernel_rfl) ?_ _
              go_wp2
              exact bodyPost_ret (results_row_tmp rfl _ _ w.heap.size 27 _ (0, 0) _ (.bool false) rfl rfl HB.out Tryz.underlying27 rfl (by kernel_rfl)) rfl HE.out
            | some x =>
              obtain ⟨bs, l7⟩ := x
              have hn7 : ¬ (m < 0 ∨ 60000 < m) := fun h => by rw [if_pos h] at r6; cases r6
              rw [if_neg hn7] at r6
              have hbl := rdI_len _ _ _ _ r6
              obtain ⟨Bn, hBn⟩ : ∃ Bn, Bn = bs.length := ⟨_, rfl⟩
              have hlx' : Calls Tryz.prog 25 #[.int .i64 m, .int .i64 60000, .func (.func 26) #[.agg (rdV A B)] #[]] V6 fun e w' => ∃ ba bc, e = .returned (.tuple #[.slice ba Bn bc, .bool true]) ∧ ∃ q, Cs w A B R l1 q #[.slice ka K kc, .int .i64 a4, .int .i64 b4, .int .i64 c4, .int .i64 d4, .slice ia I ic, .slice none 0 0] w' ∧ l1.drop q = l7 := hlx.mono fun e w' H => by
                obtain ⟨hg, q, hr, hm⟩ := H
                rw [if_neg hn7, hq6, r6] at hm
                obtain ⟨v, h1, h2, h3⟩ := hm
                obtain ⟨ba, bc, hv, hin⟩ := InssAt.own h2
                subst hv
                rw [← hBn] at h1
                exact ⟨ba, bc, h1, q, HC6.out.kp hg hr, h3⟩
              have HNE : Hid (∀ q, l1.drop q = l7 → q ≠ l1.length) := Lib.hid (fun q hq e => by
                rw [e, List.drop_length] at hq
                subst hq
                have h1 := HR1.out
                obtain ⟨h3, h4, h5⟩ := HR4.out
                have h6 := rdN_len _ _ _ _ h3
                have h7 := HR3.out
                have h71 := h7.2.1
                refine HNO.out { kinds := ks, ins := a4, outs := b4, cells := c4, stack := d4, init := is, body := bs } ⟨⟨l2, l3, l4, l5, l6, ?_, HR2.out, ?_, ?_, ?_, ?_⟩, ?_, ?_, ?_, ?_⟩
                · show Cd.rd1 l1 = some ((ks.length : Int), l2)
                  rw [← h7.2.1]; exact h1
                · show Cd.rdN ks.length l3 = some (ks, l4)
                  rw [← h7.2.1]; exact h7.1
                · show Cd.rdN is.length l4 = some (is, l5)
                  rw [h6]; exact h3
                · show Cd.rd1 l5 = some ((bs.length : Int), l6)
                  rw [hbl, show ((m.toNat : Nat) : Int) = m by omega]; exact HR5.out
                · show Cd.rdI bs.length l6 = some (bs, [])
                  rw [hbl]; exact r6
                · show ks.length ≤ 8000
                  omega
                · show (is.length : Int) = c4
                  omega
                · show is.length ≤ ks.length
                  omega
                · show bs.length ≤ 60000
                  omega)
              clear hlx hq6 hC6 hnum' yy1 HC5 r6 hbl hBn
              unfold rdV at hlx'
              go_wp2_with (go_at_call 25; refine hlx'.mono ?_; rintro e V7 ⟨ba, bc, rfl, q7, hC7, hq7⟩; have x6 := cell_of_row V7 _ 6 _ _ _ hC7.xr; have f6 : V7.frozen? ⟨w.heap.size, 6, none⟩ = false := (by simp [World.frozen?, hC7.xr]); refine Hid.out ?_)
              refine Lib.hid ?_
              clear hlx' HC6 z0 z1
              have hne := HNE.out q7 hq7
              have hC7s : Cs w A B R l1 q7 #[.slice ka K kc, .int .i64 a4, .int .i64 b4, .int .i64 c4, .int .i64 d4, .slice ia I ic, .slice ba Bn bc] (V7.setCell ⟨w.heap.size, 6, none⟩ (.slice ba Bn bc)) := hC7.set 6 (.slice ba Bn bc)
              go_upto_region 18 with fail
              obtain ⟨V8, hV8, hC8⟩ : ∃ V8, V8 = V7.setCell ⟨w.heap.size, 6, none⟩ (.slice ba Bn bc) ∧ Cs w A B R l1 q7 #[.slice ka K kc, .int .i64 a4, .int .i64 b4, .int .i64 c4, .int .i64 d4, .slice ia I ic, .slice ba Bn bc] V8 := ⟨_, rfl, hC7s⟩
              have HC8 := Lib.hid hC8
              rw [← hV8]
              clear hC7 hC7s x6 f6 hq7
              have hS0 : Cs w A B R l1 q7 #[.slice ka K kc, .int .i64 a4, .int .i64 b4, .int .i64 c4, .int .i64 d4, .slice ia I ic, .slice ba Bn bc] V8.drew := ⟨⟨hC8.rn.at_, hC8.rn.box, hC8.rn.hA, hC8.rn.hB, hC8.rn.ne, hC8.rn.le⟩, hC8.xr, hC8.rr, ⟨hC8.gr.os, hC8.gr.tape, hC8.gr.output, hC8.gr.size, hC8.gr.block⟩, hC8.lt⟩
              have hend := atEnd_any w.heap.size A B l1 q7 V8.drew hS0.rn
              rw [decide_eq_false hne] at hend
              clear hne
              clear hV8 hC8
              refine wp_region_L (S := fun V => Cs w A B R l1 q7 #[.slice ka K kc, .int .i64 a4, .int .i64 b4, .int .i64 c4, .int .i64 d4, .slice ia I ic, .slice ba Bn bc] V) (Z := []) (by kernel_rfl) ?_
              have HD : Hid (Kp [A, w.heap.size] V8 V8.drew) := Lib.hid (Kp.refl _ _).drew
              generalize V8.drew = V9 at *
              refine t2 0 80 (.agg #[.slice ka K kc, .int .i64 a4, .int .i64 b4, .int .i64 c4, .int .i64 d4, .slice ia I ic, .slice ba Bn bc]) (fun w' hw' => ?_) hS0 ?_
              · exact exec_load_mid 27 _ rfl w.heap.size 0 rfl _ _ (row_range hw'.xr) Tryz.underlying27 rfl (by kernel_rfl)
              (try simp only [Act.put, sA, sB, sC])
              refine t1 1 81 (.bool true) hS0 ?_
              (try simp only [Act.put, sA, sB, sC])
              refine t1 2 82 (.bool true) hS0 ?_
              (try simp only [Act.put, sA, sB, sC])
              refine t1 3 83 (.pointer (some ⟨R, 1, none⟩)) hS0 ?_
              (try simp only [Act.put, sA, sB, sC])
              refine t2 4 84 (.func (.func 39) #[] #[.pointer (some ⟨A, 0, none⟩), .pointer (some ⟨B, 0, none⟩)]) (fun w' hw' => ?_) hS0 ?_
              · have hc0 := hw'.fn.2; clear hw'; go_simp
              (try simp only [Act.put, sA, sB, sC])
              refine wpL_call (i := 5) (d := 85) (R := fun v w' => v = .bool false ∧ w' = V9) (by kernel_rfl) rfl rfl (by kernel_rfl) (by kernel_rfl) (hend.mono fun e w' he => ⟨_, he.1, rfl, he.2⟩) (fun v w' hR => by rw [hR.2]; exact hS0) (fun v w' hR => ?_)
              obtain ⟨rfl, hw⟩ := hR
              obtain rfl := hw.symm
              (try simp only [Act.put, sA, sB, sC])
              refine t1 6 86 (.bool false) hS0 ?_
              (try simp only [Act.put, sA, sB, sC])
              refine wpL_store (i := 7) w.heap.size #[.slice ka K kc, .int .i64 a4, .int .i64 b4, .int .i64 c4, .int .i64 d4, .slice ia I ic, .slice ba Bn bc] #[.slice ka K kc, .int .i64 a4, .int .i64 b4, .int .i64 c4, .int .i64 d4, .slice ia I ic, .slice ba Bn bc] 27 27 (.tmp 2) (.tmp 80) (by kernel_rfl) rfl (by kernel_rfl) rfl rfl rfl rfl hS0.xr (by kernel_rfl) rfl (by simp [Value.oneCell']) (fun V hbV hgV => and2 ?_ (fun hSV => ?_))
              · have hk : Kp [w.heap.size] V9 V := Kp.of hgV _ (fun k e _ => by cases e; simp)
                have := hS0.lt
                exact ⟨hS0.rn.kp hk (by simp; omega) (by simp; omega) (fun x hx => by simp at hx; omega), hbV, (hk.block _ (gl hS0.rr) (by simp; omega)).trans hS0.rr, Kp.grown hS0.gr hk (fun k hk => by simp at hk; omega), hS0.lt⟩
              have hk : Kp [A, w.heap.size] V8 V := HD.out.trans (Kp.of hgV _ (fun k e _ => by cases e; simp))
              have HE : Hid (BadP w (.returned (.tuple #[.agg #[.slice ka K kc, .int .i64 a4, .int .i64 b4, .int .i64 c4, .int .i64 d4, .slice ia I ic, .slice ba Bn bc], .bool false])) V) := Lib.hid ⟨Kp.grown HC8.out.gr hk (fun k hk => by simp at hk; have := HC8.out.lt; omega), ka, K, kc, a4, b4, c4, d4, ia, I, ic, ba, Bn, bc, rfl⟩
              have HB := Lib.hid hbV
              clear hk hbV hgV hS0
              refine t1 8 3 (.bool false) hSV ?_
              (try simp only [Act.put, sA, sB, sC])
              clear hSV
              refine wpL_done (by kernel_rfl) ?_ _
              go_wp2
              exact bodyPost_ret (results_row_tmp rfl _ _ w.heap.size 27 _ (0, 0) _ (.bool false) rfl rfl HB.out Tryz.underlying27 rfl (by kernel_rfl)) rfl HE.out
end Go.Proofs.YtfbhflpjhbemlaaGreat
