/- Stage 19: code.Parse of what was written answers code in blocks of its own; code.Parse at every text (written by mkgdn.py, out of CgL). -/
import Derived.Test.YtfbhflpjhbemlaaGreatGdN
namespace Go.Proofs.YtfbhflpjhbemlaaGreat
open Go.RowKit Go.Maps Go.WideMaps

def PrQ (w : World) (c : Cd.Code) (e : Ending) (V : World) : Prop :=
  w.grownBy V none ∧ ∃ ka kc ia ic ba bc, e = .returned (.tuple #[.agg (codeV c ka kc ia ic ba bc), .int .i64 0]) ∧ Fr w.heap.size V c ka ia ba ∧ V.ownsRow w.heap.size 32 3 (.slice ba c.body.length bc) c.body.length (insC c.body)
/-- what code.Parse answers, at every text -/
def PqP (w : World) (l : List UInt8) (e : Ending) (V : World) : Prop := w.grownBy V none ∧ ∃ ka kc ia ic ba bc, e = .returned (.tuple #[.agg (codeV (Cd.pq l).1 ka kc ia ic ba bc), .int .i64 (Cd.pq l).2]) ∧ Fr w.heap.size V (Cd.pq l).1 ka ia ba ∧ V.ownsRow w.heap.size 32 3 (.slice ba (Cd.pq l).1.body.length bc) (Cd.pq l).1.body.length (insC (Cd.pq l).1.body)
set_option maxHeartbeats 8000000 in
set_option maxRecDepth 100000 in
theorem cread_fr (w : World) (c : Cd.Code) (a : Option Addr) (cap : Nat) (hb : BytesAt w a (Cd.write c)) (hcap : (Cd.write c).length ≤ cap) (hl : (Cd.write c).length ≤ 4000000) (hz : Cd.check c = 0) (h64 : I64s c) :
    Calls Tryz.prog 5 #[.slice a (Cd.write c).length cap] w (PrQ w c) := by
  obtain ⟨l1, hw, hr⟩ := rds_write hz h64
  rw [hw] at hb hcap hl ⊢
  obtain ⟨W1, hW1⟩ : ∃ W1, W1 = w.alloc (.cells #[.slice none 0 0, .int .i64 0, .int .i64 0, .int .i64 0, .int .i64 0, .slice none 0 0, .slice none 0 0] 27) := ⟨_, rfl⟩
  have hz1 : W1.heap.size = w.heap.size + 1 := by rw [hW1, World.size_alloc]
  have hX1 : W1.heap[w.heap.size]? = some (.cells #[.slice none 0 0, .int .i64 0, .int .i64 0, .int .i64 0, .int .i64 0, .slice none 0 0, .slice none 0 0] 27 (0, 0)) := by rw [hW1]; exact heap_alloc_new w _
  have hg1 : w.grownBy W1 none := by rw [hW1]; exact World.grownBy_alloc w _ none
  have hb1 : BytesAt W1 a (Cd.magic ++ l1) := fun i b h => by
    obtain ⟨g, o, e, hc⟩ := hb i b h
    exact ⟨g, o, e, hg1.cell hc (by simp)⟩
  have hco := codeOf_own W1 c l1 a cap hr hb1 hcap hl
  obtain ⟨LL, hLL⟩ : ∃ LL, LL = (Cd.magic ++ l1).length := ⟨_, rfl⟩
  rw [← hLL] at hco hl ⊢
  have e1 : decide ((4000000 : Int) < (LL : Int)) = false := by rw [decide_eq_false_iff_not]; omega
  rw [hW1] at hco
  have HX1 := Lib.hid (And.intro hz1 (And.intro hX1 hg1))
  have HW1 := Lib.hid hW1
  have HCK := Lib.hid (fun V ka kc ia ic ba bc h hk => ccheck_any V c ka kc ia ic ba bc h h64 hk)
  have HZ := Lib.hid hz
  clear hW1 hX1 hg1 hb1 hb hcap hr hw h64 hz hz1 hLL
  go_enter Tryz.func5, Tryz.ntmps5
  go_wp2_with (first | (go_at_call 12; refine hco.mono ?_; rintro e w1 ⟨hg1, ka, kc, ia, ic, ba, bc, rfl, hcode, hkc⟩; refine Hid.out ?_))
  refine Lib.hid ?_
  clear hco
  unfold codeV
  rw [← HW1.out] at hg1 hcode
  have hX2 := (hg1.block _ (gl HX1.out.2.1) (by simp)).trans HX1.out.2.1
  have hchk := HCK.out (w1.alloc (.cells (codeV c ka kc ia ic ba bc) 27)) ka kc ia ic ba bc (hcode w.heap.size _ (by rw [HX1.out.1]; omega) (Kp.of0 (World.grownBy_alloc w1 _ none) _)).1 hkc
  rw [HZ.out] at hchk
  have HH : Hid (w1.heap[w.heap.size]? = some (.cells #[.slice none 0 0, .int .i64 0, .int .i64 0, .int .i64 0, .int .i64 0, .slice none 0 0, .slice none 0 0] 27 (0, 0)) ∧ w.grownBy w1 none ∧ ∀ V, Kp [w.heap.size] w1 V → Fr w.heap.size V c ka ia ba ∧ V.ownsRow w.heap.size 32 3 (.slice ba c.body.length bc) c.body.length (insC c.body)) := Lib.hid ⟨hX2, HX1.out.2.2.trans hg1, fun V hk => by
      have hf := (fr_of (B := w.heap.size + 1) (by omega) (fun X V hX hk => (hcode X V (by rw [HX1.out.1]; exact hX) hk).1)).kq hk (fun x hx => .inl (by simp at hx; omega))
      exact ⟨⟨hf.at_, fun g o e h => Nat.le_of_succ_le (hf.k g o e h), fun g o e h => Nat.le_of_succ_le (hf.i g o e h), fun g o e h => Nat.le_of_succ_le (hf.b g o e h)⟩, owns_base (hcode w.heap.size V (by rw [HX1.out.1]; omega) hk).2 (by rw [HX1.out.1]; omega)⟩⟩
  have HO : Hid (∀ v, (#[.agg #[.slice ka c.kinds.length kc, .int .i64 c.ins, .int .i64 c.outs, .int .i64 c.cells, .int .i64 c.stack, .slice ia c.init.length ic, .slice ba c.body.length bc], v] : Array Value) = #[.agg (codeV c ka kc ia ic ba bc), v]) := Lib.hid (fun v => rfl)
  clear hX2 hcode hg1 hkc HX1 HW1 HCK HZ
  unfold codeV at hchk
  go_wp2_with (with_reducible refine hold_st ?_)
  refine Lib.hid ?_
  refine store_lastc #[.slice ka c.kinds.length kc, .int .i64 c.ins, .int .i64 c.outs, .int .i64 c.cells, .int .i64 c.stack, .slice ia c.init.length ic, .slice ba c.body.length bc] ?hp ?hv ?hi ?ho ?h1 ?hK
  case hp => rfl
  case hv => rfl
  case hi => kernel_rfl
  case ho => rfl
  case h1 => simp [Value.oneCell']
  obtain ⟨w2, hw2⟩ : ∃ w2, w2 = w1.alloc (.cells #[.slice ka c.kinds.length kc, .int .i64 c.ins, .int .i64 c.outs, .int .i64 c.cells, .int .i64 c.stack, .slice ia c.init.length ic, .slice ba c.body.length bc] 27) := ⟨_, rfl⟩
  have hr2 := heap_alloc_new w1 (.cells #[.slice ka c.kinds.length kc, .int .i64 c.ins, .int .i64 c.outs, .int .i64 c.cells, .int .i64 c.stack, .slice ia c.init.length ic, .slice ba c.body.length bc] 27)
  have hg2 := World.grownBy_alloc w1 (.cells #[.slice ka c.kinds.length kc, .int .i64 c.ins, .int .i64 c.outs, .int .i64 c.cells, .int .i64 c.stack, .slice ia c.init.length ic, .slice ba c.body.length bc] 27) none
  rw [← hw2] at hr2 hg2 hchk ⊢
  have HR := Lib.hid (And.intro hr2 hg2)
  generalize w1.heap.size = R at *
  have y0 := cell_of_row w2 _ 0 _ _ _ hr2
  have y1 := cell_of_row w2 _ 1 _ _ _ hr2
  have y2 := cell_of_row w2 _ 2 _ _ _ hr2
  have y3 := cell_of_row w2 _ 3 _ _ _ hr2
  have y4 := cell_of_row w2 _ 4 _ _ _ hr2
  have y5 := cell_of_row w2 _ 5 _ _ _ hr2
  have y6 := cell_of_row w2 _ 6 _ _ _ hr2
  clear hw2 hr2 hg2
  go_wp2_with (first | (go_at_call 10; refine hchk.mono ?_; rintro e w3 ⟨rfl, hg3⟩; refine Hid.out ?_))
  refine Lib.hid ?_
  have hr3 := (hg3.block _ (gl HR.out.1) (by simp)).trans HR.out.1
  have hx3 := ((HR.out.2.trans hg3).block _ (gl HH.out.1) (by simp)).trans HH.out.1
  have HX3 := Lib.hid hx3
  have HG3 := Lib.hid (HR.out.2.trans hg3)
  clear y0 y1 y2 y3 y4 y5 y6 hchk hg3 hx3
  have y0 := cell_of_row w3 _ 0 _ _ _ hr3
  have y1 := cell_of_row w3 _ 1 _ _ _ hr3
  have y2 := cell_of_row w3 _ 2 _ _ _ hr3
  have y3 := cell_of_row w3 _ 3 _ _ _ hr3
  have y4 := cell_of_row w3 _ 4 _ _ _ hr3
  have y5 := cell_of_row w3 _ 5 _ _ _ hr3
  have y6 := cell_of_row w3 _ 6 _ _ _ hr3
  clear hr3
  go_wp2_with (with_reducible refine hold_st ?_)
  refine Lib.hid ?_
  refine store_rowL (t0 := 27) w.heap.size #[.slice ka c.kinds.length kc, .int .i64 c.ins, .int .i64 c.outs, .int .i64 c.cells, .int .i64 c.stack, .slice ia c.init.length ic, .slice ba c.body.length bc] #[.slice none 0 0, .int .i64 0, .int .i64 0, .int .i64 0, .int .i64 0, .slice none 0 0, .slice none 0 0] ?qhp ?qhv ?qhg ?qhi ?qho ?qh1 ?qhK
  case qhp => rfl
  case qhv => rfl
  case qhg => exact HX3.out
  case qhi => kernel_rfl
  case qho => rfl
  case qh1 => simp [Value.oneCell']
  intro V hV hgV
  have hk : Kp [w.heap.size] w1 V := (Kp.of0 HG3.out _).trans (Kp.of hgV _ (fun k e _ => by cases e; simp))
  have HE : Hid (PrQ w c (.returned (.tuple #[.agg #[.slice ka c.kinds.length kc, .int .i64 c.ins, .int .i64 c.outs, .int .i64 c.cells, .int .i64 c.stack, .slice ia c.init.length ic, .slice ba c.body.length bc], .int .i64 0])) V) := Lib.hid ⟨Kp.grown HH.out.2.1 hk (fun k hk => by simp at hk; omega), ka, kc, ia, ic, ba, bc, rfl, HH.out.2.2 V hk⟩
  have HB := Lib.hid hV
  clear hk hV hgV y0 y1 y2 y3 y4 y5 y6 HX3 HG3 HR HH
  go_wp2
  exact bodyPost_ret (results_row_tmp rfl _ _ w.heap.size 27 _ (0, 0) _ (.int .i64 0) rfl rfl HB.out Tryz.underlying27 rfl (by kernel_rfl)) rfl HE.out
theorem parse_pq (w : World) (l : List UInt8) (a : Option Addr) (cap : Nat) (hb : BytesAt w a l) (hcap : l.length ≤ cap) (hl : l.length ≤ 4000000) :
    Calls Tryz.prog 5 #[.slice a l.length cap] w (PqP w l) := by
  by_cases h : ∃ c, I64s c ∧ Cd.check c = 0 ∧ Cd.write c = l
  · obtain ⟨c, h1, h2, rfl⟩ := h
    refine (cread_fr w c a cap hb hcap hl h2 h1).mono ?_
    rintro e w' ⟨hg, ka, kc, ia, ic, ba, bc, rfl, hf⟩
    unfold PqP
    rw [Cd.pq_of h1 h2 rfl]
    exact ⟨hg, ka, kc, ia, ic, ba, bc, rfl, hf⟩
  · have hno : NoC l := fun c h1 h2 h3 => h ⟨c, h1, h2, h3⟩
    refine (parse_no w l a cap hno hb hcap hl).mono ?_
    rintro e w' ⟨hg, rfl⟩
    unfold PqP
    rw [Cd.pq_no hno]
    exact ⟨hg, none, 0, none, 0, none, 0, rfl, zero_fr _ w', World.ownsRow_nil _ _ _ _⟩
end Go.Proofs.YtfbhflpjhbemlaaGreat
