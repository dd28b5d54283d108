/- Stage 19: code.Parse of bytes that are no code. -/
import Derived.Test.YtfbhflpjhbemlaaGreatGdC
namespace Go.Proofs.YtfbhflpjhbemlaaGreat
open Go.RowKit Go.Maps Go.WideMaps

/-- there is no code -/
def NoP (w : World) (e : Ending) (w' : World) : Prop := w.grownBy w' none ∧ e = .returned (.tuple #[.agg #[.slice none 0 0, .int .i64 0, .int .i64 0, .int .i64 0, .int .i64 0, .slice none 0 0, .slice none 0 0], .int .i64 50])
set_option maxHeartbeats 8000000 in
set_option maxRecDepth 100000 in
theorem parse_bad1 (w : World) (l : List UInt8) (a : Option Addr) (cap : Nat) (hco : ∀ V, w.grownBy V none → Calls Tryz.prog 12 #[.slice a l.length cap] V (BadP V)) (hl : l.length ≤ 4000000) :
    Calls Tryz.prog 5 #[.slice a l.length cap] w (NoP w) := by
  obtain ⟨W1, hW1⟩ : ∃ W1, W1 = w.alloc (.cells #[.slice none 0 0, .int .i64 0, .int .i64 0, .int .i64 0, .int .i64 0, .slice none 0 0, .slice none 0 0] 27) := ⟨_, rfl⟩
  have hX1 : W1.heap[w.heap.size]? = some (.cells #[.slice none 0 0, .int .i64 0, .int .i64 0, .int .i64 0, .int .i64 0, .slice none 0 0, .slice none 0 0] 27 (0, 0)) := by rw [hW1]; exact heap_alloc_new w _
  have hg1 : w.grownBy W1 none := by rw [hW1]; exact World.grownBy_alloc w _ none
  have hc := hco W1 hg1
  obtain ⟨LL, hLL⟩ : ∃ LL, LL = l.length := ⟨_, rfl⟩
  rw [← hLL] at hc hl ⊢
  have e1 : decide ((4000000 : Int) < (LL : Int)) = false := by rw [decide_eq_false_iff_not]; omega
  rw [hW1] at hc
  have HW1 := Lib.hid hW1
  have HX0 := Lib.hid (And.intro hX1 hg1)
  clear hW1 hX1 hg1 hco hLL hl
  go_enter Tryz.func5, Tryz.ntmps5
  go_wp2_with (first | (go_at_call 12; refine hc.mono ?_; rintro e w1 ⟨hg1, ka, nk, kc, x1, x2, x3, x4, ia, ni, ic, ba, nb, bc, rfl⟩; refine Hid.out ?_))
  refine Lib.hid ?_
  rw [← HW1.out] at hg1
  have HX1 := Lib.hid (And.intro ((hg1.block _ (gl HX0.out.1) (by simp)).trans HX0.out.1) (HX0.out.2.trans hg1))
  clear hc hg1
  go_wp2_with (with_reducible refine hold_st ?_)
  refine Lib.hid ?_
  refine store_lastc #[.slice ka nk kc, .int .i64 x1, .int .i64 x2, .int .i64 x3, .int .i64 x4, .slice ia ni ic, .slice ba nb bc] ?hp1 ?hv1 ?hi1 ?ho1 ?h11 ?hK1
  case hp1 => rfl
  case hv1 => rfl
  case hi1 => kernel_rfl
  case ho1 => rfl
  case h11 => simp [Value.oneCell']
  obtain ⟨w2, hw2⟩ : ∃ w2, w2 = w1.alloc (.cells #[.slice ka nk kc, .int .i64 x1, .int .i64 x2, .int .i64 x3, .int .i64 x4, .slice ia ni ic, .slice ba nb bc] 27) := ⟨_, rfl⟩
  have hr2 := heap_alloc_new w1 (.cells #[.slice ka nk kc, .int .i64 x1, .int .i64 x2, .int .i64 x3, .int .i64 x4, .slice ia ni ic, .slice ba nb bc] 27)
  have hg2 := World.grownBy_alloc w1 (.cells #[.slice ka nk kc, .int .i64 x1, .int .i64 x2, .int .i64 x3, .int .i64 x4, .slice ia ni ic, .slice ba nb bc] 27) none
  rw [← hw2] at hr2 hg2 ⊢
  have hx2 := (hg2.block _ (gl HX1.out.1) (by simp)).trans HX1.out.1
  have HX2 := Lib.hid (And.intro hx2 (HX1.out.2.trans hg2))
  clear hw2 hr2 hg2 hx2
  go_wp2_with (with_reducible refine hold_st ?_)
  refine Lib.hid ?_
  refine store_rowL (t0 := 27) w.heap.size #[.slice none 0 0, .int .i64 0, .int .i64 0, .int .i64 0, .int .i64 0, .slice none 0 0, .slice none 0 0] #[.slice none 0 0, .int .i64 0, .int .i64 0, .int .i64 0, .int .i64 0, .slice none 0 0, .slice none 0 0] ?qhp2 ?qhv2 ?qhg2 ?qhi2 ?qho2 ?qh12 ?qhK2
  case qhp2 => rfl
  case qhv2 => rfl
  case qhg2 => exact HX2.out.1
  case qhi2 => kernel_rfl
  case qho2 => rfl
  case qh12 => simp [Value.oneCell']
  intro V hV hgV
  have HE : Hid (w.grownBy V none) := Lib.hid (Kp.grown HX2.out.2 (Kp.of hgV [w.heap.size] (fun k e _ => by cases e; simp)) (fun k hk => by simp at hk; omega))
  have HB := Lib.hid hV
  clear hV hgV
  go_wp2
  exact bodyPost_ret (results_row_tmp rfl _ _ w.heap.size 27 _ (0, 0) _ (.int .i64 50) rfl rfl HB.out Tryz.underlying27 rfl (by kernel_rfl)) rfl ⟨HE.out, rfl⟩
set_option maxHeartbeats 8000000 in
set_option maxRecDepth 100000 in
theorem parse_bad2 (w : World) (l1 : List UInt8) (a : Option Addr) (cap : Nat) (c : Cd.Code) (hr : Rds l1 c) (h64 : I64s c) (hz : Cd.check c ≠ 0) (hb : BytesAt w a (Cd.magic ++ l1)) (hcap : (Cd.magic ++ l1).length ≤ cap) (hl : (Cd.magic ++ l1).length ≤ 4000000) :
    Calls Tryz.prog 5 #[.slice a (Cd.magic ++ l1).length cap] w (NoP w) := by
  obtain ⟨W1, hW1⟩ : ∃ W1, W1 = w.alloc (.cells #[.slice none 0 0, .int .i64 0, .int .i64 0, .int .i64 0, .int .i64 0, .slice none 0 0, .slice none 0 0] 27) := ⟨_, rfl⟩
  have hz1 : W1.heap.size = w.heap.size + 1 := by rw [hW1, World.size_alloc]
  have hX1 : W1.heap[w.heap.size]? = some (.cells #[.slice none 0 0, .int .i64 0, .int .i64 0, .int .i64 0, .int .i64 0, .slice none 0 0, .slice none 0 0] 27 (0, 0)) := by rw [hW1]; exact heap_alloc_new w _
  have hg1 : w.grownBy W1 none := by rw [hW1]; exact World.grownBy_alloc w _ none
  have hb1 : BytesAt W1 a (Cd.magic ++ l1) := fun i b h => by
    obtain ⟨g, o, e, hc⟩ := hb i b h
    exact ⟨g, o, e, hg1.cell hc (by simp)⟩
  have hc := codeOf_any W1 c l1 a cap hr hb1 hcap hl
  obtain ⟨LL, hLL⟩ : ∃ LL, LL = (Cd.magic ++ l1).length := ⟨_, rfl⟩
  rw [← hLL] at hc hl ⊢
  have e1 : decide ((4000000 : Int) < (LL : Int)) = false := by rw [decide_eq_false_iff_not]; omega
  rw [hW1] at hc
  have HW1 := Lib.hid hW1
  have HX0 := Lib.hid (And.intro hX1 (And.intro hg1 hz1))
  have HCK := Lib.hid (fun V ka kc ia ic ba bc h hk => ccheck_any V c ka kc ia ic ba bc h h64 hk)
  have HZ := Lib.hid hz
  clear hW1 hX1 hg1 hLL hl hb hb1 hcap hr h64 hz hz1
  go_enter Tryz.func5, Tryz.ntmps5
  go_wp2_with (first | (go_at_call 12; refine hc.mono ?_; rintro e w1 ⟨hg1, ka, kc, ia, ic, ba, bc, rfl, hcode, hkc⟩; refine Hid.out ?_))
  refine Lib.hid ?_
  unfold codeV
  rw [← HW1.out] at hg1 hcode
  have HX1 := Lib.hid (And.intro ((hg1.block _ (gl HX0.out.1) (by simp)).trans HX0.out.1) (HX0.out.2.1.trans hg1))
  have hchk := HCK.out (w1.alloc (.cells (codeV c ka kc ia ic ba bc) 27)) ka kc ia ic ba bc (hcode w.heap.size _ (by rw [HX0.out.2.2]; omega) (Kp.of0 (World.grownBy_alloc w1 _ none) _)) hkc
  obtain ⟨CK, hCK⟩ : ∃ CK, CK = Cd.check c := ⟨_, rfl⟩
  rw [← hCK] at hchk HZ
  have e6 : (CK != 0) = true := by simpa using HZ.out
  clear hc hg1 hcode hkc hCK HCK
  unfold codeV at hchk
  go_wp2_with (with_reducible refine hold_st ?_)
  refine Lib.hid ?_
  refine store_lastc #[.slice ka c.kinds.length kc, .int .i64 c.ins, .int .i64 c.outs, .int .i64 c.cells, .int .i64 c.stack, .slice ia c.init.length ic, .slice ba c.body.length bc] ?hp3 ?hv3 ?hi3 ?ho3 ?h13 ?hK3
  case hp3 => rfl
  case hv3 => rfl
  case hi3 => kernel_rfl
  case ho3 => rfl
  case h13 => simp [Value.oneCell']
  obtain ⟨w2, hw2⟩ : ∃ w2, w2 = w1.alloc (.cells #[.slice ka c.kinds.length kc, .int .i64 c.ins, .int .i64 c.outs, .int .i64 c.cells, .int .i64 c.stack, .slice ia c.init.length ic, .slice ba c.body.length bc] 27) := ⟨_, rfl⟩
  have hr2 := heap_alloc_new w1 (.cells #[.slice ka c.kinds.length kc, .int .i64 c.ins, .int .i64 c.outs, .int .i64 c.cells, .int .i64 c.stack, .slice ia c.init.length ic, .slice ba c.body.length bc] 27)
  have hg2 := World.grownBy_alloc w1 (.cells #[.slice ka c.kinds.length kc, .int .i64 c.ins, .int .i64 c.outs, .int .i64 c.cells, .int .i64 c.stack, .slice ia c.init.length ic, .slice ba c.body.length bc] 27) none
  rw [← hw2] at hr2 hg2 hchk ⊢
  have hx2 := (hg2.block _ (gl HX1.out.1) (by simp)).trans HX1.out.1
  have HX2 := Lib.hid (And.intro hx2 (HX1.out.2.trans hg2))
  have y0 := cell_of_row w2 _ 0 _ _ _ hr2
  have y1 := cell_of_row w2 _ 1 _ _ _ hr2
  have y2 := cell_of_row w2 _ 2 _ _ _ hr2
  have y3 := cell_of_row w2 _ 3 _ _ _ hr2
  have y4 := cell_of_row w2 _ 4 _ _ _ hr2
  have y5 := cell_of_row w2 _ 5 _ _ _ hr2
  have y6 := cell_of_row w2 _ 6 _ _ _ hr2
  clear hw2 hr2 hg2 hx2
  go_wp2_with (first | (go_at_call 10; refine hchk.mono ?_; rintro e w3 ⟨rfl, hg3⟩; refine Hid.out ?_))
  refine Lib.hid ?_
  have HX3 := Lib.hid (And.intro ((hg3.block _ (gl HX2.out.1) (by simp)).trans HX2.out.1) (HX2.out.2.trans hg3))
  clear y0 y1 y2 y3 y4 y5 y6 hchk hg3
  go_wp2_with (with_reducible refine hold_st ?_)
  refine Lib.hid ?_
  refine store_rowL (t0 := 27) w.heap.size #[.slice none 0 0, .int .i64 0, .int .i64 0, .int .i64 0, .int .i64 0, .slice none 0 0, .slice none 0 0] #[.slice none 0 0, .int .i64 0, .int .i64 0, .int .i64 0, .int .i64 0, .slice none 0 0, .slice none 0 0] ?qhp4 ?qhv4 ?qhg4 ?qhi4 ?qho4 ?qh14 ?qhK4
  case qhp4 => rfl
  case qhv4 => rfl
  case qhg4 => exact HX3.out.1
  case qhi4 => kernel_rfl
  case qho4 => rfl
  case qh14 => simp [Value.oneCell']
  intro V hV hgV
  have HE : Hid (w.grownBy V none) := Lib.hid (Kp.grown HX3.out.2 (Kp.of hgV [w.heap.size] (fun k e _ => by cases e; simp)) (fun k hk => by simp at hk; omega))
  have HB := Lib.hid hV
  clear hV hgV
  go_wp2
  exact bodyPost_ret (results_row_tmp rfl _ _ w.heap.size 27 _ (0, 0) _ (.int .i64 50) rfl rfl HB.out Tryz.underlying27 rfl (by kernel_rfl)) rfl ⟨HE.out, rfl⟩
/-- code.Parse of bytes that are no code -/
theorem parse_no (w : World) (l : List UInt8) (a : Option Addr) (cap : Nat) (hno : NoC l) (hb : BytesAt w a l) (hcap : l.length ≤ cap) (hl : l.length ≤ 4000000) :
    Calls Tryz.prog 5 #[.slice a l.length cap] w (NoP w) := by
  have hbV : ∀ V, w.grownBy V none → BytesAt V a l := fun V hg i b h => by
    obtain ⟨g, o, e, hc⟩ := hb i b h
    exact ⟨g, o, e, hg.cell hc (by simp)⟩
  rcases noC_cases hno with h | ⟨l1, rfl, h | ⟨c, h1, h2, h3⟩⟩
  · exact parse_bad1 w l a cap (fun V hg => codeOf_no V l a cap h (hbV V hg) hcap hl) hl
  · exact parse_bad1 w _ a cap (fun V hg => codeOf_bad V l1 a cap h (hbV V hg) hcap hl) hl
  · exact parse_bad2 w l1 a cap c h1 h2 h3 hb hcap hl
end Go.Proofs.YtfbhflpjhbemlaaGreat
