/- The statement BvRings of metronomelaw1, whole: for every kind and all numbers the law returns true; no condition. -/
import Derived.Test.YtjlphploknhcfabRows
import Derived.WalkKit
import Derived.ProofKit
import Derived.OpenShut
import Derived.Below
import Derived.Test.YtjlphploknhcfabBvF
import Derived.Test.YtjlphploknhcfabBvE
import Derived.Deep.RegionHeld3
namespace Go.Proofs.Ytjlphploknhcfab.bvRings
open Go.ChangeShapes Go.WideShapes Go.ChangeAt Go.RowKit
set_option linter.unusedVariables false

theorem own : ownKnob Try.prog.godebug = none := by kernel_rfl

theorem d_add {k x y : Int} (h1 : 2 ≤ k) (h2 : k ≤ 9) (hx : Bv.Val k x) (hy : Bv.Val k y) : doN 3 k x y = Bv.W k (x + y) := by
  unfold doN; rw [hx.1, hy.1, Bv.nAdd h1 h2 hx hy]
theorem d_sub {k x y : Int} (h1 : 2 ≤ k) (h2 : k ≤ 9) (hx : Bv.Val k x) (hy : Bv.Val k y) : doN 4 k x y = Bv.W k (x - y) := by
  unfold doN; rw [hx.1, hy.1, Bv.nSub h1 h2 hx hy]
theorem d_mul {k x y : Int} (h1 : 2 ≤ k) (h2 : k ≤ 9) (hx : Bv.Val k x) (hy : Bv.Val k y) : doN 5 k x y = Bv.W k (x * y) := by
  unfold doN; rw [hx.1, hy.1, Bv.nMul h1 h2 hx hy]

theorem ring (k a b c : Int) (h1 : 2 ≤ k) (h2 : k ≤ 9) (va : Bv.Val k a) (vb : Bv.Val k b) (vc : Bv.Val k c) :
    (doN 3 k a b == doN 3 k b a) = true ∧ (doN 5 k a (doN 3 k b c) == doN 3 k (doN 5 k a b) (doN 5 k a c)) = true ∧ (doN 3 k a (Bv.unN 2 k a) == 0) = true ∧
      (doN 4 k a b == doN 3 k a (doN 5 k b (doN 4 k 0 1))) = true ∧
      Bv.I64 (doN 3 k b c) ∧ Bv.I64 (doN 5 k a c) ∧ Bv.I64 (Bv.unN 2 k a) ∧ Bv.I64 (doN 4 k 0 1) ∧ Bv.I64 (doN 5 k b (doN 4 k 0 1)) := by
  have g1 : 1 ≤ k := by omega
  have v0 := Bv.val_zero k g1 h2
  have v1 := Bv.val_one k g1 h2
  have e1 := d_add h1 h2 vb vc
  have e2 := d_mul h1 h2 va vb
  have e3 := d_mul h1 h2 va vc
  have e4 := d_sub h1 h2 v0 v1
  have u1 : Bv.Val k (doN 3 k b c) := by rw [e1]; exact Bv.val_W k _
  have u2 : Bv.Val k (doN 5 k a b) := by rw [e2]; exact Bv.val_W k _
  have u3 : Bv.Val k (doN 5 k a c) := by rw [e3]; exact Bv.val_W k _
  have u4 : Bv.Val k (doN 4 k 0 1) := by rw [e4]; exact Bv.val_W k _
  have e5 := d_mul h1 h2 vb u4
  have u5 : Bv.Val k (doN 5 k b (doN 4 k 0 1)) := by rw [e5]; exact Bv.val_W k _
  have e6 := Bv.unN2 h1 h2 va
  have u6 : Bv.Val k (Bv.unN 2 k a) := by rw [e6]; exact Bv.val_W k _
  refine ⟨beq_iff_eq.2 ?_, beq_iff_eq.2 ?_, beq_iff_eq.2 ?_, beq_iff_eq.2 ?_, u1.2, u3.2, u6.2, u4.2, u5.2⟩
  · rw [d_add h1 h2 va vb, d_add h1 h2 vb va, Int.add_comm]
  · rw [d_mul h1 h2 va u1, d_add h1 h2 u2 u3, e1, e2, e3, Bv.W_mul_right k _ _ g1 h2, Bv.W_add_left k _ _ g1 h2, Bv.W_add_right k _ _ g1 h2, Int.mul_add]
  · rw [d_add h1 h2 va u6, e6, Bv.add_neg h1 h2]
  · rw [d_sub h1 h2 va vb, d_add h1 h2 va u5, e5, e4, Bv.W_mul_right k _ _ g1 h2, Bv.W_add_right k _ _ g1 h2]
    congr 1
    omega

theorem bitsy (k a b : Int) (h1 : 2 ≤ k) (h2 : k ≤ 9) (va : Bv.Val k a) (vb : Bv.Val k b) :
    (doN 8 k a (doN 9 k a b) == a) = true ∧ (doN 10 k a (Bv.unN 1 k a) == Bv.wrp k (-1)) = true ∧ (doN 8 k a (Bv.unN 1 k a) == 0) = true ∧ (doN 9 k a (Bv.unN 1 k a) == Bv.wrp k (-1)) = true ∧
      Bv.I64 (doN 9 k a b) ∧ Bv.I64 (Bv.unN 1 k a) := by
  have g1 : 1 ≤ k := by omega
  have d8 : ∀ x y, Bv.Val k x → Bv.Val k y → Bv.Val k (doN 8 k x y) ∧ Bv.low (Bv.wn k) (doN 8 k x y) = Bv.low (Bv.wn k) x &&& Bv.low (Bv.wn k) y := fun x y hx hy => by
    unfold doN; rw [hx.1, hy.1]; exact Bv.nAnd g1 h2 hx hy
  have d9 : ∀ x y, Bv.Val k x → Bv.Val k y → Bv.Val k (doN 9 k x y) ∧ Bv.low (Bv.wn k) (doN 9 k x y) = Bv.low (Bv.wn k) x ||| Bv.low (Bv.wn k) y := fun x y hx hy => by
    unfold doN; rw [hx.1, hy.1]; exact Bv.nOr g1 h2 hx hy
  have d10 : ∀ x y, Bv.Val k x → Bv.Val k y → Bv.Val k (doN 10 k x y) ∧ Bv.low (Bv.wn k) (doN 10 k x y) = Bv.low (Bv.wn k) x ^^^ Bv.low (Bv.wn k) y := fun x y hx hy => by
    unfold doN; rw [hx.1, hy.1]; exact Bv.nXor g1 h2 hx hy
  obtain ⟨vn, ln⟩ := Bv.nNot g1 h2 va
  have la := Bv.low_lt (Bv.wn k) a
  have i1 : Bv.I64 (-1) := by unfold Bv.I64; omega
  have vm := Bv.val_wrp k (-1) i1
  have lm : Bv.low (Bv.wn k) (Bv.wrp k (-1)) = 2 ^ Bv.wn k - 1 := by rw [Bv.low_wrp g1 h2, Bv.low_m1]
  obtain ⟨vo, lo⟩ := d9 a b va vb
  obtain ⟨v1, l1⟩ := d8 a _ va vo
  obtain ⟨v2, l2⟩ := d10 a _ va vn
  obtain ⟨v3, l3⟩ := d8 a _ va vn
  obtain ⟨v4, l4⟩ := d9 a _ va vn
  refine ⟨beq_iff_eq.2 ?_, beq_iff_eq.2 ?_, beq_iff_eq.2 ?_, beq_iff_eq.2 ?_, vo.2, vn.2⟩
  · refine Bv.low_inj g1 h2 v1 va ?_
    rw [l1, lo, Bv.and_or_self]
  · refine Bv.low_inj g1 h2 v2 vm ?_
    rw [l2, ln, lm, Bv.xor_not]
  · refine Bv.low_inj g1 h2 v3 (Bv.val_zero k g1 h2) ?_
    rw [l3, ln, Bv.and_not la]
    simp [Bv.low]
  · refine Bv.low_inj g1 h2 v4 vm ?_
    rw [l4, ln, lm, Bv.or_not la]

theorem compare (k a b : Int) (h1 : 2 ≤ k) (h2 : k ≤ 9) (va : Bv.Val k a) (vb : Bv.Val k b) :
    (doN 16 k a b = 1 ∧ doN 14 k a b = 0 ∧ doN 18 k a b = 0 ∧ doN 17 k a b = 1 ∧ doN 15 k a b = 1 ∧ doN 19 k a b = 0) ∨
    (doN 16 k a b = 0 ∧ doN 14 k a b = 1 ∧ doN 18 k a b = 0 ∧ doN 17 k a b = 1 ∧ doN 15 k a b = 0 ∧ doN 19 k a b = 1) ∨
    (doN 16 k a b = 0 ∧ doN 14 k a b = 0 ∧ doN 18 k a b = 1 ∧ doN 17 k a b = 0 ∧ doN 15 k a b = 1 ∧ doN 19 k a b = 1) := by
  have e16 : doN 16 k a b = Bv.one (Bv.lss k a b) := by unfold doN; rw [va.1, vb.1, Bv.nLt h1 h2 va vb]
  have e14 : doN 14 k a b = Bv.one (a == b) := by unfold doN; rw [va.1, vb.1, Bv.nEq h1 h2 va vb]
  have e15 : doN 15 k a b = Bv.one (a != b) := by unfold doN; rw [va.1, vb.1, Bv.nNe h1 h2 va vb]
  have e17 : doN 17 k a b = Bv.one (!Bv.lss k b a) := by unfold doN; rw [va.1, vb.1, Bv.nLe h1 h2 va vb]
  have e18 : doN 18 k a b = Bv.one (Bv.lss k b a) := by unfold doN; rw [va.1, vb.1, Bv.nGt h1 h2 va vb]
  have e19 : doN 19 k a b = Bv.one (!Bv.lss k a b) := by unfold doN; rw [va.1, vb.1, Bv.nGe h1 h2 va vb]
  have t := Bv.three_ways h1 h2 va vb
  rw [e14, e15, e16, e17, e18, e19]
  have ne : (a != b) = !(a == b) := rfl
  rw [ne]
  generalize Bv.lss k a b = x at *
  generalize Bv.lss k b a = y at *
  generalize (a == b) = z at *
  revert t
  cases x <;> cases y <;> cases z <;> decide

theorem compared (k a b : Int) (h1 : 2 ≤ k) (h2 : k ≤ 9) (va : Bv.Val k a) (vb : Bv.Val k b) :
    (wrap64 (wrap64 (doN 16 k a b + doN 14 k a b) + doN 18 k a b) == 1) = true ∧ (doN 17 k a b == wrap64 (1 - doN 18 k a b)) = true ∧ (doN 15 k a b == wrap64 (1 - doN 14 k a b)) = true ∧ (doN 19 k a b == wrap64 (1 - doN 16 k a b)) = true ∧
    (IntKind.i64.wrap (IntKind.i64.wrap (doN 16 k a b + doN 14 k a b) + doN 18 k a b) == 1) = true ∧ (doN 17 k a b == IntKind.i64.wrap (1 - doN 18 k a b)) = true ∧ (doN 15 k a b == IntKind.i64.wrap (1 - doN 14 k a b)) = true ∧ (doN 19 k a b == IntKind.i64.wrap (1 - doN 16 k a b)) = true := by
  rcases compare k a b h1 h2 va vb with ⟨g1, g2, g3, g4, g5, g6⟩ | ⟨g1, g2, g3, g4, g5, g6⟩ | ⟨g1, g2, g3, g4, g5, g6⟩
  all_goals
    rw [g1, g2, g3, g4, g5, g6]
    refine ⟨?_, ?_, ?_, ?_, ?_, ?_, ?_, ?_⟩ <;> kernel_rfl

/-- what holds all along: the cell of the law's own variable; nothing that was there has turned -/
def Hold (w0 : World) (k : Int) (n : Nat) (w : World) : Prop :=
  w.cell? ⟨n, 0, none⟩ = some (.int .i64 k) ∧ n < w.heap.size ∧ Below w0.heap.size w0 w
theorem Hold.on {w0 w w' : World} {k : Int} {n : Nat} (h : Hold w0 k n w) (hb : Below w.heap.size w w') : Hold w0 k n w' :=
  ⟨(keeps hb h.2.1 h.1).1, (keeps hb h.2.1 h.1).2, h.2.2.trans (hb.mono h.2.2.size)⟩
theorem Hold.drew {w0 w : World} {k : Int} {n : Nat} (h : Hold w0 k n w) : Hold w0 k n w.drew := ⟨h.1, h.2.1, h.2.2.drew⟩
theorem Hold.made {w0 w : World} {k : Int} {t : TypeId} (h : Below w0.heap.size w0 w) : Hold w0 k w.heap.size (w.alloc (.cells #[.int .i64 k] t)) :=
  ⟨by simp, by simp, h.alloc h.size _⟩

set_option maxRecDepth 100000 in
set_option maxHeartbeats 8000000 in
theorem main (k a b c : Int) (h1 : 2 ≤ k) (h2 : k ≤ 9) (ia : Bv.I64 a) (ib : Bv.I64 b) (ic : Bv.I64 c) (w : World) :
    Calls Try.prog 3 #[.int .i64 k, .int .i64 a, .int .i64 b, .int .i64 c] w fun e w' => e = .returned (.bool true) ∧ Below w.heap.size w w' := by
  have va := Bv.val_wrp k a ia
  have vb := Bv.val_wrp k b ib
  have vc := Bv.val_wrp k c ic
  clear ia ib ic
  generalize hA : Bv.wrp k a = A at va
  generalize hB0 : Bv.wrp k b = B at vb
  generalize hC : Bv.wrp k c = C at vc
  obtain ⟨e1, e2, e3, e4, i1, i2, i3, i4, i5⟩ := ring k A B C h1 h2 va vb vc
  obtain ⟨f1, f2, f3, f4, j1, j2⟩ := bitsy k A B h1 h2 va vb
  have HG : Hid _ := compared k A B h1 h2 va vb
  have ia := va.2
  have ib := vb.2
  have ic := vc.2
  have k1 : Bv.I64 1 := by unfold Bv.I64; omega
  clear va vb vc
  go_enter Try.func3, Try.ntmps3
  go_wp2_with (first | (go_at_call 9; refine (alive_any _).mono ?_; rintro e w1 ⟨rfl, hB⟩) | (go_at_call 10; refine (rwrap_any _ _ _).mono ?_; rintro e w' ⟨rfl, hw⟩; subst hw))
  have hS := Hold.made (k := k) (t := 25) hB
  generalize (_ : World).alloc (.cells #[.int .i64 k] 25) = w2 at hS ⊢
  generalize (_ : World).heap.size = n at hS ⊢
  clear hB
  go_wp2_with (first | (go_at_call 11; refine (un_any _ _ _ _).mono ?_; rintro e w2 ⟨rfl, hB2⟩; have hS := Hold.on hS hB2; clear hB2))
  go_region_held3 (fun w' => w'.cell? ⟨n, 0, none⟩ = some (.int .i64 k) ∧ n < w'.heap.size ∧ Below w.heap.size w w') (first | exact hS | exact hS.drew)
    (first
      | (go_at_call 12; refine (do_any _ _ _ _ (by assumption) _).mono ?_; rintro e w2 ⟨rfl, hB2⟩; have hS := Hold.on (by assumption) hB2; clear hB2)
      | (go_at_call 10; refine (rwrap_any _ _ _).mono ?_; rintro e w2 ⟨rfl, hw⟩; subst hw))
  clear e1 e2 e3 e4 i1 i2 i3 i4 i5
  go_wp2
  go_region_held3 (fun w' => w'.cell? ⟨n, 0, none⟩ = some (.int .i64 k) ∧ n < w'.heap.size ∧ Below w.heap.size w w') (first | exact hS | exact hS.drew)
    (first
      | (go_at_call 12; refine (do_any _ _ _ _ (by assumption) _).mono ?_; rintro e w2 ⟨rfl, hB2⟩; have hS := Hold.on (by assumption) hB2; clear hB2)
      | (go_at_call 10; refine (rwrap_any _ _ _).mono ?_; rintro e w2 ⟨rfl, hw⟩; subst hw))
  clear f1 f2 f3 f4 j1 j2
  go_wp2
  obtain ⟨g1, g2, g3, g4, g5, g6, g7, g8⟩ := HG.out
  clear HG
  go_region_held3 (fun w' => w'.cell? ⟨n, 0, none⟩ = some (.int .i64 k) ∧ n < w'.heap.size ∧ Below w.heap.size w w') (first | exact hS | exact hS.drew)
    (first
      | (go_at_call 12; refine (do_any _ _ _ _ (by assumption) _).mono ?_; rintro e w2 ⟨rfl, hB2⟩; have hS := Hold.on (by assumption) hB2; clear hB2))
  go_wp2
  go_ret
  exact ⟨rfl, hS.2.2⟩

set_option maxRecDepth 100000 in
theorem outside (k a b c : Int) (hk : k < 2 ∨ 9 < k) (w : World) :
    Calls Try.prog 3 #[.int .i64 k, .int .i64 a, .int .i64 b, .int .i64 c] w fun e w' => e = .returned (.bool true) ∧ Below w.heap.size w w' := by
  rcases hk with hk | hk
  all_goals
    go_enter Try.func3, Try.ntmps3
    go_wp2_with (first | (go_at_call 9; refine (alive_any _).mono ?_; rintro e w1 ⟨rfl, hB⟩))
    go_ret
    exact ⟨rfl, hB⟩

theorem walk (a0 : Int) (a1 : Int) (a2 : Int) (a3 : Int) (w0 : (Lit.int .i64 a0).wf = true) (w1 : (Lit.int .i64 a1).wf = true) (w2 : (Lit.int .i64 a2).wf = true) (w3 : (Lit.int .i64 a3).wf = true) (w : World) :
    Calls Try.prog 3 #[.int .i64 a0, .int .i64 a1, .int .i64 a2, .int .i64 a3] w fun e w' => e = .returned (.bool true) ∧ Below w.heap.size w w' := by
  by_cases hk : 2 ≤ a0 ∧ a0 ≤ 9
  · exact main a0 a1 a2 a3 hk.1 hk.2 (Bv.i64_of_wf w1) (Bv.i64_of_wf w2) (Bv.i64_of_wf w3) w
  · exact outside a0 a1 a2 a3 (by omega) w

set_option maxRecDepth 100000 in
theorem lifted (os : Os) (started : os.Started) (H : Type) (enc : TypeId × Value → H) :
    ReturnsInHanded {} Try.checked os 3 .any (Rows.bvRingsSpec.pre6 enc Try.prog Try.f3 Rows.bvRingsRow.domain false) (Rows.bvRingsSpec.post enc Try.prog Try.f3 false true false false) := by
  refine returnsInHanded_of_change (C := Try.checked) own started (by kernel_rfl) Try.func3
    (ChangeSpec.witness6 (enc := enc) (C := Try.checked) false ⟨#[], #[.int .i64 0, .int .i64 0, .int .i64 0, .int .i64 0], []⟩ 8 (by kernel_rfl) (by kernel_rfl) (by kernel_rfl) (by kernel_rfl)) ?_
  intro W base args ds gs before hval0 hW hcnd _
  have hval : ∀ (j : Nat) t v, Try.f3.params[j]? = some t → args[j]? = some v → Value.okWide Try.prog W .any base t v := hval0
  have hW' := hW
  obtain ⟨p, q, hA0, hV, rfl, hfz, hnd⟩ := hW
  have hA : DataW.TrodAll enc Try.prog W 0 (fun _ => true) true Try.f3.params.toList args.toList ds p := hA0
  rw [Try.params3] at hA hval
  obtain ⟨v0, vs0, d0, ds0, p0, q0, hargs, rfl, rfl, h0, r0⟩ := trodAll_cons hA
  obtain ⟨v1, vs1, d1, ds1, p1, q1, rfl, rfl, rfl, h1, r1⟩ := trodAll_cons r0
  obtain ⟨v2, vs2, d2, ds2, p2, q2, rfl, rfl, rfl, h2, r2⟩ := trodAll_cons r1
  obtain ⟨v3, vs3, d3, ds3, p3, q3, rfl, rfl, rfl, h3, r3⟩ := trodAll_cons r2
  obtain ⟨rfl, rfl, rfl⟩ := trodAll_nil r3
  obtain rfl : args = #[v0, v1, v2, v3] := by cases args; simp_all
  obtain ⟨rfl, rfl⟩ := trodVars_none hV
  obtain ⟨a0, rfl, rfl, rfl, w0⟩ := open_int Try.underlying3 (hval 0 3 v0 rfl rfl) h0
  obtain ⟨a1, rfl, rfl, rfl, w1⟩ := open_int Try.underlying3 (hval 1 3 v1 rfl rfl) h1
  obtain ⟨a2, rfl, rfl, rfl, w2⟩ := open_int Try.underlying3 (hval 2 3 v2 rfl rfl) h2
  obtain ⟨a3, rfl, rfl, rfl, w3⟩ := open_int Try.underlying3 (hval 3 3 v3 rfl rfl) h3
  clear hA0 hval0
  simp only [List.append_nil] at hW'
  refine (walk a0 a1 a2 a3 w0 w1 w2 w3 W).mono fun e W' ⟨he, hg⟩ => ?_
  subst he
  exact ⟨_, rfl, _, _, _, [], [], [], hW', trodAll_mk1 (shut_bool Try.underlying4 _), (trodAll_cons_mk (shut_int Try.underlying3 w0) (trodAll_cons_mk (shut_int Try.underlying3 w1) (trodAll_cons_mk (shut_int Try.underlying3 w2) (trodAll_cons_mk (shut_int Try.underlying3 w3) trodAll_mk0)))), rfl, hg.frame _, fun h => by cases h⟩

theorem over : Rows.bvRingsRow.holds Try.pinned (OpenSpec.ofChange Rows.bvRingsSpec) :=
  OpenClaim.holds_of_wide 3 Try.f3 rfl rfl rfl rfl rfl rfl rfl ⟨rfl, rfl, rfl, rfl, rfl⟩ rfl rfl rfl rfl rfl (by kernel_rfl) Try.func3 (by kernel_rfl)
    (of_decide_eq_true (by kernel_rfl)) (by unfold Func.isWrapper; first | (rw [if_pos (by decide +kernel)]; kernel_rfl) | (rw [if_neg (by decide +kernel)]; exact ⟨rfl, rfl⟩))
    (fun os started H enc _ => lifted os started H enc)

theorem proved : Rows.BvRingsSaid :=
  over
end Go.Proofs.Ytjlphploknhcfab.bvRings
namespace Go.Proofs.Ytjlphploknhcfab
theorem bvRings_holds : Rows.BvRingsSaid := bvRings.proved
#print axioms bvRings_holds
end Go.Proofs.Ytjlphploknhcfab
