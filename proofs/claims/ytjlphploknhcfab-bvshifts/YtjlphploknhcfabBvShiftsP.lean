/- The statement BvShifts of metronomelaw1, whole: for every kind, number and count of places the law returns true; no condition. -/
import Derived.Test.YtjlphploknhcfabRows
import Derived.WalkKit
import Derived.ProofKit
import Derived.OpenShut
import Derived.Below
import Derived.Test.YtjlphploknhcfabBvF
import Derived.Test.YtjlphploknhcfabBvH
namespace Go.Proofs.Ytjlphploknhcfab.bvShifts
open Go.ChangeShapes Go.WideShapes Go.ChangeAt Go.RowKit
set_option linter.unusedVariables false

theorem own : ownKnob Try.prog.godebug = none := by kernel_rfl

set_option maxRecDepth 100000 in
set_option maxHeartbeats 4000000 in
theorem main (k a : Int) (N : Nat) (h1 : 2 ≤ k) (h2 : k ≤ 9) (hN : N ≤ 70) (ia : Bv.I64 a) (w : World) :
    Calls Try.prog 4 #[.int .i64 k, .int .i64 a, .int .i64 N] w fun e w' => e = .returned (.bool true) ∧ Below w.heap.size w w' := by
  have va := Bv.val_wrp k a ia
  clear ia
  generalize hA : Bv.wrp k a = A at va
  have HV : Hid (Bv.Val k A) := va
  have i1 : Bv.I64 1 := by unfold Bv.I64; omega
  have iN : Bv.I64 (N : Int) := by unfold Bv.I64; omega
  clear va
  have hend : (k ≤ 5 ∧ A < 0 ∧ Hid ((if k ≤ 5 ∧ A < 0 then (-1 : Int) else 0) = -1)) ∨ (k ≤ 5 ∧ ¬ A < 0 ∧ Hid ((if k ≤ 5 ∧ A < 0 then (-1 : Int) else 0) = 0)) ∨ (¬ k ≤ 5 ∧ True ∧ Hid ((if k ≤ 5 ∧ A < 0 then (-1 : Int) else 0) = 0)) := by
    by_cases h5 : k ≤ 5
    · by_cases hneg : A < 0
      · exact Or.inl ⟨h5, hneg, if_pos ⟨h5, hneg⟩⟩
      · exact Or.inr (Or.inl ⟨h5, hneg, if_neg (by omega)⟩)
    · exact Or.inr (Or.inr ⟨h5, trivial, if_neg (by omega)⟩)
  rcases hend with ⟨h5, hneg, HE⟩ | ⟨h5, hneg, HE⟩ | ⟨h5, hneg, HE⟩
  all_goals
    go_enter Try.func4, Try.ntmps4
    go_wp2_with (first | (go_at_call 9; refine (alive_any _).mono ?_; rintro e w1 ⟨rfl, hB⟩) | (go_at_call 10; refine (rwrap_any _ _ _).mono ?_; rintro e w' ⟨rfl, hw⟩; subst hw))
    go_loopw [8, 9, 10] (fun b c i w' => ∃ j : Nat, ∃ x y : Int, j ≤ N ∧ i = .int .i64 j ∧ b = .int .i64 x ∧ c = .int .i64 y ∧ Hid (x = Bv.W k (A * 2 ^ j) ∧ y = Bv.sh k A j) ∧ Below w.heap.size w w') (fun _ _ i _ => N - (intOf i).toNat)
    case atStart => exact ⟨0, A, A, Nat.zero_le _, rfl, rfl, rfl, ⟨by simp [Bv.W_val HV.out], (Bv.sh_zero h2 HV.out).symm⟩, hB⟩
    case round =>
      clear hB
      obtain ⟨j, x, y, hj, rfl, rfl, rfl, HX, hB⟩ := hrel
      by_cases hlt : j < N
      · have ix : Bv.I64 x := by rw [HX.out.1]; exact (Bv.val_W k _).2
        have HX2 : Hid (Bv.binN 3 k x x = Bv.W k (A * 2 ^ (j + 1)) ∧ Bv.binN 13 k y 1 = Bv.sh k A (j + 1)) := by
          rw [HX.out.1, HX.out.2]
          exact ⟨Bv.dbl_step h1 h2 A j, Bv.sh_step h1 h2 HV.out j⟩
        go_wp2_with (first | (go_at_call 13; refine (bin_any _ _ _ _ (by assumption) _).mono ?_; rintro e w3 ⟨rfl, hB3⟩; have hB := step hB hB3; clear hB3))
        exact ⟨⟨j + 1, _, _, by omega, by go_num, rfl, rfl, HX2, hB⟩, by simp [intOf]; omega⟩
      · have ej : j = N := by omega
        have e12 : Bv.binN 12 k A N = x := by rw [HX.out.1, ej]; exact Bv.shl_n h1 h2 HV.out N hN
        have e13 : Bv.binN 13 k A N = y := by rw [HX.out.2, ej]; exact Bv.shr_n h1 h2 HV.out N hN
        by_cases hw : (N : Int) < Bv.wid k
        · clear HX
          go_wp2_with (first | (go_at_call 13; refine (bin_any _ _ _ _ (by assumption) _).mono ?_; rintro e w3 ⟨rfl, hB3⟩; have hB := step hB hB3; clear hB3) | (go_at_call 14; refine (width_any _ _).mono ?_; rintro e w' ⟨rfl, hw⟩; subst hw))
          go_ret
          exact ⟨rfl, hB⟩
        · have hn : Bv.wn k ≤ N := by have := Bv.wn_wid (k := k) (by omega) h2; omega
          have ex : x = 0 := by rw [HX.out.1, ej]; exact Bv.W_far (by omega) h2 A N hn
          have ey := HX.out.2
          rw [ej, Bv.sh_far h1 h2 HV.out N hn] at ey
          rw [HE.out] at ey
          clear HX
          subst ex
          subst ey
          go_wp2_with (first | (go_at_call 13; refine (bin_any _ _ _ _ (by assumption) _).mono ?_; rintro e w3 ⟨rfl, hB3⟩; have hB := step hB hB3; clear hB3) | (go_at_call 14; refine (width_any _ _).mono ?_; rintro e w' ⟨rfl, hw⟩; subst hw))
          go_ret
          exact ⟨rfl, hB⟩

set_option maxRecDepth 100000 in
theorem outside (k a n : Int) (hk : k < 2 ∨ (2 ≤ k ∧ 9 < k) ∨ (2 ≤ k ∧ k ≤ 9 ∧ n < 0) ∨ (2 ≤ k ∧ k ≤ 9 ∧ 0 ≤ n ∧ 70 < n)) (w : World) :
    Calls Try.prog 4 #[.int .i64 k, .int .i64 a, .int .i64 n] w fun e w' => e = .returned (.bool true) ∧ Below w.heap.size w w' := by
  rcases hk with hk | ⟨hk, h2⟩ | ⟨hk, h2, h3⟩ | ⟨hk, h2, h3, h4⟩
  all_goals
    go_enter Try.func4, Try.ntmps4
    go_wp2_with (first | (go_at_call 9; refine (alive_any _).mono ?_; rintro e w1 ⟨rfl, hB⟩))
    go_ret
    exact ⟨rfl, hB⟩

theorem walk (a0 : Int) (a1 : Int) (a2 : Int) (w0 : (Lit.int .i64 a0).wf = true) (w1 : (Lit.int .i64 a1).wf = true) (w2 : (Lit.int .i64 a2).wf = true) (w : World) :
    Calls Try.prog 4 #[.int .i64 a0, .int .i64 a1, .int .i64 a2] w fun e w' => e = .returned (.bool true) ∧ Below w.heap.size w w' := by
  by_cases hk : 2 ≤ a0 ∧ a0 ≤ 9 ∧ 0 ≤ a2 ∧ a2 ≤ 70
  · obtain ⟨h1, h2, h3, h4⟩ := hk
    obtain ⟨N, rfl⟩ := Int.eq_ofNat_of_zero_le h3
    exact main a0 a1 N h1 h2 (by omega) (Bv.i64_of_wf w1) w
  · exact outside a0 a1 a2 (by omega) w

set_option maxRecDepth 100000 in
theorem lifted (os : Os) (started : os.Started) (H : Type) (enc : TypeId × Value → H) :
    ReturnsInHanded {} Try.checked os 4 .any (Rows.bvShiftsSpec.pre6 enc Try.prog Try.f4 Rows.bvShiftsRow.domain false) (Rows.bvShiftsSpec.post enc Try.prog Try.f4 false true false false) := by
  refine returnsInHanded_of_change (C := Try.checked) own started (by kernel_rfl) Try.func4
    (ChangeSpec.witness6 (enc := enc) (C := Try.checked) false ⟨#[], #[.int .i64 0, .int .i64 0, .int .i64 0], []⟩ 8 (by kernel_rfl) (by kernel_rfl) (by kernel_rfl) (by kernel_rfl)) ?_
  intro W base args ds gs before hval0 hW hcnd _
  have hval : ∀ (j : Nat) t v, Try.f4.params[j]? = some t → args[j]? = some v → Value.okWide Try.prog W .any base t v := hval0
  have hW' := hW
  obtain ⟨p, q, hA0, hV, rfl, hfz, hnd⟩ := hW
  have hA : DataW.TrodAll enc Try.prog W 0 (fun _ => true) true Try.f4.params.toList args.toList ds p := hA0
  rw [Try.params4] at hA hval
  obtain ⟨v0, vs0, d0, ds0, p0, q0, hargs, rfl, rfl, h0, r0⟩ := trodAll_cons hA
  obtain ⟨v1, vs1, d1, ds1, p1, q1, rfl, rfl, rfl, h1, r1⟩ := trodAll_cons r0
  obtain ⟨v2, vs2, d2, ds2, p2, q2, rfl, rfl, rfl, h2, r2⟩ := trodAll_cons r1
  obtain ⟨rfl, rfl, rfl⟩ := trodAll_nil r2
  obtain rfl : args = #[v0, v1, v2] := by cases args; simp_all
  obtain ⟨rfl, rfl⟩ := trodVars_none hV
  obtain ⟨a0, rfl, rfl, rfl, w0⟩ := open_int Try.underlying3 (hval 0 3 v0 rfl rfl) h0
  obtain ⟨a1, rfl, rfl, rfl, w1⟩ := open_int Try.underlying3 (hval 1 3 v1 rfl rfl) h1
  obtain ⟨a2, rfl, rfl, rfl, w2⟩ := open_int Try.underlying3 (hval 2 3 v2 rfl rfl) h2
  clear hA0 hval0
  simp only [List.append_nil] at hW'
  refine (walk a0 a1 a2 w0 w1 w2 W).mono fun e W' ⟨he, hg⟩ => ?_
  subst he
  exact ⟨_, rfl, _, _, _, [], [], [], hW', trodAll_mk1 (shut_bool Try.underlying4 _), (trodAll_cons_mk (shut_int Try.underlying3 w0) (trodAll_cons_mk (shut_int Try.underlying3 w1) (trodAll_cons_mk (shut_int Try.underlying3 w2) trodAll_mk0))), rfl, hg.frame _, fun h => by cases h⟩

theorem over : Rows.bvShiftsRow.holds Try.pinned (OpenSpec.ofChange Rows.bvShiftsSpec) :=
  OpenClaim.holds_of_wide 4 Try.f4 rfl rfl rfl rfl rfl rfl rfl ⟨rfl, rfl, rfl, rfl, rfl⟩ rfl rfl rfl rfl rfl (by kernel_rfl) Try.func4 (by kernel_rfl)
    (of_decide_eq_true (by kernel_rfl)) (by unfold Func.isWrapper; first | (rw [if_pos (by decide +kernel)]; kernel_rfl) | (rw [if_neg (by decide +kernel)]; exact ⟨rfl, rfl⟩))
    (fun os started H enc _ => lifted os started H enc)

theorem proved : Rows.BvShiftsSaid :=
  over
end Go.Proofs.Ytjlphploknhcfab.bvShifts
namespace Go.Proofs.Ytjlphploknhcfab
theorem bvShifts_holds : Rows.BvShiftsSaid := bvShifts.proved
#print axioms bvShifts_holds
end Go.Proofs.Ytjlphploknhcfab
