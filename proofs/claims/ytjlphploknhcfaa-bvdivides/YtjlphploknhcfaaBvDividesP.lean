/- The statement BvDivides of metronomelaw1, whole: for every kind and all numbers the law returns true; no condition. -/
import Derived.Test.YtjlphploknhcfaaRows
import Derived.WalkKit
import Derived.ProofKit
import Derived.OpenShut
import Derived.Below
import Derived.Test.YtjlphploknhcfaaBvR
import Derived.Test.YtjlphploknhcfaaBvD
namespace Go.Proofs.Ytjlphploknhcfaa.bvDivides
open Go.ChangeShapes Go.WideShapes Go.ChangeAt Go.RowKit
set_option linter.unusedVariables false

theorem own : ownKnob Try.prog.godebug = none := by kernel_rfl

theorem four {w w1 w2 w3 w4 w5 : World} (h1 : Below w.heap.size w w1) (h2 : Below w1.heap.size w1 w2) (h3 : Below w2.heap.size w2 w3) (h4 : Below w3.heap.size w3 w4) (h5 : Below w4.heap.size w4 w5) : Below w.heap.size w w5 :=
  (((h1.trans (h2.mono h1.size)).trans (h3.mono (Nat.le_trans h1.size h2.size))).trans (h4.mono (Nat.le_trans (Nat.le_trans h1.size h2.size) h3.size))).trans (h5.mono (Nat.le_trans (Nat.le_trans (Nat.le_trans h1.size h2.size) h3.size) h4.size))

set_option maxHeartbeats 1000000 in
theorem main (k a b : Int) (hk1 : 2 ≤ k) (hk2 : k ≤ 9) (i1 : Bv.I64 a) (i2 : Bv.I64 b) (w : World) :
    Calls Try.prog 8 #[.int .i64 k, .int .i64 a, .int .i64 b] w fun e w' => e = .returned (.bool true) ∧ Below w.heap.size w w' := by
  have va := Bv.val_wrp k a i1
  have vb := Bv.val_wrp k b i2
  clear i1 i2
  generalize hA : Bv.wrp k a = A at va
  generalize hB0 : Bv.wrp k b = B at vb
  have HA : Hid (Bv.wrp k a = A) := hA
  have HB : Hid (Bv.wrp k b = B) := hB0
  clear hA hB0
  have o1 := Bv.nOk hk1 hk2 va vb 6 (by omega) (by omega) (by omega)
  have o2 := Bv.nOk hk1 hk2 va vb 7 (by omega) (by omega) (by omega)
  have vq := Bv.val_binN hk1 hk2 (op := 6) (by omega) (by omega) va vb
  have vr := Bv.val_binN hk1 hk2 (op := 7) (by omega) (by omega) va vb
  have vp := Bv.val_binN hk1 hk2 (op := 5) (by omega) (by omega) vq vb
  have hd := Bv.divides k A B hk1 hk2 va vb
  have hz := fun (h : B = 0) => Bv.div_zero k A hk1 hk2 va (by rw [← h]; exact vb)
  have iB : Bv.I64 B := vb.2
  have iR : Bv.I64 (Bv.binN 7 k A B) := vr.2
  clear va vb vq vr vp
  generalize hQ : Bv.binN 6 k A B = Q at hd
  generalize hR : Bv.binN 7 k A B = R at hd iR
  generalize hP : Bv.binN 5 k Q B = P at hd
  generalize hS : Bv.binN 3 k P R = S at hd
  generalize hL : Bv.binN 16 k R B = L at hd
  have HN : Hid (Bv.binN 6 k A B = Q ∧ Bv.binN 7 k A B = R ∧ Bv.binN 5 k Q B = P ∧ Bv.binN 3 k P R = S ∧ Bv.binN 16 k R B = L) := ⟨hQ, hR, hP, hS, hL⟩
  have HO : Hid (Bv.binB 6 k A B = true ∧ Bv.binB 7 k A B = true) := ⟨o1, o2⟩
  clear o1 o2
  have HI : Hid (Bv.I64 B ∧ Bv.I64 R) := ⟨iB, iR⟩
  unfold Bv.I64 at iB
  by_cases h0 : B = 0
  · obtain ⟨z1, z2⟩ := hz h0
    have q0 : Q = 0 := by rw [← hQ, h0, z1]
    have r0 : R = 0 := by rw [← hR, h0, z2]
    clear hz hd hQ hR hP hS hL iB iR z1 z2
    have b0 : (B == 0) = true := by simp [h0]
    clear h0
    subst q0
    subst r0
    go_enter Try.func8, Try.ntmps8
    go_wp2_with (first | (go_at_call 9; refine (alive_any _).mono ?_; rintro e w1 ⟨rfl, hB⟩) | (go_at_call 11; refine (rwrap_any _ _ _).mono ?_; rintro e w' ⟨rfl, rfl⟩))
    rw [HA.out, HB.out]
    refine (bin_any _ _ _ _ HI.out.1 _).mono ?_
    rintro e w2 ⟨rfl, hB2⟩
    rw [HN.out.1, HO.out.1]
    go_wp2_with fail
    refine (bin_any _ _ _ _ HI.out.1 _).mono ?_
    rintro e w3 ⟨rfl, hB3⟩
    rw [HN.out.2.1, HO.out.2]
    go_wp2_with fail
    refine (bin_any _ _ _ _ HI.out.1 _).mono ?_
    rintro e w4 ⟨rfl, hB4⟩
    rw [HN.out.2.2.1]
    go_wp2_with fail
    refine (bin_any _ _ _ _ HI.out.2 _).mono ?_
    rintro e w5 ⟨rfl, hB5⟩
    rw [HN.out.2.2.2.1]
    go_wp2
    go_ret
    exact ⟨rfl, four hB hB2 hB3 hB4 hB5⟩
  · obtain ⟨d1, d2, d3, d4⟩ := hd h0
    clear hz hd hQ hR hP hS hL
    have b0 : (B == 0) = false := by simp [h0]
    subst d1
    by_cases hk : 6 ≤ k
    · have dl := d2 hk
      subst dl
      clear d2 d3 d4 iR h0 iB
      go_enter Try.func8, Try.ntmps8
      go_wp2_with (first | (go_at_call 9; refine (alive_any _).mono ?_; rintro e w1 ⟨rfl, hB⟩) | (go_at_call 11; refine (rwrap_any _ _ _).mono ?_; rintro e w' ⟨rfl, rfl⟩))
      rw [HA.out, HB.out]
      refine (bin_any _ _ _ _ HI.out.1 _).mono ?_
      rintro e w2 ⟨rfl, hB2⟩
      rw [HN.out.1, HO.out.1]
      go_wp2_with fail
      refine (bin_any _ _ _ _ HI.out.1 _).mono ?_
      rintro e w3 ⟨rfl, hB3⟩
      rw [HN.out.2.1, HO.out.2]
      go_wp2_with fail
      refine (bin_any _ _ _ _ HI.out.1 _).mono ?_
      rintro e w4 ⟨rfl, hB4⟩
      rw [HN.out.2.2.1]
      go_wp2_with fail
      refine (bin_any _ _ _ _ HI.out.2 _).mono ?_
      rintro e w5 ⟨rfl, hB5⟩
      rw [HN.out.2.2.2.1]
      go_wp2_with fail
      refine (bin_any _ _ _ _ HI.out.1 _).mono ?_
      rintro e w6 ⟨rfl, hB6⟩
      rw [HN.out.2.2.2.2]
      have hB' := four hB hB2 hB3 hB4 hB5
      go_wp2
      go_ret
      exact ⟨rfl, hB'.trans (hB6.mono hB'.size)⟩
    · have hk5 : k ≤ 5 := by omega
      rcases (by omega : 0 < B ∨ B < 0) with hp | hp
      · obtain ⟨r1, r2⟩ := d3 hk5 hp
        have hn : wrap64 (-B) = -B := by unfold wrap64; omega
        clear d2 d3 d4 iR h0 iB
        go_enter Try.func8, Try.ntmps8
        go_wp2_with (first | (go_at_call 9; refine (alive_any _).mono ?_; rintro e w1 ⟨rfl, hB⟩) | (go_at_call 11; refine (rwrap_any _ _ _).mono ?_; rintro e w' ⟨rfl, rfl⟩))
        rw [HA.out, HB.out]
        refine (bin_any _ _ _ _ HI.out.1 _).mono ?_
        rintro e w2 ⟨rfl, hB2⟩
        rw [HN.out.1, HO.out.1]
        go_wp2_with fail
        refine (bin_any _ _ _ _ HI.out.1 _).mono ?_
        rintro e w3 ⟨rfl, hB3⟩
        rw [HN.out.2.1, HO.out.2]
        go_wp2_with fail
        refine (bin_any _ _ _ _ HI.out.1 _).mono ?_
        rintro e w4 ⟨rfl, hB4⟩
        rw [HN.out.2.2.1]
        go_wp2_with fail
        refine (bin_any _ _ _ _ HI.out.2 _).mono ?_
        rintro e w5 ⟨rfl, hB5⟩
        rw [HN.out.2.2.2.1]
        have hB' := four hB hB2 hB3 hB4 hB5
        go_wp2
        go_ret
        exact ⟨rfl, hB'⟩
      · obtain ⟨r1, r2⟩ := d4 hk5 hp
        have hng : ¬ 0 < B := by omega
        rcases Bool.eq_false_or_eq_true (B == -9223372036854775808) with hm | hm
        · clear d2 d3 d4 iR h0 iB r2
          go_enter Try.func8, Try.ntmps8
          go_wp2_with (first | (go_at_call 9; refine (alive_any _).mono ?_; rintro e w1 ⟨rfl, hB⟩) | (go_at_call 11; refine (rwrap_any _ _ _).mono ?_; rintro e w' ⟨rfl, rfl⟩))
          rw [HA.out, HB.out]
          refine (bin_any _ _ _ _ HI.out.1 _).mono ?_
          rintro e w2 ⟨rfl, hB2⟩
          rw [HN.out.1, HO.out.1]
          go_wp2_with fail
          refine (bin_any _ _ _ _ HI.out.1 _).mono ?_
          rintro e w3 ⟨rfl, hB3⟩
          rw [HN.out.2.1, HO.out.2]
          go_wp2_with fail
          refine (bin_any _ _ _ _ HI.out.1 _).mono ?_
          rintro e w4 ⟨rfl, hB4⟩
          rw [HN.out.2.2.1]
          go_wp2_with fail
          refine (bin_any _ _ _ _ HI.out.2 _).mono ?_
          rintro e w5 ⟨rfl, hB5⟩
          rw [HN.out.2.2.2.1]
          have hB' := four hB hB2 hB3 hB4 hB5
          go_wp2
          go_ret
          exact ⟨rfl, hB'⟩
        · have hn : wrap64 (-B) = -B := by
            have : ¬ B = -9223372036854775808 := by simpa using hm
            unfold wrap64; omega
          clear d2 d3 d4 iR h0 iB
          go_enter Try.func8, Try.ntmps8
          go_wp2_with (first | (go_at_call 9; refine (alive_any _).mono ?_; rintro e w1 ⟨rfl, hB⟩) | (go_at_call 11; refine (rwrap_any _ _ _).mono ?_; rintro e w' ⟨rfl, rfl⟩))
          rw [HA.out, HB.out]
          refine (bin_any _ _ _ _ HI.out.1 _).mono ?_
          rintro e w2 ⟨rfl, hB2⟩
          rw [HN.out.1, HO.out.1]
          go_wp2_with fail
          refine (bin_any _ _ _ _ HI.out.1 _).mono ?_
          rintro e w3 ⟨rfl, hB3⟩
          rw [HN.out.2.1, HO.out.2]
          go_wp2_with fail
          refine (bin_any _ _ _ _ HI.out.1 _).mono ?_
          rintro e w4 ⟨rfl, hB4⟩
          rw [HN.out.2.2.1]
          go_wp2_with fail
          refine (bin_any _ _ _ _ HI.out.2 _).mono ?_
          rintro e w5 ⟨rfl, hB5⟩
          rw [HN.out.2.2.2.1]
          have hB' := four hB hB2 hB3 hB4 hB5
          go_wp2
          go_ret
          exact ⟨rfl, hB'⟩

theorem walk (a0 : Int) (a1 : Int) (a2 : Int) (w0 : (Lit.int .i64 a0).wf = true) (w1 : (Lit.int .i64 a1).wf = true) (w2 : (Lit.int .i64 a2).wf = true) (w : World) :
    Calls Try.prog 8 #[.int .i64 a0, .int .i64 a1, .int .i64 a2] w fun e w' => e = .returned (.bool true) ∧ Below w.heap.size w w' := by
  by_cases hk : 2 ≤ a0 ∧ a0 ≤ 9
  · exact main a0 a1 a2 hk.1 hk.2 (Bv.i64_of_wf w1) (Bv.i64_of_wf w2) w
  · have hk' : a0 < 2 ∨ 9 < a0 := by omega
    clear hk
    rcases hk' with hk | hk
    all_goals
      go_enter Try.func8, Try.ntmps8
      go_wp2_with (first | (go_at_call 9; refine (alive_any _).mono ?_; rintro e w1 ⟨rfl, hB⟩))
      go_ret
      exact ⟨rfl, hB⟩

set_option maxRecDepth 100000 in
theorem lifted (os : Os) (started : os.Started) (H : Type) (enc : TypeId × Value → H) :
    ReturnsInHanded {} Try.checked os 8 .any (Rows.bvDividesSpec.pre6 enc Try.prog Try.f8 Rows.bvDividesRow.domain false) (Rows.bvDividesSpec.post enc Try.prog Try.f8 false true false false) := by
  refine returnsInHanded_of_change (C := Try.checked) own started (by kernel_rfl) Try.func8
    (ChangeSpec.witness6 (enc := enc) (C := Try.checked) false ⟨#[], #[.int .i64 0, .int .i64 0, .int .i64 0], []⟩ 8 (by kernel_rfl) (by kernel_rfl) (by kernel_rfl) (by kernel_rfl)) ?_
  intro W base args ds gs before hval0 hW hcnd _
  have hval : ∀ (j : Nat) t v, Try.f8.params[j]? = some t → args[j]? = some v → Value.okWide Try.prog W .any base t v := hval0
  have hW' := hW
  obtain ⟨p, q, hA0, hV, rfl, hfz, hnd⟩ := hW
  have hA : DataW.TrodAll enc Try.prog W 0 (fun _ => true) true Try.f8.params.toList args.toList ds p := hA0
  rw [Try.params8] at hA hval
  obtain ⟨v0, vs0, d0, ds0, p0, q0, hargs, rfl, rfl, h0, r0⟩ := trodAll_cons hA
  obtain ⟨v1, vs1, d1, ds1, p1, q1, rfl, rfl, rfl, h1, r1⟩ := trodAll_cons r0
  obtain ⟨v2, vs2, d2, ds2, p2, q2, rfl, rfl, rfl, h2, r2⟩ := trodAll_cons r1
  obtain ⟨rfl, rfl, rfl⟩ := trodAll_nil r2
  obtain rfl : args = #[v0, v1, v2] := by cases args; simp_all
  obtain ⟨rfl, rfl⟩ := trodVars_none hV
  obtain ⟨a0, rfl, rfl, rfl, w0⟩ := open_int Try.underlying3 (hval 0 3 v0 rfl rfl) h0
  obtain ⟨a1, rfl, rfl, rfl, w1⟩ := open_int Try.underlying3 (hval 1 3 v1 rfl rfl) h1
  obtain ⟨a2, rfl, rfl, rfl, w2⟩ := open_int Try.underlying3 (hval 2 3 v2 rfl rfl) h2
  clear hA0 hval0
  simp only [List.append_nil] at hW'
  refine (walk a0 a1 a2 w0 w1 w2 W).mono fun e W' ⟨he, hg⟩ => ?_
  subst he
  exact ⟨_, rfl, _, _, _, [], [], [], hW', trodAll_mk1 (shut_bool Try.underlying4 _), (trodAll_cons_mk (shut_int Try.underlying3 w0) (trodAll_cons_mk (shut_int Try.underlying3 w1) (trodAll_cons_mk (shut_int Try.underlying3 w2) trodAll_mk0))), rfl, hg.frame _, fun h => by cases h⟩

theorem over : Rows.bvDividesRow.holds Try.pinned (OpenSpec.ofChange Rows.bvDividesSpec) :=
  OpenClaim.holds_of_wide 8 Try.f8 rfl rfl rfl rfl rfl rfl rfl ⟨rfl, rfl, rfl, rfl, rfl⟩ rfl rfl rfl rfl rfl (by kernel_rfl) Try.func8 (by kernel_rfl)
    (of_decide_eq_true (by kernel_rfl)) (by unfold Func.isWrapper; first | (rw [if_pos (by decide +kernel)]; kernel_rfl) | (rw [if_neg (by decide +kernel)]; exact ⟨rfl, rfl⟩))
    (fun os started H enc _ => lifted os started H enc)

theorem proved : Rows.BvDividesSaid :=
  over
end Go.Proofs.Ytjlphploknhcfaa.bvDivides
namespace Go.Proofs.Ytjlphploknhcfaa
theorem bvDivides_holds : Rows.BvDividesSaid := bvDivides.proved
#print axioms bvDivides_holds
end Go.Proofs.Ytjlphploknhcfaa
