/- The statement BvClosed of metronomelaw1, whole: for every operation, kind and four numbers the law returns true; no condition. -/
import Derived.Test.YtjlphploknhcfaaRows
import Derived.WalkKit
import Derived.ProofKit
import Derived.OpenShut
import Derived.Below
import Derived.Test.YtjlphploknhcfaaBvR
import Derived.Test.YtjlphploknhcfaaBvK
namespace Go.Proofs.Ytjlphploknhcfaa.bvClosed
open Go.ChangeShapes Go.WideShapes Go.ChangeAt Go.RowKit
set_option linter.unusedVariables false

theorem own : ownKnob Try.prog.godebug = none := by kernel_rfl

theorem walk (a0 : Int) (a1 : Int) (a2 : Int) (a3 : Int) (a4 : Int) (a5 : Int) (w0 : (Lit.int .i64 a0).wf = true) (w1 : (Lit.int .i64 a1).wf = true) (w2 : (Lit.int .i64 a2).wf = true) (w3 : (Lit.int .i64 a3).wf = true) (w4 : (Lit.int .i64 a4).wf = true) (w5 : (Lit.int .i64 a5).wf = true) (w : World) :
    Calls Try.prog 7 #[.int .i64 a0, .int .i64 a1, .int .i64 a2, .int .i64 a3, .int .i64 a4, .int .i64 a5] w fun e w' => e = .returned (.bool true) ∧ Below w.heap.size w w' := by
  have i2 := Bv.wrp_i64 a1 a3 (Bv.i64_of_wf w3)
  have i4 := Bv.wrp_i64 a1 a5 (Bv.i64_of_wf w5)
  have e1 : Bv.binB a0 a1 (Bv.wrp a1 a4) (Bv.wrp a1 a5) = Bv.binB a0 a1 (Bv.wrp a1 a2) (Bv.wrp a1 a3) := by rw [Bv.binB_wrp, Bv.binB_wrp]
  have e2 : Bv.binK a0 a1 (Bv.wrp a1 a4) (Bv.wrp a1 a5) = Bv.binK a0 a1 (Bv.wrp a1 a2) (Bv.wrp a1 a3) := by unfold Bv.binK; rw [e1]
  have e3 : Bv.binB a0 a1 (Bv.wrp a1 a2) (Bv.wrp a1 a3) = true → Bv.isv (Bv.binK a0 a1 (Bv.wrp a1 a2) (Bv.wrp a1 a3)) (Bv.binN a0 a1 (Bv.wrp a1 a2) (Bv.wrp a1 a3)) = true := Bv.isv_bin
  have E : Hid (_ ∧ _) := ⟨e1, e2⟩
  have E3 : Hid (_ → _) := e3
  have I : Hid (_ ∧ _) := ⟨i2, i4⟩
  clear e1 e2 e3 i2 i4
  rcases Bool.eq_false_or_eq_true (Bv.binB a0 a1 (Bv.wrp a1 a2) (Bv.wrp a1 a3)) with hb | hb
  · have hv := E3.out hb
    clear E3
    go_enter Try.func7, Try.ntmps7
    go_wp2_with (first | (go_at_call 9; refine (alive_any _).mono ?_; rintro e w1 ⟨rfl, hB⟩) | (go_at_call 11; refine (rwrap_any _ _ _).mono ?_; rintro e w' ⟨rfl, rfl⟩))
    refine (bin_any _ _ _ _ I.out.1 _).mono ?_
    rintro e w2 ⟨rfl, hB2⟩
    go_wp2_with fail
    refine (bin_any _ _ _ _ I.out.2 _).mono ?_
    rintro e w3 ⟨rfl, hB3⟩
    rw [E.out.1, E.out.2]
    go_wp2_with (first | (go_at_call 12; refine (is_any _ _ _).mono ?_; rintro e w' ⟨rfl, rfl⟩))
    go_ret
    exact ⟨rfl, (hB.trans (hB2.mono hB.size)).trans (hB3.mono (Nat.le_trans hB.size hB2.size))⟩
  · go_enter Try.func7, Try.ntmps7
    go_wp2_with (first | (go_at_call 9; refine (alive_any _).mono ?_; rintro e w1 ⟨rfl, hB⟩) | (go_at_call 11; refine (rwrap_any _ _ _).mono ?_; rintro e w' ⟨rfl, rfl⟩))
    refine (bin_any _ _ _ _ I.out.1 _).mono ?_
    rintro e w2 ⟨rfl, hB2⟩
    go_wp2_with fail
    refine (bin_any _ _ _ _ I.out.2 _).mono ?_
    rintro e w3 ⟨rfl, hB3⟩
    rw [E.out.1, E.out.2]
    go_wp2_with (first | (go_at_call 12; refine (is_any _ _ _).mono ?_; rintro e w' ⟨rfl, rfl⟩))
    go_ret
    exact ⟨rfl, (hB.trans (hB2.mono hB.size)).trans (hB3.mono (Nat.le_trans hB.size hB2.size))⟩

set_option maxRecDepth 100000 in
theorem lifted (os : Os) (started : os.Started) (H : Type) (enc : TypeId × Value → H) :
    ReturnsInHanded {} Try.checked os 7 .any (Rows.bvClosedSpec.pre6 enc Try.prog Try.f7 Rows.bvClosedRow.domain false) (Rows.bvClosedSpec.post enc Try.prog Try.f7 false true false false) := by
  refine returnsInHanded_of_change (C := Try.checked) own started (by kernel_rfl) Try.func7
    (ChangeSpec.witness6 (enc := enc) (C := Try.checked) false ⟨#[], #[.int .i64 0, .int .i64 0, .int .i64 0, .int .i64 0, .int .i64 0, .int .i64 0], []⟩ 8 (by kernel_rfl) (by kernel_rfl) (by kernel_rfl) (by kernel_rfl)) ?_
  intro W base args ds gs before hval0 hW hcnd _
  have hval : ∀ (j : Nat) t v, Try.f7.params[j]? = some t → args[j]? = some v → Value.okWide Try.prog W .any base t v := hval0
  have hW' := hW
  obtain ⟨p, q, hA0, hV, rfl, hfz, hnd⟩ := hW
  have hA : DataW.TrodAll enc Try.prog W 0 (fun _ => true) true Try.f7.params.toList args.toList ds p := hA0
  rw [Try.params7] at hA hval
  obtain ⟨v0, vs0, d0, ds0, p0, q0, hargs, rfl, rfl, h0, r0⟩ := trodAll_cons hA
  obtain ⟨v1, vs1, d1, ds1, p1, q1, rfl, rfl, rfl, h1, r1⟩ := trodAll_cons r0
  obtain ⟨v2, vs2, d2, ds2, p2, q2, rfl, rfl, rfl, h2, r2⟩ := trodAll_cons r1
  obtain ⟨v3, vs3, d3, ds3, p3, q3, rfl, rfl, rfl, h3, r3⟩ := trodAll_cons r2
  obtain ⟨v4, vs4, d4, ds4, p4, q4, rfl, rfl, rfl, h4, r4⟩ := trodAll_cons r3
  obtain ⟨v5, vs5, d5, ds5, p5, q5, rfl, rfl, rfl, h5, r5⟩ := trodAll_cons r4
  obtain ⟨rfl, rfl, rfl⟩ := trodAll_nil r5
  obtain rfl : args = #[v0, v1, v2, v3, v4, v5] := by cases args; simp_all
  obtain ⟨rfl, rfl⟩ := trodVars_none hV
  obtain ⟨a0, rfl, rfl, rfl, w0⟩ := open_int Try.underlying3 (hval 0 3 v0 rfl rfl) h0
  obtain ⟨a1, rfl, rfl, rfl, w1⟩ := open_int Try.underlying3 (hval 1 3 v1 rfl rfl) h1
  obtain ⟨a2, rfl, rfl, rfl, w2⟩ := open_int Try.underlying3 (hval 2 3 v2 rfl rfl) h2
  obtain ⟨a3, rfl, rfl, rfl, w3⟩ := open_int Try.underlying3 (hval 3 3 v3 rfl rfl) h3
  obtain ⟨a4, rfl, rfl, rfl, w4⟩ := open_int Try.underlying3 (hval 4 3 v4 rfl rfl) h4
  obtain ⟨a5, rfl, rfl, rfl, w5⟩ := open_int Try.underlying3 (hval 5 3 v5 rfl rfl) h5
  clear hA0 hval0
  simp only [List.append_nil] at hW'
  refine (walk a0 a1 a2 a3 a4 a5 w0 w1 w2 w3 w4 w5 W).mono fun e W' ⟨he, hg⟩ => ?_
  subst he
  exact ⟨_, rfl, _, _, _, [], [], [], hW', trodAll_mk1 (shut_bool Try.underlying4 _), (trodAll_cons_mk (shut_int Try.underlying3 w0) (trodAll_cons_mk (shut_int Try.underlying3 w1) (trodAll_cons_mk (shut_int Try.underlying3 w2) (trodAll_cons_mk (shut_int Try.underlying3 w3) (trodAll_cons_mk (shut_int Try.underlying3 w4) (trodAll_cons_mk (shut_int Try.underlying3 w5) trodAll_mk0)))))), rfl, hg.frame _, fun h => by cases h⟩

theorem over : Rows.bvClosedRow.holds Try.pinned (OpenSpec.ofChange Rows.bvClosedSpec) :=
  OpenClaim.holds_of_wide 7 Try.f7 rfl rfl rfl rfl rfl rfl rfl ⟨rfl, rfl, rfl, rfl, rfl⟩ rfl rfl rfl rfl rfl (by kernel_rfl) Try.func7 (by kernel_rfl)
    (of_decide_eq_true (by kernel_rfl)) (by unfold Func.isWrapper; first | (rw [if_pos (by decide +kernel)]; kernel_rfl) | (rw [if_neg (by decide +kernel)]; exact ⟨rfl, rfl⟩))
    (fun os started H enc _ => lifted os started H enc)

theorem proved : Rows.BvClosedSaid :=
  over
end Go.Proofs.Ytjlphploknhcfaa.bvClosed
namespace Go.Proofs.Ytjlphploknhcfaa
theorem bvClosed_holds : Rows.BvClosedSaid := bvClosed.proved
#print axioms bvClosed_holds
end Go.Proofs.Ytjlphploknhcfaa
