/- The statement BvBack of metronomelaw1, whole: for all kinds and every number the law returns true; no condition. -/
import Derived.Test.YtjlphploknhcfabRows
import Derived.WalkKit
import Derived.ProofKit
import Derived.OpenShut
import Derived.Below
import Derived.Test.YtjlphploknhcfabBvR
import Derived.Test.YtjlphploknhcfabBvO
namespace Go.Proofs.Ytjlphploknhcfab.bvBack
open Go.ChangeShapes Go.WideShapes Go.ChangeAt Go.RowKit
set_option linter.unusedVariables false

theorem own : ownKnob Try.prog.godebug = none := by kernel_rfl

theorem three {w w1 w2 w3 : World} (h1 : Below w.heap.size w w1) (h2 : Below w1.heap.size w1 w2) (h3 : Below w2.heap.size w2 w3) : Below w.heap.size w w3 :=
  (h1.trans (h2.mono h1.size)).trans (h3.mono (Nat.le_trans h1.size h2.size))

set_option maxHeartbeats 1000000 in
theorem main (f t a : Int) (i1 : Bv.I64 a) (w : World) :
    Calls Try.prog 5 #[.int .i64 f, .int .i64 t, .int .i64 a] w fun e w' => e = .returned (.bool true) ∧ Below w.heap.size w w' := by
  have hb := Bv.cast_back (f := f) (t := t) i1
  clear i1
  generalize hA : Bv.wrp f a = A at hb
  generalize hX : Bv.casN f t A = X at hb
  generalize hY : Bv.casN t f X = Y at hb
  generalize hO : Bv.casB f t A = o at hb
  generalize hF : Bv.casB t f X = g at hb
  have HN : Hid (Bv.wrp f a = A ∧ Bv.casN f t A = X ∧ Bv.casN t f X = Y ∧ Bv.casB f t A = o ∧ Bv.casB t f X = g) := ⟨hA, hX, hY, hO, hF⟩
  clear hA hX hY hO hF
  cases o with
  | false =>
    clear hb
    go_enter Try.func5, Try.ntmps5
    go_wp2_with (first | (go_at_call 9; refine (alive_any _).mono ?_; rintro e w1 ⟨rfl, hB⟩) | (go_at_call 10; refine (rwrap_any _ _ _).mono ?_; rintro e w' ⟨rfl, rfl⟩))
    rw [HN.out.1]
    refine (cast_any _ _ _ _).mono ?_
    rintro e w2 ⟨rfl, hB2⟩
    rw [HN.out.2.1, HN.out.2.2.2.1]
    go_wp2_with fail
    refine (cast_any _ _ _ _).mono ?_
    rintro e w3 ⟨rfl, hB3⟩
    rw [HN.out.2.2.1, HN.out.2.2.2.2]
    go_wp2
    go_ret
    exact ⟨rfl, three hB hB2 hB3⟩
  | true =>
    cases g with
    | false =>
      clear hb
      go_enter Try.func5, Try.ntmps5
      go_wp2_with (first | (go_at_call 9; refine (alive_any _).mono ?_; rintro e w1 ⟨rfl, hB⟩) | (go_at_call 10; refine (rwrap_any _ _ _).mono ?_; rintro e w' ⟨rfl, rfl⟩))
      rw [HN.out.1]
      refine (cast_any _ _ _ _).mono ?_
      rintro e w2 ⟨rfl, hB2⟩
      rw [HN.out.2.1, HN.out.2.2.2.1]
      go_wp2_with fail
      refine (cast_any _ _ _ _).mono ?_
      rintro e w3 ⟨rfl, hB3⟩
      rw [HN.out.2.2.1, HN.out.2.2.2.2]
      go_wp2
      go_ret
      exact ⟨rfl, three hB hB2 hB3⟩
    | true =>
      by_cases hw : Bv.wid t < Bv.wid f
      · clear hb
        go_enter Try.func5, Try.ntmps5
        go_wp2_with (first | (go_at_call 9; refine (alive_any _).mono ?_; rintro e w1 ⟨rfl, hB⟩) | (go_at_call 10; refine (rwrap_any _ _ _).mono ?_; rintro e w' ⟨rfl, rfl⟩))
        rw [HN.out.1]
        refine (cast_any _ _ _ _).mono ?_
        rintro e w2 ⟨rfl, hB2⟩
        rw [HN.out.2.1, HN.out.2.2.2.1]
        go_wp2_with fail
        refine (cast_any _ _ _ _).mono ?_
        rintro e w3 ⟨rfl, hB3⟩
        rw [HN.out.2.2.1, HN.out.2.2.2.2]
        have hB' := three hB hB2 hB3
        clear hB hB2 hB3
        go_wp2_with (first | (go_at_call 14; refine (width_any _ _).mono ?_; rintro e w' ⟨rfl, rfl⟩))
        go_ret
        exact ⟨rfl, hB'⟩
      · by_cases ht : t = 1
        · have ht' : (t == 1) = true := by simp [ht]
          clear hb ht
          go_enter Try.func5, Try.ntmps5
          go_wp2_with (first | (go_at_call 9; refine (alive_any _).mono ?_; rintro e w1 ⟨rfl, hB⟩) | (go_at_call 10; refine (rwrap_any _ _ _).mono ?_; rintro e w' ⟨rfl, rfl⟩))
          rw [HN.out.1]
          refine (cast_any _ _ _ _).mono ?_
          rintro e w2 ⟨rfl, hB2⟩
          rw [HN.out.2.1, HN.out.2.2.2.1]
          go_wp2_with fail
          refine (cast_any _ _ _ _).mono ?_
          rintro e w3 ⟨rfl, hB3⟩
          rw [HN.out.2.2.1, HN.out.2.2.2.2]
          have hB' := three hB hB2 hB3
          clear hB hB2 hB3
          go_wp2_with (first | (go_at_call 14; refine (width_any _ _).mono ?_; rintro e w' ⟨rfl, rfl⟩))
          go_ret
          exact ⟨rfl, hB'⟩
        · have hy := hb rfl rfl (by omega) ht
          have ht' : (t == 1) = false := by simp [ht]
          clear hb ht
          subst hy
          go_enter Try.func5, Try.ntmps5
          go_wp2_with (first | (go_at_call 9; refine (alive_any _).mono ?_; rintro e w1 ⟨rfl, hB⟩) | (go_at_call 10; refine (rwrap_any _ _ _).mono ?_; rintro e w' ⟨rfl, rfl⟩))
          rw [HN.out.1]
          refine (cast_any _ _ _ _).mono ?_
          rintro e w2 ⟨rfl, hB2⟩
          rw [HN.out.2.1, HN.out.2.2.2.1]
          go_wp2_with fail
          refine (cast_any _ _ _ _).mono ?_
          rintro e w3 ⟨rfl, hB3⟩
          rw [HN.out.2.2.1, HN.out.2.2.2.2]
          have hB' := three hB hB2 hB3
          clear hB hB2 hB3
          go_wp2_with (first | (go_at_call 14; refine (width_any _ _).mono ?_; rintro e w' ⟨rfl, rfl⟩))
          go_ret
          exact ⟨rfl, hB'⟩

theorem walk (a0 : Int) (a1 : Int) (a2 : Int) (w0 : (Lit.int .i64 a0).wf = true) (w1 : (Lit.int .i64 a1).wf = true) (w2 : (Lit.int .i64 a2).wf = true) (w : World) :
    Calls Try.prog 5 #[.int .i64 a0, .int .i64 a1, .int .i64 a2] w fun e w' => e = .returned (.bool true) ∧ Below w.heap.size w w' := by
  exact main a0 a1 a2 (Bv.i64_of_wf w2) w

set_option maxRecDepth 100000 in
theorem lifted (os : Os) (started : os.Started) (H : Type) (enc : TypeId × Value → H) :
    ReturnsInHanded {} Try.checked os 5 .any (Rows.bvBackSpec.pre6 enc Try.prog Try.f5 Rows.bvBackRow.domain false) (Rows.bvBackSpec.post enc Try.prog Try.f5 false true false false) := by
  refine returnsInHanded_of_change (C := Try.checked) own started (by kernel_rfl) Try.func5
    (ChangeSpec.witness6 (enc := enc) (C := Try.checked) false ⟨#[], #[.int .i64 0, .int .i64 0, .int .i64 0], []⟩ 8 (by kernel_rfl) (by kernel_rfl) (by kernel_rfl) (by kernel_rfl)) ?_
  intro W base args ds gs before hval0 hW hcnd _
  have hval : ∀ (j : Nat) t v, Try.f5.params[j]? = some t → args[j]? = some v → Value.okWide Try.prog W .any base t v := hval0
  have hW' := hW
  obtain ⟨p, q, hA0, hV, rfl, hfz, hnd⟩ := hW
  have hA : DataW.TrodAll enc Try.prog W 0 (fun _ => true) true Try.f5.params.toList args.toList ds p := hA0
  rw [Try.params5] at hA hval
  obtain ⟨v0, vs0, d0, ds0, p0, q0, hargs, rfl, rfl, h0, r0⟩ := trodAll_cons hA
  obtain ⟨v1, vs1, d1, ds1, p1, q1, rfl, rfl, rfl, h1, r1⟩ := trodAll_cons r0
  obtain ⟨v2, vs2, d2, ds2, p2, q2, rfl, rfl, rfl, h2, r2⟩ := trodAll_cons r1
  obtain ⟨rfl, rfl, rfl⟩ := trodAll_nil r2
  obtain rfl : args = #[v0, v1, v2] := by cases args; simp_all
  obtain ⟨rfl, rfl⟩ := trodVars_none hV
  obtain ⟨a0, rfl, rfl, rfl, w0⟩ := open_int Try.underlying3 (hval 0 3 v0 rfl rfl) h0
  obtain ⟨a1, rfl, rfl, rfl, w1⟩ := open_int Try.underlying3 (hval 1 3 v1 rfl rfl) h1
  obtain ⟨a2, rfl, rfl, rfl, w2⟩ := open_int Try.underlying3 (hval 2 3 v2 rfl rfl) h2
  clear hA0 hval0
  simp only [List.append_nil] at hW'
  refine (walk a0 a1 a2 w0 w1 w2 W).mono fun e W' ⟨he, hg⟩ => ?_
  subst he
  exact ⟨_, rfl, _, _, _, [], [], [], hW', trodAll_mk1 (shut_bool Try.underlying4 _), (trodAll_cons_mk (shut_int Try.underlying3 w0) (trodAll_cons_mk (shut_int Try.underlying3 w1) (trodAll_cons_mk (shut_int Try.underlying3 w2) trodAll_mk0))), rfl, hg.frame _, fun h => by cases h⟩

theorem over : Rows.bvBackRow.holds Try.pinned (OpenSpec.ofChange Rows.bvBackSpec) :=
  OpenClaim.holds_of_wide 5 Try.f5 rfl rfl rfl rfl rfl rfl rfl ⟨rfl, rfl, rfl, rfl, rfl⟩ rfl rfl rfl rfl rfl (by kernel_rfl) Try.func5 (by kernel_rfl)
    (of_decide_eq_true (by kernel_rfl)) (by unfold Func.isWrapper; first | (rw [if_pos (by decide +kernel)]; kernel_rfl) | (rw [if_neg (by decide +kernel)]; exact ⟨rfl, rfl⟩))
    (fun os started H enc _ => lifted os started H enc)

theorem proved : Rows.BvBackSaid :=
  over
end Go.Proofs.Ytjlphploknhcfab.bvBack
namespace Go.Proofs.Ytjlphploknhcfab
theorem bvBack_holds : Rows.BvBackSaid := bvBack.proved
#print axioms bvBack_holds
end Go.Proofs.Ytjlphploknhcfab
