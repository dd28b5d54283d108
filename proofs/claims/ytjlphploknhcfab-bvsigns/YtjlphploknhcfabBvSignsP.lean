/- The statement BvSigns of metronomelaw1, whole: for every kind and every number the law returns true; no condition. -/
import Derived.Test.YtjlphploknhcfabRows
import Derived.WalkKit
import Derived.ProofKit
import Derived.OpenShut
import Derived.Below
import Derived.Test.YtjlphploknhcfabBvF
import Derived.Test.YtjlphploknhcfabBvO
namespace Go.Proofs.Ytjlphploknhcfab.bvSigns
open Go.ChangeShapes Go.WideShapes Go.ChangeAt Go.RowKit
set_option linter.unusedVariables false

theorem own : ownKnob Try.prog.godebug = none := by kernel_rfl

theorem facts (k A : Int) (h1 : 2 ≤ k) (h2 : k ≤ 9) (va : Bv.Val k A) :
    Bv.unB 2 k A = true ∧ Bv.unB 2 k (Bv.unN 2 k A) = true ∧ Bv.unN 2 k (Bv.unN 2 k A) = A ∧ doN 3 k A (Bv.unN 2 k A) = 0 ∧ (6 ≤ k → doN 16 k A 0 = 0) ∧ (k ≤ 5 → doN 16 k A 0 = Bv.one (decide (A < 0))) ∧ Bv.I64 (Bv.unN 2 k A) := by
  have e := Bv.unN2 h1 h2 va
  have vn : Bv.Val k (Bv.unN 2 k A) := by rw [e]; exact Bv.val_W k _
  have v0 := Bv.val_zero k (by omega) h2
  have l : doN 16 k A 0 = Bv.one (Bv.lss k A 0) := by unfold doN; rw [va.1, v0.1, Bv.nLt h1 h2 va v0]
  refine ⟨Bv.unB2 h1 h2 va, Bv.unB2 h1 h2 vn, ?_, ?_, fun h => ?_, fun h => ?_, vn.2⟩
  · rw [Bv.unN2 h1 h2 vn, e, Bv.neg_neg h1 h2 va]
  · unfold doN
    rw [va.1, vn.1, Bv.nAdd h1 h2 va vn, e, Bv.add_neg h1 h2]
  · rw [l, Bv.lss_u h]
    have := (Bv.val_u h h2 va).1
    have z : Bv.U 0 = 0 := by decide
    rw [z]
    have : ¬ Bv.U A < 0 := by omega
    simp [Bv.one, this]
  · rw [l, Bv.lss_s h]

set_option maxHeartbeats 1000000 in
theorem main (k a : Int) (h1 : 2 ≤ k) (h2 : k ≤ 9) (i1 : Bv.I64 a) (w : World) :
    Calls Try.prog 8 #[.int .i64 k, .int .i64 a] w fun e w' => e = .returned (.bool true) ∧ Below w.heap.size w w' := by
  have va := Bv.val_wrp k a i1
  clear i1
  generalize hA : Bv.wrp k a = A at va
  obtain ⟨f1, f2, f3, f4, f5, f6, f7⟩ := facts k A h1 h2 va
  clear va
  generalize hn : Bv.unN 2 k A = n at f2 f3 f4 f7
  generalize hl : doN 16 k A 0 = l at f5 f6
  have i0 : Bv.I64 0 := by unfold Bv.I64; omega
  by_cases h6 : 6 ≤ k
  · have e := f5 h6
    subst e
    clear f5 f6
    go_enter Try.func8, Try.ntmps8
    go_wp2_with (first
      | (go_at_call 9; refine (alive_any _).mono ?_; rintro e w1 ⟨rfl, hB⟩)
      | (go_at_call 10; refine (rwrap_any _ _ _).mono ?_; rintro e w' ⟨rfl, hw⟩; subst hw)
      | (go_at_call 11; refine (un_any _ _ _ _).mono ?_; rintro e w2 ⟨rfl, hB2⟩; first | (obtain ⟨c, l⟩ := keeps1 hB2; have hB := step1 hB hB2; clear hB2) | (obtain ⟨c, l⟩ := keeps hB2 l c; have hB := step hB hB2; clear hB2))
      | (go_at_call 12; refine (do_any _ _ _ _ (by assumption) _).mono ?_; rintro e w2 ⟨rfl, hB2⟩; obtain ⟨c, l⟩ := keeps hB2 l c; have hB := step hB hB2; clear hB2))
    go_ret
    exact ⟨rfl, hB⟩
  · have e := f6 (by omega)
    subst e
    clear f5 f6
    by_cases hneg : A < 0
    · have e : Bv.one (decide (A < 0)) = 1 := by simp [Bv.one, hneg]
      rw [e] at hl
      clear e
      go_enter Try.func8, Try.ntmps8
      go_wp2_with (first
      | (go_at_call 9; refine (alive_any _).mono ?_; rintro e w1 ⟨rfl, hB⟩)
      | (go_at_call 10; refine (rwrap_any _ _ _).mono ?_; rintro e w' ⟨rfl, hw⟩; subst hw)
      | (go_at_call 11; refine (un_any _ _ _ _).mono ?_; rintro e w2 ⟨rfl, hB2⟩; first | (obtain ⟨c, l⟩ := keeps1 hB2; have hB := step1 hB hB2; clear hB2) | (obtain ⟨c, l⟩ := keeps hB2 l c; have hB := step hB hB2; clear hB2))
      | (go_at_call 12; refine (do_any _ _ _ _ (by assumption) _).mono ?_; rintro e w2 ⟨rfl, hB2⟩; obtain ⟨c, l⟩ := keeps hB2 l c; have hB := step hB hB2; clear hB2))
      go_ret
      exact ⟨rfl, hB⟩
    · have e : Bv.one (decide (A < 0)) = 0 := by simp [Bv.one, hneg]
      rw [e] at hl
      clear e
      go_enter Try.func8, Try.ntmps8
      go_wp2_with (first
      | (go_at_call 9; refine (alive_any _).mono ?_; rintro e w1 ⟨rfl, hB⟩)
      | (go_at_call 10; refine (rwrap_any _ _ _).mono ?_; rintro e w' ⟨rfl, hw⟩; subst hw)
      | (go_at_call 11; refine (un_any _ _ _ _).mono ?_; rintro e w2 ⟨rfl, hB2⟩; first | (obtain ⟨c, l⟩ := keeps1 hB2; have hB := step1 hB hB2; clear hB2) | (obtain ⟨c, l⟩ := keeps hB2 l c; have hB := step hB hB2; clear hB2))
      | (go_at_call 12; refine (do_any _ _ _ _ (by assumption) _).mono ?_; rintro e w2 ⟨rfl, hB2⟩; obtain ⟨c, l⟩ := keeps hB2 l c; have hB := step hB hB2; clear hB2))
      go_ret
      exact ⟨ret_bool (by simp; omega), hB⟩

theorem walk (a0 : Int) (a1 : Int) (w0 : (Lit.int .i64 a0).wf = true) (w1 : (Lit.int .i64 a1).wf = true) (w : World) :
    Calls Try.prog 8 #[.int .i64 a0, .int .i64 a1] w fun e w' => e = .returned (.bool true) ∧ Below w.heap.size w w' := by
  by_cases hk : 2 ≤ a0 ∧ a0 ≤ 9
  · exact main a0 a1 hk.1 hk.2 (Bv.i64_of_wf w1) w
  · have hk' : a0 < 2 ∨ 9 < a0 := by omega
    clear hk
    rcases hk' with hk | hk
    all_goals
      go_enter Try.func8, Try.ntmps8
      go_wp2_with (first | (go_at_call 9; refine (alive_any _).mono ?_; rintro e w1 ⟨rfl, hB⟩))
      go_ret
      exact ⟨rfl, hB⟩

set_option maxRecDepth 100000 in
theorem lifted (os : Os) (started : os.Started) (H : Type) (enc : TypeId × Value → H) :
    ReturnsInHanded {} Try.checked os 8 .any (Rows.bvSignsSpec.pre6 enc Try.prog Try.f8 Rows.bvSignsRow.domain false) (Rows.bvSignsSpec.post enc Try.prog Try.f8 false true false false) := by
  refine returnsInHanded_of_change (C := Try.checked) own started (by kernel_rfl) Try.func8
    (ChangeSpec.witness6 (enc := enc) (C := Try.checked) false ⟨#[], #[.int .i64 0, .int .i64 0], []⟩ 8 (by kernel_rfl) (by kernel_rfl) (by kernel_rfl) (by kernel_rfl)) ?_
  intro W base args ds gs before hval0 hW hcnd _
  have hval : ∀ (j : Nat) t v, Try.f8.params[j]? = some t → args[j]? = some v → Value.okWide Try.prog W .any base t v := hval0
  have hW' := hW
  obtain ⟨p, q, hA0, hV, rfl, hfz, hnd⟩ := hW
  have hA : DataW.TrodAll enc Try.prog W 0 (fun _ => true) true Try.f8.params.toList args.toList ds p := hA0
  rw [Try.params8] at hA hval
  obtain ⟨v0, vs0, d0, ds0, p0, q0, hargs, rfl, rfl, h0, r0⟩ := trodAll_cons hA
  obtain ⟨v1, vs1, d1, ds1, p1, q1, rfl, rfl, rfl, h1, r1⟩ := trodAll_cons r0
  obtain ⟨rfl, rfl, rfl⟩ := trodAll_nil r1
  obtain rfl : args = #[v0, v1] := by cases args; simp_all
  obtain ⟨rfl, rfl⟩ := trodVars_none hV
  obtain ⟨a0, rfl, rfl, rfl, w0⟩ := open_int Try.underlying3 (hval 0 3 v0 rfl rfl) h0
  obtain ⟨a1, rfl, rfl, rfl, w1⟩ := open_int Try.underlying3 (hval 1 3 v1 rfl rfl) h1
  clear hA0 hval0
  simp only [List.append_nil] at hW'
  refine (walk a0 a1 w0 w1 W).mono fun e W' ⟨he, hg⟩ => ?_
  subst he
  exact ⟨_, rfl, _, _, _, [], [], [], hW', trodAll_mk1 (shut_bool Try.underlying4 _), (trodAll_cons_mk (shut_int Try.underlying3 w0) (trodAll_cons_mk (shut_int Try.underlying3 w1) trodAll_mk0)), rfl, hg.frame _, fun h => by cases h⟩

theorem over : Rows.bvSignsRow.holds Try.pinned (OpenSpec.ofChange Rows.bvSignsSpec) :=
  OpenClaim.holds_of_wide 8 Try.f8 rfl rfl rfl rfl rfl rfl rfl ⟨rfl, rfl, rfl, rfl, rfl⟩ rfl rfl rfl rfl rfl (by kernel_rfl) Try.func8 (by kernel_rfl)
    (of_decide_eq_true (by kernel_rfl)) (by unfold Func.isWrapper; first | (rw [if_pos (by decide +kernel)]; kernel_rfl) | (rw [if_neg (by decide +kernel)]; exact ⟨rfl, rfl⟩))
    (fun os started H enc _ => lifted os started H enc)

theorem proved : Rows.BvSignsSaid :=
  over
end Go.Proofs.Ytjlphploknhcfab.bvSigns
namespace Go.Proofs.Ytjlphploknhcfab
theorem bvSigns_holds : Rows.BvSignsSaid := bvSigns.proved
#print axioms bvSigns_holds
end Go.Proofs.Ytjlphploknhcfab
