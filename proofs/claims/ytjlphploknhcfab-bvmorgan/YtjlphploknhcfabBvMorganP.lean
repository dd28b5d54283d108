/- The statement BvMorgan of metronomelaw1, whole: for every kind and all numbers the law returns true; no condition. -/
import Derived.Test.YtjlphploknhcfabRows
import Derived.WalkKit
import Derived.ProofKit
import Derived.OpenShut
import Derived.Below
import Derived.Test.YtjlphploknhcfabBvF
import Derived.Test.YtjlphploknhcfabBvE
import Derived.Deep.RegionHeld3
namespace Go.Proofs.Ytjlphploknhcfab.bvMorgan
open Go.ChangeShapes Go.WideShapes Go.ChangeAt Go.RowKit
set_option linter.unusedVariables false

theorem own : ownKnob Try.prog.godebug = none := by kernel_rfl

theorem facts (k a b c : Int) (h1 : 1 ≤ k) (h2 : k ≤ 9) (ia : Bv.I64 a) (ib : Bv.I64 b) (ic : Bv.I64 c) :
    (doU k (doN 8 k a b) == doN 9 k (doU k a) (doU k b)) = true ∧ (doN 10 k a b == doN 8 k (doN 9 k a b) (doU k (doN 8 k a b))) = true ∧
      (doN 8 k a (doN 9 k b c) == doN 9 k (doN 8 k a b) (doN 8 k a c)) = true ∧ (doN 10 k (doN 10 k a b) b == Bv.wrp k a) = true ∧
      Bv.I64 (doU k b) ∧ Bv.I64 (doU k (doN 8 k a b)) ∧ Bv.I64 (doN 9 k b c) ∧ Bv.I64 (doN 8 k a c) := by
  have va := Bv.val_wrp k a ia
  have vb := Bv.val_wrp k b ib
  have vc := Bv.val_wrp k c ic
  have la := Bv.low_lt (Bv.wn k) (Bv.wrp k a)
  have lb := Bv.low_lt (Bv.wn k) (Bv.wrp k b)
  have nu : ∀ x, Bv.I64 x → Bv.Val k (doU k x) ∧ Bv.low (Bv.wn k) (doU k x) = (2 ^ Bv.wn k - 1) ^^^ Bv.low (Bv.wn k) (Bv.wrp k x) := fun x h => Bv.nNot h1 h2 (Bv.val_wrp k x h)
  have n8 : ∀ x y, Bv.I64 x → Bv.I64 y → Bv.Val k (doN 8 k x y) ∧ Bv.low (Bv.wn k) (doN 8 k x y) = Bv.low (Bv.wn k) (Bv.wrp k x) &&& Bv.low (Bv.wn k) (Bv.wrp k y) := fun x y h h' => Bv.nAnd h1 h2 (Bv.val_wrp k x h) (Bv.val_wrp k y h')
  have n9 : ∀ x y, Bv.I64 x → Bv.I64 y → Bv.Val k (doN 9 k x y) ∧ Bv.low (Bv.wn k) (doN 9 k x y) = Bv.low (Bv.wn k) (Bv.wrp k x) ||| Bv.low (Bv.wn k) (Bv.wrp k y) := fun x y h h' => Bv.nOr h1 h2 (Bv.val_wrp k x h) (Bv.val_wrp k y h')
  have n10 : ∀ x y, Bv.I64 x → Bv.I64 y → Bv.Val k (doN 10 k x y) ∧ Bv.low (Bv.wn k) (doN 10 k x y) = Bv.low (Bv.wn k) (Bv.wrp k x) ^^^ Bv.low (Bv.wn k) (Bv.wrp k y) := fun x y h h' => Bv.nXor h1 h2 (Bv.val_wrp k x h) (Bv.val_wrp k y h')
  obtain ⟨vab, lab⟩ := n8 a b ia ib
  obtain ⟨voab, loab⟩ := n9 a b ia ib
  obtain ⟨vac, lac⟩ := n8 a c ia ic
  obtain ⟨vbc, lbc⟩ := n9 b c ib ic
  obtain ⟨vxab, lxab⟩ := n10 a b ia ib
  obtain ⟨vua, lua⟩ := nu a ia
  obtain ⟨vub, lub⟩ := nu b ib
  obtain ⟨vnab, lnab⟩ := nu _ vab.2
  obtain ⟨v1, l1⟩ := n9 _ _ vua.2 vub.2
  obtain ⟨v2, l2⟩ := n8 _ _ voab.2 vnab.2
  obtain ⟨v3, l3⟩ := n8 a _ ia vbc.2
  obtain ⟨v4, l4⟩ := n9 _ _ vab.2 vac.2
  obtain ⟨v5, l5⟩ := n10 _ b vxab.2 ib
  rw [vab.1] at lnab
  rw [vua.1, vub.1] at l1
  rw [voab.1, vnab.1] at l2
  rw [vbc.1] at l3
  rw [vab.1, vac.1] at l4
  rw [vxab.1] at l5
  refine ⟨beq_iff_eq.2 ?_, beq_iff_eq.2 ?_, beq_iff_eq.2 ?_, beq_iff_eq.2 ?_, vub.2, vnab.2, vbc.2, vac.2⟩
  · refine Bv.low_inj h1 h2 vnab v1 ?_
    rw [lnab, lab, l1, lua, lub, Bv.morgan la lb]
  · refine Bv.low_inj h1 h2 vxab v2 ?_
    rw [lxab, l2, loab, lnab, lab]
    exact Bv.xor_as la lb
  · refine Bv.low_inj h1 h2 v3 v4 ?_
    rw [l3, lbc, l4, lab, lac, Bv.and_or_dist]
  · refine Bv.low_inj h1 h2 v5 va ?_
    rw [l5, lxab, Bv.xor_xor]

/-- what holds all along: the two cells of the law's own variables; nothing that was there has turned -/
def Hold (w0 : World) (k : Int) (n : Nat) (w : World) : Prop :=
  w.cell? ⟨n, 0, none⟩ = some (.int .i64 k) ∧ w.cell? ⟨n + 1, 0, none⟩ = some (.int .i64 k) ∧ n + 1 < w.heap.size ∧ Below w0.heap.size w0 w
theorem Hold.on {w0 w w' : World} {k : Int} {n : Nat} (h : Hold w0 k n w) (hb : Below w.heap.size w w') : Hold w0 k n w' :=
  ⟨(keeps hb (Nat.lt_of_succ_lt h.2.2.1) h.1).1, (keeps hb h.2.2.1 h.2.1).1, (keeps hb h.2.2.1 h.2.1).2, h.2.2.2.trans (hb.mono h.2.2.2.size)⟩
theorem Hold.drew {w0 w : World} {k : Int} {n : Nat} (h : Hold w0 k n w) : Hold w0 k n w.drew := ⟨h.1, h.2.1, h.2.2.1, h.2.2.2.drew⟩
theorem Hold.made {w0 w : World} {k : Int} {t u : TypeId} (h : Below w0.heap.size w0 w) : Hold w0 k w.heap.size ((w.alloc (.cells #[.int .i64 k] t)).alloc (.cells #[.int .i64 k] u)) :=
  ⟨by simp, by simp, by simp, (h.alloc h.size _).alloc (by have := h.size; simp; omega) _⟩

set_option maxHeartbeats 4000000 in
theorem main (k a b c : Int) (h1 : 1 ≤ k) (h2 : k ≤ 9) (ia : Bv.I64 a) (ib : Bv.I64 b) (ic : Bv.I64 c) (w : World) :
    Calls Try.prog 7 #[.int .i64 k, .int .i64 a, .int .i64 b, .int .i64 c] w fun e w' => e = .returned (.bool true) ∧ Below w.heap.size w w' := by
  obtain ⟨e1, e2, e3, e4, i1, i2, i3, i4⟩ := facts k a b c h1 h2 ia ib ic
  go_enter Try.func7, Try.ntmps7
  go_wp2_with (first | (go_at_call 9; refine (alive_any _).mono ?_; rintro e w1 ⟨rfl, hB⟩))
  have hS := Hold.made (k := k) (t := 25) (u := 34) hB
  generalize (w1.alloc (.cells #[.int .i64 k] 25)).alloc (.cells #[.int .i64 k] 34) = w2 at hS ⊢
  generalize w1.heap.size = n at hS ⊢
  clear hB
  go_region_held3 (fun w' => w'.cell? ⟨n, 0, none⟩ = some (.int .i64 k) ∧ w'.cell? ⟨n + 1, 0, none⟩ = some (.int .i64 k) ∧ n + 1 < w'.heap.size ∧ Below w.heap.size w w') (first | exact hS | exact hS.drew)
    (first
      | (go_at_call 12; refine (do_any _ _ _ _ (by assumption) _).mono ?_; rintro e w2 ⟨rfl, hB2⟩; have hS := Hold.on (by assumption) hB2; clear hB2)
      | (go_at_call 10; refine (rwrap_any _ _ _).mono ?_; rintro e w2 ⟨rfl, hw⟩; subst hw)
      | (go_at_call 16; refine (dou_any _ _ _).mono ?_; rintro e w2 ⟨rfl, hB2⟩; have hS := Hold.on (by assumption) hB2; clear hB2))
  go_wp2
  go_region_held3 (fun w' => w'.cell? ⟨n, 0, none⟩ = some (.int .i64 k) ∧ w'.cell? ⟨n + 1, 0, none⟩ = some (.int .i64 k) ∧ n + 1 < w'.heap.size ∧ Below w.heap.size w w') (first | exact hS | exact hS.drew)
    (first
      | (go_at_call 12; refine (do_any _ _ _ _ (by assumption) _).mono ?_; rintro e w2 ⟨rfl, hB2⟩; have hS := Hold.on (by assumption) hB2; clear hB2)
      | (go_at_call 10; refine (rwrap_any _ _ _).mono ?_; rintro e w2 ⟨rfl, hw⟩; subst hw)
      | (go_at_call 16; refine (dou_any _ _ _).mono ?_; rintro e w2 ⟨rfl, hB2⟩; have hS := Hold.on (by assumption) hB2; clear hB2))
  go_wp2
  go_region_held3 (fun w' => w'.cell? ⟨n, 0, none⟩ = some (.int .i64 k) ∧ w'.cell? ⟨n + 1, 0, none⟩ = some (.int .i64 k) ∧ n + 1 < w'.heap.size ∧ Below w.heap.size w w') (first | exact hS | exact hS.drew)
    (first
      | (go_at_call 12; refine (do_any _ _ _ _ (by assumption) _).mono ?_; rintro e w2 ⟨rfl, hB2⟩; have hS := Hold.on (by assumption) hB2; clear hB2)
      | (go_at_call 10; refine (rwrap_any _ _ _).mono ?_; rintro e w2 ⟨rfl, hw⟩; subst hw)
      | (go_at_call 16; refine (dou_any _ _ _).mono ?_; rintro e w2 ⟨rfl, hB2⟩; have hS := Hold.on (by assumption) hB2; clear hB2))
  go_wp2
  go_region_held3 (fun w' => w'.cell? ⟨n, 0, none⟩ = some (.int .i64 k) ∧ w'.cell? ⟨n + 1, 0, none⟩ = some (.int .i64 k) ∧ n + 1 < w'.heap.size ∧ Below w.heap.size w w') (first | exact hS | exact hS.drew)
    (first
      | (go_at_call 12; refine (do_any _ _ _ _ (by assumption) _).mono ?_; rintro e w2 ⟨rfl, hB2⟩; have hS := Hold.on (by assumption) hB2; clear hB2)
      | (go_at_call 10; refine (rwrap_any _ _ _).mono ?_; rintro e w2 ⟨rfl, hw⟩; subst hw)
      | (go_at_call 16; refine (dou_any _ _ _).mono ?_; rintro e w2 ⟨rfl, hB2⟩; have hS := Hold.on (by assumption) hB2; clear hB2))
  go_wp2
  go_ret
  exact ⟨rfl, hS.2.2.2⟩

theorem walk (a0 : Int) (a1 : Int) (a2 : Int) (a3 : Int) (w0 : (Lit.int .i64 a0).wf = true) (w1 : (Lit.int .i64 a1).wf = true) (w2 : (Lit.int .i64 a2).wf = true) (w3 : (Lit.int .i64 a3).wf = true) (w : World) :
    Calls Try.prog 7 #[.int .i64 a0, .int .i64 a1, .int .i64 a2, .int .i64 a3] w fun e w' => e = .returned (.bool true) ∧ Below w.heap.size w w' := by
  by_cases hk : 1 ≤ a0 ∧ a0 ≤ 9
  · exact main a0 a1 a2 a3 hk.1 hk.2 (Bv.i64_of_wf w1) (Bv.i64_of_wf w2) (Bv.i64_of_wf w3) w
  · have hk' : a0 < 1 ∨ 9 < a0 := by omega
    clear hk
    rcases hk' with hk | hk
    all_goals
      go_enter Try.func7, Try.ntmps7
      go_wp2_with (first | (go_at_call 9; refine (alive_any _).mono ?_; rintro e w1 ⟨rfl, hB⟩))
      go_ret
      exact ⟨rfl, hB⟩

set_option maxRecDepth 100000 in
theorem lifted (os : Os) (started : os.Started) (H : Type) (enc : TypeId × Value → H) :
    ReturnsInHanded {} Try.checked os 7 .any (Rows.bvMorganSpec.pre6 enc Try.prog Try.f7 Rows.bvMorganRow.domain false) (Rows.bvMorganSpec.post enc Try.prog Try.f7 false true false false) := by
  refine returnsInHanded_of_change (C := Try.checked) own started (by kernel_rfl) Try.func7
    (ChangeSpec.witness6 (enc := enc) (C := Try.checked) false ⟨#[], #[.int .i64 0, .int .i64 0, .int .i64 0, .int .i64 0], []⟩ 8 (by kernel_rfl) (by kernel_rfl) (by kernel_rfl) (by kernel_rfl)) ?_
  intro W base args ds gs before hval0 hW hcnd _
  have hval : ∀ (j : Nat) t v, Try.f7.params[j]? = some t → args[j]? = some v → Value.okWide Try.prog W .any base t v := hval0
  have hW' := hW
  obtain ⟨p, q, hA0, hV, rfl, hfz, hnd⟩ := hW
  have hA : DataW.TrodAll enc Try.prog W 0 (fun _ => true) true Try.f7.params.toList args.toList ds p := hA0
  rw [Try.params7] at hA hval
  obtain ⟨v0, vs0, d0, ds0, p0, q0, hargs, rfl, rfl, h0, r0⟩ := trodAll_cons hA
  obtain ⟨v1, vs1, d1, ds1, p1, q1, rfl, rfl, rfl, h1, r1⟩ := trodAll_cons r0
  obtain ⟨v2, vs2, d2, ds2, p2, q2, rfl, rfl, rfl, h2, r2⟩ := trodAll_cons r1
  obtain ⟨v3, vs3, d3, ds3, p3, q3, rfl, rfl, rfl, h3, r3⟩ := trodAll_cons r2
  obtain ⟨rfl, rfl, rfl⟩ := trodAll_nil r3
  obtain rfl : args = #[v0, v1, v2, v3] := by cases args; simp_all
  obtain ⟨rfl, rfl⟩ := trodVars_none hV
  obtain ⟨a0, rfl, rfl, rfl, w0⟩ := open_int Try.underlying3 (hval 0 3 v0 rfl rfl) h0
  obtain ⟨a1, rfl, rfl, rfl, w1⟩ := open_int Try.underlying3 (hval 1 3 v1 rfl rfl) h1
  obtain ⟨a2, rfl, rfl, rfl, w2⟩ := open_int Try.underlying3 (hval 2 3 v2 rfl rfl) h2
  obtain ⟨a3, rfl, rfl, rfl, w3⟩ := open_int Try.underlying3 (hval 3 3 v3 rfl rfl) h3
  clear hA0 hval0
  simp only [List.append_nil] at hW'
  refine (walk a0 a1 a2 a3 w0 w1 w2 w3 W).mono fun e W' ⟨he, hg⟩ => ?_
  subst he
  exact ⟨_, rfl, _, _, _, [], [], [], hW', trodAll_mk1 (shut_bool Try.underlying4 _), (trodAll_cons_mk (shut_int Try.underlying3 w0) (trodAll_cons_mk (shut_int Try.underlying3 w1) (trodAll_cons_mk (shut_int Try.underlying3 w2) (trodAll_cons_mk (shut_int Try.underlying3 w3) trodAll_mk0)))), rfl, hg.frame _, fun h => by cases h⟩

theorem over : Rows.bvMorganRow.holds Try.pinned (OpenSpec.ofChange Rows.bvMorganSpec) :=
  OpenClaim.holds_of_wide 7 Try.f7 rfl rfl rfl rfl rfl rfl rfl ⟨rfl, rfl, rfl, rfl, rfl⟩ rfl rfl rfl rfl rfl (by kernel_rfl) Try.func7 (by kernel_rfl)
    (of_decide_eq_true (by kernel_rfl)) (by unfold Func.isWrapper; first | (rw [if_pos (by decide +kernel)]; kernel_rfl) | (rw [if_neg (by decide +kernel)]; exact ⟨rfl, rfl⟩))
    (fun os started H enc _ => lifted os started H enc)

theorem proved : Rows.BvMorganSaid :=
  over
end Go.Proofs.Ytjlphploknhcfab.bvMorgan
namespace Go.Proofs.Ytjlphploknhcfab
theorem bvMorgan_holds : Rows.BvMorganSaid := bvMorgan.proved
#print axioms bvMorgan_holds
end Go.Proofs.Ytjlphploknhcfab
