/- The statement BvOrders of metronomelaw1, whole: for every kind and all numbers the law returns true; no condition. -/
import Derived.Test.YtjlphploknhcfabRows
import Derived.WalkKit
import Derived.ProofKit
import Derived.OpenShut
import Derived.Below
import Derived.Test.YtjlphploknhcfabBvF
import Derived.Test.YtjlphploknhcfabBvO
namespace Go.Proofs.Ytjlphploknhcfab.bvOrders
open Go.ChangeShapes Go.WideShapes Go.ChangeAt Go.RowKit
set_option linter.unusedVariables false

theorem own : ownKnob Try.prog.godebug = none := by kernel_rfl

/-- what the law's road meets, by the places of the three values in the row -/
theorem facts (k a b c : Int) (h1 : 2 ≤ k) (h2 : k ≤ 9) (ia : Bv.I64 a) (ib : Bv.I64 b) (ic : Bv.I64 c) :
    ∃ p q r n lo hi : Int, doN 16 k a b = Bv.one (decide (p < q)) ∧ doN 16 k b a = Bv.one (decide (q < p)) ∧ doN 14 k a b = Bv.one (decide (p = q)) ∧ doN 16 k b c = Bv.one (decide (q < r)) ∧ doN 16 k a c = Bv.one (decide (p < r)) ∧
      Bv.I64 (doN 3 k a 1) ∧ doN 16 k a (doN 3 k a 1) = Bv.one (decide (p < n)) ∧ doN 17 k b a = Bv.one (!decide (p < q)) ∧ doN 17 k (doN 3 k a 1) b = Bv.one (!decide (q < n)) ∧
      p ≤ hi ∧ q ≤ hi ∧ lo < hi ∧ lo ≤ p ∧ (p < hi → n = p + 1) ∧ (p = hi → n = lo) := by
  obtain ⟨lo, hi, hlh, hr, hn, ht, inj⟩ := Bv.pl_next h1 h2
  have va := Bv.val_wrp k a ia
  have vb := Bv.val_wrp k b ib
  have vc := Bv.val_wrp k c ic
  have v1 := Bv.val_one k (by omega) h2
  have en : doN 3 k a 1 = Bv.W k (Bv.wrp k a + 1) := by unfold doN; rw [v1.1, Bv.nAdd h1 h2 va v1]
  have vn : Bv.Val k (doN 3 k a 1) := by rw [en]; exact Bv.val_W k _
  have e14 : ∀ x y, Bv.Val k x → Bv.Val k y → (x == y) = decide (Bv.pl k x = Bv.pl k y) := by
    intro x y hx hy
    rw [Bool.eq_iff_iff, beq_iff_eq, decide_eq_true_eq]
    exact ⟨fun h => by rw [h], fun h => inj x y hx hy h⟩
  refine ⟨Bv.pl k (Bv.wrp k a), Bv.pl k (Bv.wrp k b), Bv.pl k (Bv.wrp k c), Bv.pl k (doN 3 k a 1), lo, hi, ?_, ?_, ?_, ?_, ?_, vn.2, ?_, ?_, ?_, (hr _ va).2, (hr _ vb).2, hlh, (hr _ va).1, ?_, ?_⟩
  · unfold doN; rw [Bv.nLt h1 h2 va vb, Bv.lss_pl]
  · unfold doN; rw [Bv.nLt h1 h2 vb va, Bv.lss_pl]
  · unfold doN; rw [Bv.nEq h1 h2 va vb, e14 _ _ va vb]
  · unfold doN; rw [Bv.nLt h1 h2 vb vc, Bv.lss_pl]
  · unfold doN; rw [Bv.nLt h1 h2 va vc, Bv.lss_pl]
  · show Bv.binN 16 k (Bv.wrp k a) (Bv.wrp k (doN 3 k a 1)) = _
    rw [vn.1, Bv.nLt h1 h2 va vn, Bv.lss_pl]
  · unfold doN; rw [Bv.nLe h1 h2 vb va, Bv.lss_pl]
  · show Bv.binN 17 k (Bv.wrp k (doN 3 k a 1)) (Bv.wrp k b) = _
    rw [vn.1, Bv.nLe h1 h2 vn vb, Bv.lss_pl]
  · intro h; rw [en]; exact hn _ va h
  · intro h; rw [en]; exact ht _ va h

theorem one_t {p : Prop} [Decidable p] (h : p) : Bv.one (decide p) = 1 := by simp [Bv.one, h]
theorem one_f {p : Prop} [Decidable p] (h : ¬ p) : Bv.one (decide p) = 0 := by simp [Bv.one, h]
theorem one_nt {p : Prop} [Decidable p] (h : p) : Bv.one (!decide p) = 0 := by simp [Bv.one, h]
theorem one_nf {p : Prop} [Decidable p] (h : ¬ p) : Bv.one (!decide p) = 1 := by simp [Bv.one, h]

set_option maxHeartbeats 1000000 in
/-- the walk, once each answer on the road is a number: x1 (a below b), x2 (b below a), x3 (the same), x4 (b below c), x5 (a below c), x6 (a below the next), x7 (b at most a), x8 (the next at most b) -/
theorem road (k a b c x1 x2 x3 x4 x5 n x6 x7 x8 : Int) (h1 : 2 ≤ k) (h2 : k ≤ 9) (ia : Bv.I64 a) (ib : Bv.I64 b) (ic : Bv.I64 c) (i1 : Bv.I64 1) (in' : Bv.I64 n)
    (e1 : doN 16 k a b = x1) (e2 : doN 16 k b a = x2) (e3 : doN 14 k a b = x3) (e4 : doN 16 k b c = x4) (e5 : doN 16 k a c = x5) (en : doN 3 k a 1 = n) (e6 : doN 16 k a n = x6) (e7 : doN 17 k b a = x7) (e8 : doN 17 k n b = x8)
    (hs : (wrap64 (wrap64 (x1 + x2) + x3) != 1) = false) (ht : x1 = 1 → x4 = 1 → x5 = 1) (hm : x6 = 0 → x7 = 1) (hn : x6 = 0 ∨ x1 = 0 ∨ x8 = 1)
    (w : World) : Calls Try.prog 6 #[.int .i64 k, .int .i64 a, .int .i64 b, .int .i64 c] w fun e w' => e = .returned (.bool true) ∧ Below w.heap.size w w' := by
  have H : Hid ((x1 = 1 → x4 = 1 → x5 = 1) ∧ (x6 = 0 → x7 = 1) ∧ (x6 = 0 ∨ x1 = 0 ∨ x8 = 1)) := ⟨ht, hm, hn⟩
  clear ht hm hn
  go_enter Try.func6, Try.ntmps6
  go_wp2_with (first
      | (go_at_call 9; refine (alive_any _).mono ?_; rintro e w1 ⟨rfl, hB⟩)
      | (go_at_call 12; refine (do_any _ _ _ _ (by assumption) _).mono ?_; rintro e w2 ⟨rfl, hB2⟩; first | (obtain ⟨cc, l⟩ := keeps1 hB2; have hB := step1 hB hB2; clear hB2) | (obtain ⟨cc, l⟩ := keeps hB2 l cc; have hB := step hB hB2; clear hB2)))
  all_goals go_ret
  all_goals refine ⟨ret_bool ?_, hB⟩
  all_goals clear hB
  all_goals clear cc l
  all_goals (obtain ⟨ht, hm, hn⟩ := H.out; clear H e1 e2 e3 e4 e5 en e6 e7 e8 ia ib ic i1 in' h1 h2)
  all_goals first | rfl | (simp_all; done) | (exfalso; simp_all; omega) | (simp_all; omega)

theorem walk (a0 : Int) (a1 : Int) (a2 : Int) (a3 : Int) (w0 : (Lit.int .i64 a0).wf = true) (w1 : (Lit.int .i64 a1).wf = true) (w2 : (Lit.int .i64 a2).wf = true) (w3 : (Lit.int .i64 a3).wf = true) (w : World) :
    Calls Try.prog 6 #[.int .i64 a0, .int .i64 a1, .int .i64 a2, .int .i64 a3] w fun e w' => e = .returned (.bool true) ∧ Below w.heap.size w w' := by
  by_cases hk : 2 ≤ a0 ∧ a0 ≤ 9
  · obtain ⟨p, q, r, n, lo, hi, e1, e2, e3, e4, e5, i5, e6, e7, e8, b1, b2, b3, b4, b5, b6⟩ := facts a0 a1 a2 a3 hk.1 hk.2 (Bv.i64_of_wf w1) (Bv.i64_of_wf w2) (Bv.i64_of_wf w3)
    refine road a0 a1 a2 a3 _ _ _ _ _ _ _ _ _ hk.1 hk.2 (Bv.i64_of_wf w1) (Bv.i64_of_wf w2) (Bv.i64_of_wf w3) (by unfold Bv.I64; omega) i5 e1 e2 e3 e4 e5 rfl e6 e7 e8 ?_ ?_ ?_ ?_ w
    · rcases (by omega : p < q ∨ q < p ∨ p = q) with h | h | h
      · rw [one_t h, one_f (by omega), one_f (by omega)]; kernel_rfl
      · rw [one_f (by omega), one_t h, one_f (by omega)]; kernel_rfl
      · rw [one_f (by omega), one_f (by omega), one_t h]; kernel_rfl
    · intro h h'
      have h : p < q := by
        by_cases hh : p < q
        · exact hh
        · rw [one_f hh] at h; omega
      have h' : q < r := by
        by_cases hh : q < r
        · exact hh
        · rw [one_f hh] at h'; omega
      exact one_t (by omega)
    · intro h
      have h : ¬ p < n := by
        intro hh
        rw [one_t hh] at h; omega
      have : p = hi := by
        by_cases hh : p < hi
        · have := b5 hh; omega
        · omega
      exact one_nf (by omega)
    · by_cases h : p < n
      · by_cases hpq : p < q
        · refine Or.inr (Or.inr (one_nf ?_))
          by_cases hh : p < hi
          · have := b5 hh; omega
          · omega
        · exact Or.inr (Or.inl (one_f hpq))
      · exact Or.inl (one_f h)
  · have hk' : a0 < 2 ∨ 9 < a0 := by omega
    clear hk
    rcases hk' with hk | hk
    all_goals
      go_enter Try.func6, Try.ntmps6
      go_wp2_with (first | (go_at_call 9; refine (alive_any _).mono ?_; rintro e w1 ⟨rfl, hB⟩))
      go_ret
      exact ⟨rfl, hB⟩

set_option maxRecDepth 100000 in
theorem lifted (os : Os) (started : os.Started) (H : Type) (enc : TypeId × Value → H) :
    ReturnsInHanded {} Try.checked os 6 .any (Rows.bvOrdersSpec.pre6 enc Try.prog Try.f6 Rows.bvOrdersRow.domain false) (Rows.bvOrdersSpec.post enc Try.prog Try.f6 false true false false) := by
  refine returnsInHanded_of_change (C := Try.checked) own started (by kernel_rfl) Try.func6
    (ChangeSpec.witness6 (enc := enc) (C := Try.checked) false ⟨#[], #[.int .i64 0, .int .i64 0, .int .i64 0, .int .i64 0], []⟩ 8 (by kernel_rfl) (by kernel_rfl) (by kernel_rfl) (by kernel_rfl)) ?_
  intro W base args ds gs before hval0 hW hcnd _
  have hval : ∀ (j : Nat) t v, Try.f6.params[j]? = some t → args[j]? = some v → Value.okWide Try.prog W .any base t v := hval0
  have hW' := hW
  obtain ⟨p, q, hA0, hV, rfl, hfz, hnd⟩ := hW
  have hA : DataW.TrodAll enc Try.prog W 0 (fun _ => true) true Try.f6.params.toList args.toList ds p := hA0
  rw [Try.params6] at hA hval
  obtain ⟨v0, vs0, d0, ds0, p0, q0, hargs, rfl, rfl, h0, r0⟩ := trodAll_cons hA
  obtain ⟨v1, vs1, d1, ds1, p1, q1, rfl, rfl, rfl, h1, r1⟩ := trodAll_cons r0
  obtain ⟨v2, vs2, d2, ds2, p2, q2, rfl, rfl, rfl, h2, r2⟩ := trodAll_cons r1
  obtain ⟨v3, vs3, d3, ds3, p3, q3, rfl, rfl, rfl, h3, r3⟩ := trodAll_cons r2
  obtain ⟨rfl, rfl, rfl⟩ := trodAll_nil r3
  obtain rfl : args = #[v0, v1, v2, v3] := by cases args; simp_all
  obtain ⟨rfl, rfl⟩ := trodVars_none hV
  obtain ⟨a0, rfl, rfl, rfl, w0⟩ := open_int Try.underlying3 (hval 0 3 v0 rfl rfl) h0
  obtain ⟨a1, rfl, rfl, rfl, w1⟩ := open_int Try.underlying3 (hval 1 3 v1 rfl rfl) h1
  obtain ⟨a2, rfl, rfl, rfl, w2⟩ := open_int Try.underlying3 (hval 2 3 v2 rfl rfl) h2
  obtain ⟨a3, rfl, rfl, rfl, w3⟩ := open_int Try.underlying3 (hval 3 3 v3 rfl rfl) h3
  clear hA0 hval0
  simp only [List.append_nil] at hW'
  refine (walk a0 a1 a2 a3 w0 w1 w2 w3 W).mono fun e W' ⟨he, hg⟩ => ?_
  subst he
  exact ⟨_, rfl, _, _, _, [], [], [], hW', trodAll_mk1 (shut_bool Try.underlying4 _), (trodAll_cons_mk (shut_int Try.underlying3 w0) (trodAll_cons_mk (shut_int Try.underlying3 w1) (trodAll_cons_mk (shut_int Try.underlying3 w2) (trodAll_cons_mk (shut_int Try.underlying3 w3) trodAll_mk0)))), rfl, hg.frame _, fun h => by cases h⟩

theorem over : Rows.bvOrdersRow.holds Try.pinned (OpenSpec.ofChange Rows.bvOrdersSpec) :=
  OpenClaim.holds_of_wide 6 Try.f6 rfl rfl rfl rfl rfl rfl rfl ⟨rfl, rfl, rfl, rfl, rfl⟩ rfl rfl rfl rfl rfl (by kernel_rfl) Try.func6 (by kernel_rfl)
    (of_decide_eq_true (by kernel_rfl)) (by unfold Func.isWrapper; first | (rw [if_pos (by decide +kernel)]; kernel_rfl) | (rw [if_neg (by decide +kernel)]; exact ⟨rfl, rfl⟩))
    (fun os started H enc _ => lifted os started H enc)

theorem proved : Rows.BvOrdersSaid :=
  over
end Go.Proofs.Ytjlphploknhcfab.bvOrders
namespace Go.Proofs.Ytjlphploknhcfab
theorem bvOrders_holds : Rows.BvOrdersSaid := bvOrders.proved
#print axioms bvOrders_holds
end Go.Proofs.Ytjlphploknhcfab
