/- Plain laws of the signs, the order and the casts of values of a kind (no program in sight). -/
import Derived.Test.YtlppifnepckpiaaBvD
namespace Go.Proofs.Ytlppifnepckpiaa.Bv
open Go.RowKit

theorem ofU_two (k : Int) (h1 : 2 ≤ k) (h2 : k ≤ 9) : tks (ofU 2) k = true := tks_num 2 k (Or.inl rfl) h1 h2
theorem tks3 (k : Int) (h1 : 1 ≤ k) (h2 : k ≤ 9) : tks 3 k = true := by
  have hw : 0 < wid k := wid_pos' ⟨h1, h2⟩
  simp [tks, hw]
theorem unB2 {k a : Int} (h1 : 2 ≤ k) (h2 : k ≤ 9) (ha : Val k a) : unB 2 k a = true := by
  unfold unB allv
  rw [ofU_two k h1 h2]
  simp [isv_val (by omega) h2 ha]
theorem unN2 {k a : Int} (h1 : 2 ≤ k) (h2 : k ≤ 9) (ha : Val k a) : unN 2 k a = W k (-a) := by
  unfold unN
  rw [unB2 h1 h2 ha]
  rfl
theorem unB1 {k a : Int} (h1 : 1 ≤ k) (h2 : k ≤ 9) (ha : Val k a) : unB 1 k a = true := by
  unfold unB allv
  have : tks (ofU 1) k = true := tks3 k h1 h2
  rw [this]
  simp [isv_val h1 h2 ha]
theorem unN1 {k a : Int} (h1 : 1 ≤ k) (h2 : k ≤ 9) (ha : Val k a) : unN 1 k a = wrp k (bits .xor .i64 (-1) a) := by
  unfold unN
  rw [unB1 h1 h2 ha]
  rfl

theorem val_zero (k : Int) (h1 : 1 ≤ k) (h2 : k ≤ 9) : Val k 0 := by
  refine ⟨?_, by unfold I64; omega⟩
  rcases kinds k h1 h2 with rfl | rfl | rfl | rfl | rfl | rfl | rfl | rfl | rfl <;> rfl
theorem val_one (k : Int) (h1 : 1 ≤ k) (h2 : k ≤ 9) : Val k 1 := by
  refine ⟨?_, by unfold I64; omega⟩
  rcases kinds k h1 h2 with rfl | rfl | rfl | rfl | rfl | rfl | rfl | rfl | rfl <;> rfl

theorem neg_neg {k a : Int} (h1 : 2 ≤ k) (h2 : k ≤ 9) (ha : Val k a) : W k (-(W k (-a))) = a := by
  rw [W_neg k _ (by omega) h2, Int.neg_neg, W_val ha]
theorem add_neg {k a : Int} (h1 : 2 ≤ k) (h2 : k ≤ 9) : W k (a + W k (-a)) = 0 := by
  rw [W_add_right k _ _ (by omega) h2, Int.add_right_neg, W_val (val_zero k (by omega) h2)]

/-- a value's place in the row of values -/
def pl (k a : Int) : Int := if 6 ≤ k then U a else a
theorem lss_pl (k a b : Int) : lss k a b = decide (pl k a < pl k b) := by
  unfold lss pl U
  split <;> rfl

/-- from which number on, and up to which, the places go; and what the next one is -/
theorem pl_next {k : Int} (h1 : 2 ≤ k) (h2 : k ≤ 9) : ∃ lo hi : Int, lo < hi ∧ (∀ a, Val k a → lo ≤ pl k a ∧ pl k a ≤ hi) ∧ (∀ a, Val k a → pl k a < hi → pl k (W k (a + 1)) = pl k a + 1) ∧ (∀ a, Val k a → pl k a = hi → pl k (W k (a + 1)) = lo) ∧
    (∀ a b, Val k a → Val k b → pl k a = pl k b → a = b) := by
  have hc : k = 2 ∨ k = 3 ∨ k = 4 ∨ k = 5 ∨ k = 6 ∨ k = 7 ∨ k = 8 ∨ k = 9 := by omega
  unfold pl Val I64 W wrap64
  simp only [U_eq]
  rcases hc with rfl | rfl | rfl | rfl | rfl | rfl | rfl | rfl
  · refine ⟨-128, 127, by omega, ?_, ?_, ?_, ?_⟩ <;> simp only [wrp2] <;> intros <;> omega
  · refine ⟨-32768, 32767, by omega, ?_, ?_, ?_, ?_⟩ <;> simp only [wrp3] <;> intros <;> omega
  · refine ⟨-2147483648, 2147483647, by omega, ?_, ?_, ?_, ?_⟩ <;> simp only [wrp4] <;> intros <;> omega
  · refine ⟨-9223372036854775808, 9223372036854775807, by omega, ?_, ?_, ?_, ?_⟩ <;> simp only [wrp5] <;> intros <;> omega
  · refine ⟨0, 255, by omega, ?_, ?_, ?_, ?_⟩ <;> simp only [wrp6] <;> intros <;> omega
  · refine ⟨0, 65535, by omega, ?_, ?_, ?_, ?_⟩ <;> simp only [wrp7] <;> intros <;> omega
  · refine ⟨0, 4294967295, by omega, ?_, ?_, ?_, ?_⟩ <;> simp only [wrp8] <;> intros <;> omega
  · refine ⟨0, 18446744073709551615, by omega, ?_, ?_, ?_, ?_⟩ <;> simp only [wrp9] <;> intros <;> omega

theorem one_true {b : Bool} (h : b = true) : one b = 1 := by rw [h]; rfl
theorem one_false {b : Bool} (h : b = false) : one b = 0 := by rw [h]; rfl

/-- of a and b one is below, or they are the same -/
theorem three_ways {k a b : Int} (h1 : 2 ≤ k) (h2 : k ≤ 9) (ha : Val k a) (hb : Val k b) : one (lss k a b) + one (lss k b a) + one (a == b) = 1 := by
  obtain ⟨lo, hi, _, _, _, _, inj⟩ := pl_next h1 h2
  rw [lss_pl, lss_pl]
  rcases (by omega : pl k a < pl k b ∨ pl k b < pl k a ∨ pl k a = pl k b) with h | h | h
  · have e : (a == b) = false := by rw [beq_eq_false_iff_ne]; intro e; rw [e] at h; omega
    have n : ¬ pl k b < pl k a := by omega
    simp [one, h, n, e]
  · have e : (a == b) = false := by rw [beq_eq_false_iff_ne]; intro e; rw [e] at h; omega
    have n : ¬ pl k a < pl k b := by omega
    simp [one, h, n, e]
  · have e := inj a b ha hb h
    subst e
    simp [one]

/-- a value that goes to a wider kind, and back, is the same -/
theorem back_wide {f t a : Int} (f1 : 2 ≤ f) (f2 : f ≤ 9) (t1 : 2 ≤ t) (t2 : t ≤ 9) (hw : wid f ≤ wid t) (h : Val f a) : wrp f (wrp t a) = a := by
  obtain ⟨h, h64⟩ := h
  unfold I64 at h64
  have hf : f = 2 ∨ f = 3 ∨ f = 4 ∨ f = 5 ∨ f = 6 ∨ f = 7 ∨ f = 8 ∨ f = 9 := by omega
  have ht : t = 2 ∨ t = 3 ∨ t = 4 ∨ t = 5 ∨ t = 6 ∨ t = 7 ∨ t = 8 ∨ t = 9 := by omega
  rcases hf with rfl | rfl | rfl | rfl | rfl | rfl | rfl | rfl
  all_goals rcases ht with rfl | rfl | rfl | rfl | rfl | rfl | rfl | rfl
  all_goals first | (exfalso; revert hw; decide) | (simp only [wrp2, wrp3, wrp4, wrp5, wrp6, wrp7, wrp8, wrp9] at h ⊢; done) | (simp only [wrp2, wrp3, wrp4, wrp5, wrp6, wrp7, wrp8, wrp9] at h ⊢; omega)

theorem back_bool {t a : Int} (t1 : 2 ≤ t) (t2 : t ≤ 9) (h : Val 1 a) : wrp 1 (one (wrp t a != 0)) = a := by
  obtain ⟨h, _⟩ := h
  rw [wrp1] at h
  have ht : t = 2 ∨ t = 3 ∨ t = 4 ∨ t = 5 ∨ t = 6 ∨ t = 7 ∨ t = 8 ∨ t = 9 := by omega
  rcases (by omega : a = 0 ∨ a = 1) with rfl | rfl
  all_goals rcases ht with rfl | rfl | rfl | rfl | rfl | rfl | rfl | rfl
  all_goals rfl

/-- Cast there and back -/
theorem cast_back {f t a : Int} (i : I64 a) (o1 : casB f t (wrp f a) = true) (o2 : casB t f (casN f t (wrp f a)) = true) (hw : wid f ≤ wid t) (ht : ¬ t = 1) : casN t f (casN f t (wrp f a)) = wrp f a := by
  have hf : 1 ≤ f ∧ f ≤ 9 := by
    have := o2
    unfold casB at this
    simp only [Bool.and_eq_true, decide_eq_true_eq] at this
    exact (wid_pos_iff f).1 this.1
  have htt : 1 ≤ t ∧ t ≤ 9 := by
    have := o1
    unfold casB at this
    simp only [Bool.and_eq_true, decide_eq_true_eq] at this
    exact (wid_pos_iff t).1 this.1
  have hv := val_wrp f a i
  generalize wrp f a = A at *
  have e1 : casN f t A = wrp t A := by unfold casN; rw [o1]; simp [ht]
  rw [e1] at o2 ⊢
  unfold casN
  rw [o2]
  by_cases h1 : f = 1
  · subst h1
    exact back_bool (by omega) htt.2 hv
  · simp only [h1, if_false, if_true]
    exact back_wide (by omega) hf.2 (by omega) htt.2 hw hv
end Go.Proofs.Ytlppifnepckpiaa.Bv
