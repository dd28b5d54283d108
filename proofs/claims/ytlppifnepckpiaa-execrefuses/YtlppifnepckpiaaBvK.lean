/- Plain laws of wrapped values (no program in sight): wrapping again changes nothing; a wrapped number is a value of its kind; what Bin tells of values. -/
import Derived.Test.YtlppifnepckpiaaBvM
namespace Go.Proofs.Ytlppifnepckpiaa.Bv
open Go.RowKit

theorem i64_of_wf {n : Int} (h : (Lit.int .i64 n).wf = true) : I64 n := by
  simp only [Lit.wf, IntKind.min, IntKind.max, IntKind.signed, IntKind.bits, Bool.and_eq_true, decide_eq_true_eq, if_true] at h
  unfold I64
  omega

theorem kinds (k : Int) (h1 : 1 ≤ k) (h2 : k ≤ 9) : k = 1 ∨ k = 2 ∨ k = 3 ∨ k = 4 ∨ k = 5 ∨ k = 6 ∨ k = 7 ∨ k = 8 ∨ k = 9 := by omega

theorem wrp_none (k n : Int) (h : ¬ (1 ≤ k ∧ k ≤ 9)) : wrp k n = 0 := by
  unfold wrp
  repeat (rw [if_neg (by omega)])

theorem wrp1 (n : Int) : wrp 1 n = n % 2 := by simp [wrp]
theorem wrp2 (n : Int) : wrp 2 n = (n + 128) % 256 - 128 := by simp [wrp]
theorem wrp3 (n : Int) : wrp 3 n = (n + 32768) % 65536 - 32768 := by simp [wrp]
theorem wrp4 (n : Int) : wrp 4 n = (n + 2147483648) % 4294967296 - 2147483648 := by simp [wrp]
theorem wrp5 (n : Int) : wrp 5 n = n := by simp [wrp]
theorem wrp6 (n : Int) : wrp 6 n = n % 256 := by simp [wrp]
theorem wrp7 (n : Int) : wrp 7 n = n % 65536 := by simp [wrp]
theorem wrp8 (n : Int) : wrp 8 n = n % 4294967296 := by simp [wrp]
theorem wrp9 (n : Int) : wrp 9 n = n := by simp [wrp]

theorem wrp_idem (k n : Int) : wrp k (wrp k n) = wrp k n := by
  by_cases h : 1 ≤ k ∧ k ≤ 9
  · rcases kinds k h.1 h.2 with rfl | rfl | rfl | rfl | rfl | rfl | rfl | rfl | rfl
    all_goals simp only [wrp1, wrp2, wrp3, wrp4, wrp5, wrp6, wrp7, wrp8, wrp9]
    all_goals omega
  · rw [wrp_none k _ h, wrp_none k _ h]

theorem wrp_i64 (k n : Int) (h : I64 n) : I64 (wrp k n) := by
  unfold I64 at *
  by_cases hk : 1 ≤ k ∧ k ≤ 9
  · rcases kinds k hk.1 hk.2 with rfl | rfl | rfl | rfl | rfl | rfl | rfl | rfl | rfl
    all_goals simp only [wrp1, wrp2, wrp3, wrp4, wrp5, wrp6, wrp7, wrp8, wrp9]
    all_goals omega
  · rw [wrp_none k _ hk]; omega

theorem isv_wrp (k n : Int) : isv k (wrp k n) = decide (1 ≤ k ∧ k ≤ 9) := by
  unfold isv
  rw [wrp_idem, wid_pos]
  simp

theorem wid_pos' {k : Int} (h : 1 ≤ k ∧ k ≤ 9) : 0 < wid k := by
  have := wid_pos k
  simp only [h, decide_true, and_self] at this
  simpa using this

theorem wid_pos_iff (k : Int) : 0 < wid k ↔ 1 ≤ k ∧ k ≤ 9 := by
  exact decide_eq_decide.1 (wid_pos k)

theorem allv_wrp2 (k a b : Int) : allv k [wrp k a, wrp k b] = decide (1 ≤ k ∧ k ≤ 9) := by
  simp [allv, isv_wrp]
theorem allv_wrp1 (k a : Int) : allv k [wrp k a] = decide (1 ≤ k ∧ k ≤ 9) := by
  simp [allv, isv_wrp]

/-- whether Bin knows an operation hangs on the operation and the kind alone, once both are wrapped -/
theorem binB_wrp (op k a b : Int) : binB op k (wrp k a) (wrp k b) = (tks (ofB op) k && decide (1 ≤ k ∧ k ≤ 9)) := by
  unfold binB
  rw [allv_wrp2]

theorem toK_pos {op k : Int} (h : 1 ≤ k ∧ k ≤ 9) : 1 ≤ toK op k ∧ toK op k ≤ 9 := by
  unfold toK
  split <;> omega

theorem isv_bin {op k a b : Int} (h : binB op k a b = true) : isv (binK op k a b) (binN op k a b) = true := by
  have hk : 1 ≤ k ∧ k ≤ 9 := by
    have h' := h
    unfold binB allv isv at h'
    simp only [List.all_cons, Bool.and_eq_true, decide_eq_true_eq] at h'
    exact (wid_pos_iff k).1 h'.2.1.1
  have e1 : binK op k a b = toK op k := by simp [binK, h]
  have e2 : binN op k a b = wrp (toK op k) (vop op k a b) := by simp [binN, h]
  rw [e1, e2, isv_wrp]
  simpa using toK_pos (op := op) hk
end Go.Proofs.Ytlppifnepckpiaa.Bv
