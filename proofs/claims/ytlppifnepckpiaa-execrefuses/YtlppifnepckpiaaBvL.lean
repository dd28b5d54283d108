/- Plain laws of sums, products and quotients of wrapped values (no program in sight). -/
import Derived.Test.YtlppifnepckpiaaBvK
namespace Go.Proofs.Ytlppifnepckpiaa.Bv
open Go.RowKit

/-- the value of the kind that is congruent to x: of all numbers, also those of more than 64 bits -/
def W (k x : Int) : Int := wrp k (wrap64 x)

/-- 2 to the width of the kind -/
def M (k : Int) : Int := if k = 1 then 2 else if k = 2 ∨ k = 6 then 256 else if k = 3 ∨ k = 7 then 65536 else if k = 4 ∨ k = 8 then 4294967296 else 18446744073709551616

theorem W_cong (k x : Int) (h1 : 1 ≤ k) (h2 : k ≤ 9) : ∃ t, W k x = x + t * M k := by
  have h : M k ∣ W k x - x := by
    rcases kinds k h1 h2 with rfl | rfl | rfl | rfl | rfl | rfl | rfl | rfl | rfl
    all_goals simp only [W, wrp1, wrp2, wrp3, wrp4, wrp5, wrp6, wrp7, wrp8, wrp9, M, wrap64]
    all_goals simp
    all_goals omega
  obtain ⟨t, ht⟩ := h
  exact ⟨t, by rw [Int.mul_comm]; omega⟩

theorem W_add_mul (k x t : Int) (h1 : 1 ≤ k) (h2 : k ≤ 9) : W k (x + t * M k) = W k x := by
  rcases kinds k h1 h2 with rfl | rfl | rfl | rfl | rfl | rfl | rfl | rfl | rfl
  all_goals simp only [W, wrp1, wrp2, wrp3, wrp4, wrp5, wrp6, wrp7, wrp8, wrp9, M, wrap64]
  all_goals simp
  all_goals omega

theorem W_of {k x y t : Int} (h1 : 1 ≤ k) (h2 : k ≤ 9) (h : x = y + t * M k) : W k x = W k y := by
  rw [h, W_add_mul k y t h1 h2]

theorem W_add_left (k x y : Int) (h1 : 1 ≤ k) (h2 : k ≤ 9) : W k (W k x + y) = W k (x + y) := by
  obtain ⟨t, ht⟩ := W_cong k x h1 h2
  refine W_of (t := t) h1 h2 ?_
  rw [ht]; omega
theorem W_add_right (k x y : Int) (h1 : 1 ≤ k) (h2 : k ≤ 9) : W k (x + W k y) = W k (x + y) := by
  rw [Int.add_comm, W_add_left k y x h1 h2, Int.add_comm]
theorem W_sub_left (k x y : Int) (h1 : 1 ≤ k) (h2 : k ≤ 9) : W k (W k x - y) = W k (x - y) := by
  obtain ⟨t, ht⟩ := W_cong k x h1 h2
  refine W_of (t := t) h1 h2 ?_
  rw [ht]; omega
theorem W_mul_left (k x y : Int) (h1 : 1 ≤ k) (h2 : k ≤ 9) : W k (W k x * y) = W k (x * y) := by
  obtain ⟨t, ht⟩ := W_cong k x h1 h2
  refine W_of (t := t * y) h1 h2 ?_
  rw [ht, Int.add_mul, Int.mul_assoc, Int.mul_comm (M k) y, ← Int.mul_assoc]
theorem W_mul_right (k x y : Int) (h1 : 1 ≤ k) (h2 : k ≤ 9) : W k (x * W k y) = W k (x * y) := by
  rw [Int.mul_comm, W_mul_left k y x h1 h2, Int.mul_comm]
theorem W_neg (k x : Int) (h1 : 1 ≤ k) (h2 : k ≤ 9) : W k (-(W k x)) = W k (-x) := by
  obtain ⟨t, ht⟩ := W_cong k x h1 h2
  refine W_of (t := -t) h1 h2 ?_
  rw [ht, Int.neg_mul]; omega

theorem wrap64_i64 (x : Int) (h : I64 x) : wrap64 x = x := by unfold I64 at h; unfold wrap64; omega
theorem i64_wrap64 (x : Int) : I64 (wrap64 x) := by unfold I64 wrap64; omega

/-- a value of the kind: wrapped, and of 64 bits -/
def Val (k a : Int) : Prop := wrp k a = a ∧ I64 a

theorem val_wrp (k n : Int) (h : I64 n) : Val k (wrp k n) := ⟨wrp_idem k n, wrp_i64 k n h⟩
theorem W_val {k a : Int} (h : Val k a) : W k a = a := by unfold W; rw [wrap64_i64 a h.2, h.1]
theorem val_W (k x : Int) : Val k (W k x) := val_wrp k _ (i64_wrap64 x)
theorem W_wrp (k n : Int) (h : I64 n) : W k n = wrp k n := by unfold W; rw [wrap64_i64 n h]

theorem isv_val {k a : Int} (h1 : 1 ≤ k) (h2 : k ≤ 9) (h : Val k a) : isv k a = true := by
  unfold isv
  rw [wid_pos, h.1]
  simp [h1, h2]

theorem tks_num (o k : Int) (ho : o = 2 ∨ o = 3) (h1 : 2 ≤ k) (h2 : k ≤ 9) : tks o k = true := by
  have hw : 0 < wid k := wid_pos' ⟨by omega, h2⟩
  have hk : (k != 1) = true := by rw [bne_iff_ne]; omega
  unfold tks
  rcases ho with rfl | rfl
  · simp [hk, hw]
  · simp [hw]

theorem ofB_num (op : Int) (h1 : 3 ≤ op) (h2 : op ≤ 19) (h3 : op ≠ 11) : ofB op = 2 ∨ ofB op = 3 := by
  unfold ofB
  rw [if_neg h3]
  split
  · exact Or.inr rfl
  · rw [if_pos ⟨h1, h2⟩]; exact Or.inl rfl

/-- what Bin tells of two values of a kind of numbers -/
theorem bin_num (op k a b : Int) (h1 : 2 ≤ k) (h2 : k ≤ 9) (o1 : 3 ≤ op) (o2 : op ≤ 19) (o3 : op ≠ 11) (ha : Val k a) (hb : Val k b) :
    binB op k a b = true ∧ binK op k a b = toK op k ∧ binN op k a b = wrp (toK op k) (vop op k a b) := by
  have e : binB op k a b = true := by
    unfold binB allv
    rw [tks_num _ _ (ofB_num op o1 o2 o3) h1 h2]
    simp [isv_val (by omega) h2 ha, isv_val (by omega) h2 hb]
  exact ⟨e, by simp [binK, e], by simp [binN, e]⟩

theorem vop3 (k a b : Int) : vop 3 k a b = wrap64 (a + b) := by simp [vop]
theorem vop4 (k a b : Int) : vop 4 k a b = wrap64 (a - b) := by simp [vop]
theorem vop5 (k a b : Int) : vop 5 k a b = wrap64 (a * b) := by simp [vop]
theorem vop6 (k a b : Int) : vop 6 k a b = vdiv k a b := by simp [vop]
theorem vop7 (k a b : Int) : vop 7 k a b = vmod k a b := by simp [vop]
theorem vop8 (k a b : Int) : vop 8 k a b = bits .and .i64 a b := by simp [vop]
theorem vop9 (k a b : Int) : vop 9 k a b = bits .or .i64 a b := by simp [vop]
theorem vop10 (k a b : Int) : vop 10 k a b = bits .xor .i64 a b := by simp [vop]
theorem vop12 (k a b : Int) : vop 12 k a b = vshl a b := by simp [vop]
theorem vop13 (k a b : Int) : vop 13 k a b = vshr k a b := by simp [vop]
theorem vop14 (k a b : Int) : vop 14 k a b = one (a == b) := by simp [vop]
theorem vop15 (k a b : Int) : vop 15 k a b = one (a != b) := by simp [vop]
theorem vop16 (k a b : Int) : vop 16 k a b = one (lss k a b) := by simp [vop]
theorem vop17 (k a b : Int) : vop 17 k a b = one (!lss k b a) := by simp [vop]
theorem vop18 (k a b : Int) : vop 18 k a b = one (lss k b a) := by simp [vop]
theorem vop19 (k a b : Int) : vop 19 k a b = one (!lss k a b) := by simp [vop]

theorem toK_small (op k : Int) (h : op < 14) : toK op k = k := by
  have : ¬ 14 ≤ op := by omega
  simp [toK, tsB, this]
theorem toK_test (op k : Int) (h : 14 ≤ op) : toK op k = 1 := by simp [toK, tsB, h]
theorem wrp_one (t : Bool) : wrp 1 (one t) = one t := by cases t <;> rfl

theorem nAdd {k a b : Int} (h1 : 2 ≤ k) (h2 : k ≤ 9) (ha : Val k a) (hb : Val k b) : binN 3 k a b = W k (a + b) := by
  rw [(bin_num 3 k a b h1 h2 (by omega) (by omega) (by omega) ha hb).2.2, toK_small _ _ (by omega), vop3]; rfl
theorem nSub {k a b : Int} (h1 : 2 ≤ k) (h2 : k ≤ 9) (ha : Val k a) (hb : Val k b) : binN 4 k a b = W k (a - b) := by
  rw [(bin_num 4 k a b h1 h2 (by omega) (by omega) (by omega) ha hb).2.2, toK_small _ _ (by omega), vop4]; rfl
theorem nMul {k a b : Int} (h1 : 2 ≤ k) (h2 : k ≤ 9) (ha : Val k a) (hb : Val k b) : binN 5 k a b = W k (a * b) := by
  rw [(bin_num 5 k a b h1 h2 (by omega) (by omega) (by omega) ha hb).2.2, toK_small _ _ (by omega), vop5]; rfl
theorem nDiv {k a b : Int} (h1 : 2 ≤ k) (h2 : k ≤ 9) (ha : Val k a) (hb : Val k b) : binN 6 k a b = wrp k (vdiv k a b) := by
  rw [(bin_num 6 k a b h1 h2 (by omega) (by omega) (by omega) ha hb).2.2, toK_small _ _ (by omega), vop6]
theorem nMod {k a b : Int} (h1 : 2 ≤ k) (h2 : k ≤ 9) (ha : Val k a) (hb : Val k b) : binN 7 k a b = wrp k (vmod k a b) := by
  rw [(bin_num 7 k a b h1 h2 (by omega) (by omega) (by omega) ha hb).2.2, toK_small _ _ (by omega), vop7]
theorem nEq {k a b : Int} (h1 : 2 ≤ k) (h2 : k ≤ 9) (ha : Val k a) (hb : Val k b) : binN 14 k a b = one (a == b) := by
  rw [(bin_num 14 k a b h1 h2 (by omega) (by omega) (by omega) ha hb).2.2, toK_test _ _ (by omega), vop14, wrp_one]
theorem nNe {k a b : Int} (h1 : 2 ≤ k) (h2 : k ≤ 9) (ha : Val k a) (hb : Val k b) : binN 15 k a b = one (a != b) := by
  rw [(bin_num 15 k a b h1 h2 (by omega) (by omega) (by omega) ha hb).2.2, toK_test _ _ (by omega), vop15, wrp_one]
theorem nLt {k a b : Int} (h1 : 2 ≤ k) (h2 : k ≤ 9) (ha : Val k a) (hb : Val k b) : binN 16 k a b = one (lss k a b) := by
  rw [(bin_num 16 k a b h1 h2 (by omega) (by omega) (by omega) ha hb).2.2, toK_test _ _ (by omega), vop16, wrp_one]
theorem nLe {k a b : Int} (h1 : 2 ≤ k) (h2 : k ≤ 9) (ha : Val k a) (hb : Val k b) : binN 17 k a b = one (!lss k b a) := by
  rw [(bin_num 17 k a b h1 h2 (by omega) (by omega) (by omega) ha hb).2.2, toK_test _ _ (by omega), vop17, wrp_one]
theorem nGt {k a b : Int} (h1 : 2 ≤ k) (h2 : k ≤ 9) (ha : Val k a) (hb : Val k b) : binN 18 k a b = one (lss k b a) := by
  rw [(bin_num 18 k a b h1 h2 (by omega) (by omega) (by omega) ha hb).2.2, toK_test _ _ (by omega), vop18, wrp_one]
theorem nGe {k a b : Int} (h1 : 2 ≤ k) (h2 : k ≤ 9) (ha : Val k a) (hb : Val k b) : binN 19 k a b = one (!lss k a b) := by
  rw [(bin_num 19 k a b h1 h2 (by omega) (by omega) (by omega) ha hb).2.2, toK_test _ _ (by omega), vop19, wrp_one]
theorem nOk {k a b : Int} (h1 : 2 ≤ k) (h2 : k ≤ 9) (ha : Val k a) (hb : Val k b) (op : Int) (o1 : 3 ≤ op) (o2 : op ≤ 19) (o3 : op ≠ 11) : binB op k a b = true := (bin_num op k a b h1 h2 o1 o2 o3 ha hb).1
end Go.Proofs.Ytlppifnepckpiaa.Bv
