/- Plain laws of the shifts of values of a kind (no program in sight). -/
import Derived.Test.YtjlphploknhcfaaBvE
namespace Go.Proofs.Ytjlphploknhcfaa.Bv
open Go.RowKit

theorem M_pow (k : Int) : M k = ((2 ^ wn k : Nat) : Int) := by
  unfold M wn
  repeat' split
  all_goals rfl

theorem wn_wid {k : Int} (h1 : 1 ≤ k) (h2 : k ≤ 9) : wid k = (wn k : Int) := by
  rcases kinds k h1 h2 with rfl | rfl | rfl | rfl | rfl | rfl | rfl | rfl | rfl <;> rfl

theorem pow_int (n : Nat) : (2 : Int) ^ n = ((2 ^ n : Nat) : Int) := by simp

/-- what is moved up by the width or more is nought -/
theorem W_far {k : Int} (h1 : 1 ≤ k) (h2 : k ≤ 9) (a : Int) (n : Nat) (h : wn k ≤ n) : W k (a * 2 ^ n) = 0 := by
  have e : a * 2 ^ n = 0 + (a * 2 ^ (n - wn k)) * M k := by
    rw [M_pow, ← pow_int, Int.mul_assoc, ← Int.pow_add, Nat.sub_add_cancel h, Int.zero_add]
  rw [W_of h1 h2 e, W_val (val_zero k h1 h2)]

theorem nShl {k a b : Int} (h1 : 2 ≤ k) (h2 : k ≤ 9) (ha : Val k a) (hb : Val k b) : binN 12 k a b = wrp k (vshl a b) := by
  rw [(bin_num 12 k a b h1 h2 (by omega) (by omega) (by omega) ha hb).2.2, toK_small _ _ (by omega), vop12]
theorem nShr {k a b : Int} (h1 : 2 ≤ k) (h2 : k ≤ 9) (ha : Val k a) (hb : Val k b) : binN 13 k a b = wrp k (vshr k a b) := by
  rw [(bin_num 13 k a b h1 h2 (by omega) (by omega) (by omega) ha hb).2.2, toK_small _ _ (by omega), vop13]

theorem i64_wrap (x : Int) : IntKind.i64.wrap x = wrap64 x := by rw [IntKind.wrap_i64]; rfl

/-- the places that a small number tells -/
theorem places (n : Nat) (h : n ≤ 70) : min (IntKind.u64.wrap (n : Int)).toNat 64 = min n 64 := by
  rw [wrap_u64]
  have : ((n : Int) % 18446744073709551616).toNat = n := by omega
  rw [this]

/-- a moved down by i places -/
def sh (k a : Int) (i : Nat) : Int := if 6 ≤ k then W k (U a / ((2 ^ i : Nat) : Int)) else a / ((2 ^ i : Nat) : Int)

theorem val_small {k : Int} (h1 : 2 ≤ k) (h2 : k ≤ 9) (n : Nat) (h : n ≤ 70) : Val k n := by
  refine ⟨?_, by unfold I64; omega⟩
  rcases kinds k (by omega) h2 with rfl | rfl | rfl | rfl | rfl | rfl | rfl | rfl | rfl
  · omega
  · rw [wrp2]; omega
  · rw [wrp3]; omega
  · rw [wrp4]; omega
  · rw [wrp5]
  · rw [wrp6]; omega
  · rw [wrp7]; omega
  · rw [wrp8]; omega
  · rw [wrp9]

theorem div_pow_le (x : Int) (i : Nat) (m : Int) (hx : -m ≤ x) (hy : x < m) (hm : 0 < m) : -m ≤ x / ((2 ^ i : Nat) : Int) ∧ x / ((2 ^ i : Nat) : Int) < m := by
  have hp : 0 < 2 ^ i := Nat.two_pow_pos i
  generalize 2 ^ i = p at *
  have hp' : (0 : Int) < p := by omega
  constructor
  · rw [Int.le_ediv_iff_mul_le hp']
    have : m * 1 ≤ m * (p : Int) := Int.mul_le_mul_of_nonneg_left (by omega) (by omega)
    rw [Int.neg_mul]
    omega
  · rw [Int.ediv_lt_iff_lt_mul hp']
    have : m * 1 ≤ m * (p : Int) := Int.mul_le_mul_of_nonneg_left (by omega) (by omega)
    omega

theorem div_div_pow (x : Int) (i : Nat) : x / ((2 ^ i : Nat) : Int) / 2 = x / ((2 ^ (i + 1) : Nat) : Int) := by
  have hp : 0 < 2 ^ i := Nat.two_pow_pos i
  have e : ((2 ^ (i + 1) : Nat) : Int) = ((2 ^ i : Nat) : Int) * 2 := by rw [Nat.pow_succ]; simp
  rw [e]
  generalize 2 ^ i = p at *
  exact Int.ediv_ediv_of_nonneg (by omega)

/-- of a kind with a sign what is moved down is a value -/
theorem val_sh_s {k a : Int} (h1 : 2 ≤ k) (h2 : k ≤ 5) (ha : Val k a) (i : Nat) : Val k (a / ((2 ^ i : Nat) : Int)) := by
  obtain ⟨m, hm, hM, l1, l2, _⟩ := val_lo h1 h2 ha
  have := div_pow_le a i m l1 l2 hm
  exact val_of_lo h1 h2 hM this.1 this.2

theorem U_div {k a : Int} (h1 : 6 ≤ k) (h2 : k ≤ 9) (ha : Val k a) (i : Nat) : 0 ≤ U a / ((2 ^ i : Nat) : Int) ∧ U a / ((2 ^ i : Nat) : Int) < M k := by
  obtain ⟨a1, a2, _, _⟩ := val_u h1 h2 ha
  have hp : 0 < 2 ^ i := Nat.two_pow_pos i
  generalize 2 ^ i = p at *
  have := Int.ediv_le_self (p : Int) a1
  exact ⟨Int.ediv_nonneg a1 (by omega), by omega⟩

theorem val_sh {k a : Int} (h1 : 2 ≤ k) (h2 : k ≤ 9) (ha : Val k a) (i : Nat) : Val k (sh k a i) := by
  unfold sh
  split
  · exact val_W k _
  · exact val_sh_s h1 (by omega) ha i

theorem sh_zero {k a : Int} (h2 : k ≤ 9) (ha : Val k a) : sh k a 0 = a := by
  unfold sh
  split
  · have : U a / ((2 ^ 0 : Nat) : Int) = U a := by simp
    rw [this]
    exact (val_u (by omega) h2 ha).2.2.1
  · simp

/-- one place more -/
theorem sh_step {k a : Int} (h1 : 2 ≤ k) (h2 : k ≤ 9) (ha : Val k a) (i : Nat) : binN 13 k (sh k a i) 1 = sh k a (i + 1) := by
  have v1 := val_one k (by omega) h2
  have vs := val_sh h1 h2 ha i
  rw [nShr h1 h2 vs v1]
  have hp : min (IntKind.u64.wrap (1 : Int)).toNat 64 = 1 := places 1 (by omega)
  unfold vshr
  rw [hp]
  by_cases h6 : 6 ≤ k
  · rw [if_pos h6, i64_wrap]
    have hd := U_div h6 h2 ha i
    have e : sh k a i = W k (U a / ((2 ^ i : Nat) : Int)) := by unfold sh; rw [if_pos h6]
    have e2 : sh k a (i + 1) = W k (U a / ((2 ^ (i + 1) : Nat) : Int)) := by unfold sh; rw [if_pos h6]
    rw [e2, ← div_div_pow]
    show W k (U (sh k a i) / 2 ^ 1) = _
    rw [e, U_W h6 h2 hd.1 hd.2]
    rfl
  · rw [if_neg h6]
    have e : sh k a i = a / ((2 ^ i : Nat) : Int) := by unfold sh; rw [if_neg h6]
    have e2 : sh k a (i + 1) = a / ((2 ^ (i + 1) : Nat) : Int) := by unfold sh; rw [if_neg h6]
    have v2 := val_sh_s h1 (by omega) ha (i + 1)
    rw [e2, e, ← div_div_pow]
    rw [← div_div_pow] at v2
    exact v2.1

theorem dbl_step {k : Int} (h1 : 2 ≤ k) (h2 : k ≤ 9) (a : Int) (i : Nat) : binN 3 k (W k (a * 2 ^ i)) (W k (a * 2 ^ i)) = W k (a * 2 ^ (i + 1)) := by
  have v := val_W k (a * 2 ^ i)
  rw [nAdd h1 h2 v v, W_add_left k _ _ (by omega) h2, W_add_right k _ _ (by omega) h2]
  congr 1
  rw [Int.pow_succ, ← Int.mul_assoc]
  omega

theorem small_div {x p : Int} (h1 : 0 ≤ x) (h2 : x < p) : x / p = 0 := Int.ediv_eq_zero_of_lt h1 h2
theorem small_div_neg {x p : Int} (h1 : -p ≤ x) (h2 : x < 0) : x / p = -1 := by
  have hp : 0 < p := by omega
  have e : x = (x + p) + p * (-1) := by omega
  rw [e, Int.add_mul_ediv_left _ _ (by omega), Int.ediv_eq_zero_of_lt (by omega) (by omega)]
  rfl

/-- moved up by n places -/
theorem shl_n {k a : Int} (h1 : 2 ≤ k) (h2 : k ≤ 9) (ha : Val k a) (n : Nat) (hn : n ≤ 70) : binN 12 k a n = W k (a * 2 ^ n) := by
  rw [nShl h1 h2 ha (val_small h1 h2 n hn)]
  unfold vshl
  rw [places n hn, i64_wrap]
  show W k _ = _
  by_cases h : n ≤ 64
  · rw [Nat.min_eq_left h]
  · rw [Nat.min_eq_right (by omega), W_far (by omega) h2 a 64 (wn_le k), W_far (by omega) h2 a n (by have := wn_le k; omega)]

theorem pow_lt_pow {i n : Nat} (h : i ≤ n) : 2 ^ i ≤ 2 ^ n := Nat.pow_le_pow_right (by decide) h

/-- moved down by n places -/
theorem shr_n {k a : Int} (h1 : 2 ≤ k) (h2 : k ≤ 9) (ha : Val k a) (n : Nat) (hn : n ≤ 70) : binN 13 k a n = sh k a n := by
  rw [nShr h1 h2 ha (val_small h1 h2 n hn)]
  unfold vshr sh
  rw [places n hn]
  have hp : (2 : Int) ^ min n 64 = ((2 ^ min n 64 : Nat) : Int) := pow_int _
  rw [hp]
  by_cases h6 : 6 ≤ k
  · rw [if_pos h6, if_pos h6, i64_wrap]
    show W k (U a / _) = _
    by_cases h : n ≤ 64
    · rw [Nat.min_eq_left h]
    · obtain ⟨a1, a2, _, a4⟩ := val_u h6 h2 ha
      rw [Nat.min_eq_right (by omega)]
      have hq : 2 ^ 64 ≤ 2 ^ n := pow_lt_pow (by omega)
      have e64 : (2 : Nat) ^ 64 = 18446744073709551616 := by decide
      rw [small_div a1 (by rw [e64]; omega), small_div a1 (by rw [e64] at hq; generalize 2 ^ n = q at *; omega)]
  · rw [if_neg h6, if_neg h6]
    have v := val_sh_s h1 (by omega) ha (min n 64)
    rw [v.1]
    by_cases h : n ≤ 64
    · rw [Nat.min_eq_left h]
    · rw [Nat.min_eq_right (by omega)]
      have hq : 2 ^ 64 ≤ 2 ^ n := pow_lt_pow (by omega)
      have e64 : (2 : Nat) ^ 64 = 18446744073709551616 := by decide
      have i64 := ha.2
      unfold I64 at i64
      rw [e64] at hq ⊢
      generalize 2 ^ n = q at *
      by_cases hneg : a < 0
      · rw [small_div_neg (by omega) hneg, small_div_neg (by omega) hneg]
      · rw [small_div (by omega) (by omega), small_div (by omega) (by omega)]

/-- from the width on: nought, or the sign -/
theorem sh_far {k a : Int} (h1 : 2 ≤ k) (h2 : k ≤ 9) (ha : Val k a) (n : Nat) (h : wn k ≤ n) : sh k a n = if k ≤ 5 ∧ a < 0 then -1 else 0 := by
  have hq : 2 ^ wn k ≤ 2 ^ n := pow_lt_pow h
  have hM := M_pow k
  unfold sh
  by_cases h6 : 6 ≤ k
  · obtain ⟨a1, a2, _, _⟩ := val_u h6 h2 ha
    rw [if_pos h6, if_neg (by omega)]
    generalize 2 ^ n = q at *
    generalize 2 ^ wn k = p at *
    rw [small_div a1 (by omega), W_val (val_zero k (by omega) h2)]
  · obtain ⟨m, hm, hMm, l1, l2, _⟩ := val_lo h1 (by omega) ha
    rw [if_neg h6]
    generalize 2 ^ n = q at *
    generalize 2 ^ wn k = p at *
    by_cases hneg : a < 0
    · rw [if_pos ⟨by omega, hneg⟩, small_div_neg (by omega) hneg]
    · rw [if_neg (by omega), small_div (by omega) (by omega)]
end Go.Proofs.Ytjlphploknhcfaa.Bv
