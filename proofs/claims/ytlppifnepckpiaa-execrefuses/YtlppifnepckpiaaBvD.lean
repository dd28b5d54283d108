/- Plain laws of quotients and rests, and of the order, of values of a kind (no program in sight). -/
import Derived.Test.YtlppifnepckpiaaBvL
namespace Go.Proofs.Ytlppifnepckpiaa.Bv
open Go.RowKit

/-- the range of the values of a kind with a sign -/
theorem val_lo {k a : Int} (h1 : 2 ≤ k) (h2 : k ≤ 5) (h : Val k a) : ∃ m, 0 < m ∧ M k = 2 * m ∧ -m ≤ a ∧ a < m ∧ m ≤ 9223372036854775808 := by
  obtain ⟨h, h64⟩ := h
  unfold I64 at h64
  have hc : k = 2 ∨ k = 3 ∨ k = 4 ∨ k = 5 := by omega
  rcases hc with rfl | rfl | rfl | rfl
  · rw [wrp2] at h; exact ⟨128, by decide, by decide, by omega, by omega, by decide⟩
  · rw [wrp3] at h; exact ⟨32768, by decide, by decide, by omega, by omega, by decide⟩
  · rw [wrp4] at h; exact ⟨2147483648, by decide, by decide, by omega, by omega, by decide⟩
  · exact ⟨9223372036854775808, by decide, by decide, by omega, by omega, by decide⟩

theorem val_of_lo {k a m : Int} (h1 : 2 ≤ k) (h2 : k ≤ 5) (hm : M k = 2 * m) (ha : -m ≤ a) (hb : a < m) : Val k a := by
  have hc : k = 2 ∨ k = 3 ∨ k = 4 ∨ k = 5 := by omega
  unfold Val I64
  rcases hc with rfl | rfl | rfl | rfl
  · have : M 2 = 256 := by decide
    rw [wrp2]; omega
  · have : M 3 = 65536 := by decide
    rw [wrp3]; omega
  · have : M 4 = 4294967296 := by decide
    rw [wrp4]; omega
  · have : M 5 = 18446744073709551616 := by decide
    rw [wrp5]; omega

/-- a value of a kind without a sign, as a number -/
def U (a : Int) : Int := IntKind.u64.wrap a

theorem U_eq (a : Int) : U a = a % 18446744073709551616 := wrap_u64 a

/-- of a kind without a sign the number lies below 2 to the width; and is congruent to the value -/
theorem val_u {k a : Int} (h1 : 6 ≤ k) (h2 : k ≤ 9) (h : Val k a) : 0 ≤ U a ∧ U a < M k ∧ W k (U a) = a ∧ M k ≤ 18446744073709551616 := by
  obtain ⟨h, h64⟩ := h
  rw [U_eq]
  unfold I64 at h64
  have hc : k = 6 ∨ k = 7 ∨ k = 8 ∨ k = 9 := by omega
  unfold W wrap64
  rcases hc with rfl | rfl | rfl | rfl
  · have : M 6 = 256 := by decide
    rw [wrp6] at h ⊢; omega
  · have : M 7 = 65536 := by decide
    rw [wrp7] at h ⊢; omega
  · have : M 8 = 4294967296 := by decide
    rw [wrp8] at h ⊢; omega
  · have : M 9 = 18446744073709551616 := by decide
    rw [wrp9]; omega

theorem U_W {k x : Int} (h1 : 6 ≤ k) (h2 : k ≤ 9) (h3 : 0 ≤ x) (h4 : x < M k) : U (W k x) = x := by
  rw [U_eq]
  unfold W wrap64
  have hc : k = 6 ∨ k = 7 ∨ k = 8 ∨ k = 9 := by omega
  rcases hc with rfl | rfl | rfl | rfl
  · have : M 6 = 256 := by decide
    rw [wrp6]; omega
  · have : M 7 = 65536 := by decide
    rw [wrp7]; omega
  · have : M 8 = 4294967296 := by decide
    rw [wrp8]; omega
  · have : M 9 = 18446744073709551616 := by decide
    rw [wrp9]; omega

theorem U_zero {k b : Int} (h : Val k b) : U b = 0 ↔ b = 0 := by
  rw [U_eq]
  have := h.2
  unfold I64 at this
  omega

/-- quotient and rest of a kind with a sign -/
theorem div_s {k a b : Int} (h1 : 2 ≤ k) (h2 : k ≤ 5) (ha : Val k a) (hb : Val k b) (h0 : ¬ b = 0) :
    wrp k (vdiv k a b) = W k (a.tdiv b) ∧ wrp k (vmod k a b) = a.tmod b ∧ Val k (a.tmod b) ∧ (0 < b → -b < a.tmod b ∧ a.tmod b < b) ∧ (b < 0 → b < a.tmod b ∧ a.tmod b < -b) := by
  have hk : ¬ 6 ≤ k := by omega
  have e1 : vdiv k a b = wrap64 (a.tdiv b) := by simp [vdiv, h0, hk]
  have e2 : vmod k a b = a.tmod b := by simp [vmod, h0, hk]
  obtain ⟨m, hm, hM, l1, l2, l3⟩ := val_lo h1 h2 ha
  obtain ⟨m', hm', hM', l1', l2', l3'⟩ := val_lo h1 h2 hb
  have hmm : m' = m := by omega
  subst hmm
  have pos : 0 < b → -b < a.tmod b ∧ a.tmod b < b := fun h => ⟨Int.lt_tmod_of_pos a h, Int.tmod_lt_of_pos a h⟩
  have neg : b < 0 → b < a.tmod b ∧ a.tmod b < -b := fun h => by
    have p := Int.lt_tmod_of_pos a (b := -b) (by omega)
    have q := Int.tmod_lt_of_pos a (b := -b) (by omega)
    rw [Int.tmod_neg] at p q
    exact ⟨by omega, q⟩
  have hv : Val k (a.tmod b) := by
    refine val_of_lo h1 h2 hM ?_ ?_
    · rcases (by omega : 0 < b ∨ b < 0) with h | h
      · have := pos h; omega
      · have := neg h; omega
    · rcases (by omega : 0 < b ∨ b < 0) with h | h
      · have := pos h; omega
      · have := neg h; omega
  refine ⟨by rw [e1]; rfl, by rw [e2]; exact hv.1, hv, pos, neg⟩

/-- quotient and rest of a kind without a sign -/
theorem div_u {k a b : Int} (h1 : 6 ≤ k) (h2 : k ≤ 9) (ha : Val k a) (hb : Val k b) (h0 : ¬ b = 0) :
    wrp k (vdiv k a b) = W k (U a / U b) ∧ wrp k (vmod k a b) = W k (U a % U b) ∧ 0 < U b ∧ U (W k (U a % U b)) = U a % U b ∧ U a % U b < U b := by
  obtain ⟨a1, a2, a3, a4⟩ := val_u h1 h2 ha
  obtain ⟨b1, b2, b3, b4⟩ := val_u h1 h2 hb
  have hz : ¬ U b = 0 := fun h => h0 ((U_zero hb).1 h)
  have hp : 0 < U b := by omega
  have td : (U a).tdiv (U b) = U a / U b := Int.tdiv_eq_ediv_of_nonneg a1
  have tm : (U a).tmod (U b) = U a % U b := Int.tmod_eq_emod_of_nonneg a1
  have q1 : 0 ≤ U a / U b := Int.ediv_nonneg a1 b1
  have q2 : U a / U b ≤ U a := Int.ediv_le_self (U b) a1
  have r1 : 0 ≤ U a % U b := Int.emod_nonneg _ hz
  have r2 : U a % U b < U b := Int.emod_lt_of_pos _ hp
  have e1 : vdiv k a b = wrap64 (U (U a / U b)) := by
    show (if b = 0 then 0 else if 6 ≤ k then wrap64 (U ((U a).tdiv (U b))) else wrap64 (a.tdiv b)) = _
    rw [if_neg h0, if_pos h1, td]
  have e2 : vmod k a b = wrap64 (U a % U b) := by
    show (if b = 0 then 0 else if 6 ≤ k then wrap64 ((U a).tmod (U b)) else a.tmod b) = _
    rw [if_neg h0, if_pos h1, tm]
  have e3 : U (U a / U b) = U a / U b := by
    rw [U_eq (U a / U b)]
    exact Int.emod_eq_of_lt q1 (by omega)
  refine ⟨by rw [e1, e3]; rfl, by rw [e2]; rfl, hp, U_W h1 h2 r1 (by omega), r2⟩

theorem lss_s {k : Int} (h : k ≤ 5) (a b : Int) : lss k a b = decide (a < b) := by
  have : ¬ 6 ≤ k := by omega
  simp [lss, this]
theorem lss_u {k : Int} (h : 6 ≤ k) (a b : Int) : lss k a b = decide (U a < U b) := by
  unfold lss U
  rw [if_pos h]

/-- the quotient times the divisor, and the rest, is the number again -/
theorem back_s {k a b : Int} (h1 : 2 ≤ k) (h2 : k ≤ 5) (ha : Val k a) : W k (W k (W k (a.tdiv b) * b) + a.tmod b) = a := by
  rw [W_mul_left k _ b (by omega) (by omega), W_add_left k _ _ (by omega) (by omega)]
  have : a.tdiv b * b + a.tmod b = a := by rw [Int.mul_comm]; exact Int.mul_tdiv_add_tmod a b
  rw [this, W_val ha]

theorem back_u {k a b : Int} (h1 : 6 ≤ k) (h2 : k ≤ 9) (ha : Val k a) (hb : Val k b) : W k (W k (W k (U a / U b) * b) + W k (U a % U b)) = a := by
  obtain ⟨_, _, a3, _⟩ := val_u h1 h2 ha
  obtain ⟨_, _, b3, _⟩ := val_u h1 h2 hb
  have e : W k (W k (U a / U b) * b) = W k (U a / U b * U b) := by
    rw [W_mul_left k _ b (by omega) (by omega)]
    generalize U a / U b = q
    generalize U b = u at b3
    rw [← b3, W_mul_right k _ _ (by omega) (by omega)]
  rw [e, W_add_left k _ _ (by omega) (by omega), W_add_right k _ _ (by omega) (by omega)]
  have : U a / U b * U b + U a % U b = U a := by rw [Int.mul_comm]; exact Int.mul_ediv_add_emod (U a) (U b)
  rw [this, a3]

theorem val_binN {op k a b : Int} (h1 : 2 ≤ k) (h2 : k ≤ 9) (o1 : 3 ≤ op) (o2 : op ≤ 7) (ha : Val k a) (hb : Val k b) : Val k (binN op k a b) := by
  rw [(bin_num op k a b h1 h2 o1 (by omega) (by omega) ha hb).2.2, toK_small _ _ (by omega)]
  refine val_wrp k _ ?_
  have hc : op = 3 ∨ op = 4 ∨ op = 5 ∨ op = 6 ∨ op = 7 := by omega
  rcases hc with rfl | rfl | rfl | rfl | rfl
  · rw [vop3]; exact i64_wrap64 _
  · rw [vop4]; exact i64_wrap64 _
  · rw [vop5]; exact i64_wrap64 _
  · rw [vop6]; unfold vdiv
    split
    · unfold I64; omega
    · split <;> exact i64_wrap64 _
  · rw [vop7]; unfold vmod
    split
    · unfold I64; omega
    · split
      · exact i64_wrap64 _
      · have hk5 : k ≤ 5 := by omega
        exact (div_s h1 hk5 ha hb (by assumption)).2.2.1.2

theorem div_zero (k a : Int) (h1 : 2 ≤ k) (h2 : k ≤ 9) (ha : Val k a) (hb : Val k 0) : binN 6 k a 0 = 0 ∧ binN 7 k a 0 = 0 := by
  rw [nDiv h1 h2 ha hb, nMod h1 h2 ha hb]
  have e : wrp k 0 = 0 := by
    rcases kinds k (by omega) h2 with rfl | rfl | rfl | rfl | rfl | rfl | rfl | rfl | rfl <;> rfl
  simp [vdiv, vmod, e]

theorem divides (k a b : Int) (h1 : 2 ≤ k) (h2 : k ≤ 9) (ha : Val k a) (hb : Val k b) (h0 : ¬ b = 0) :
    binN 3 k (binN 5 k (binN 6 k a b) b) (binN 7 k a b) = a ∧ (6 ≤ k → binN 16 k (binN 7 k a b) b = 1) ∧
      (k ≤ 5 → 0 < b → -b < binN 7 k a b ∧ binN 7 k a b < b) ∧ (k ≤ 5 → b < 0 → b < binN 7 k a b ∧ binN 7 k a b < -b) := by
  have vq := val_binN h1 h2 (op := 6) (by omega) (by omega) ha hb
  have vr := val_binN h1 h2 (op := 7) (by omega) (by omega) ha hb
  have vp := val_binN h1 h2 (op := 5) (by omega) (by omega) vq hb
  rw [nAdd h1 h2 vp vr, nMul h1 h2 vq hb]
  rw [nDiv h1 h2 ha hb] at vq ⊢
  rw [nMod h1 h2 ha hb] at vr ⊢
  by_cases hs : k ≤ 5
  · obtain ⟨d1, d2, d3, d4, d5⟩ := div_s h1 hs ha hb h0
    rw [d1, d2]
    exact ⟨back_s h1 hs ha, fun h => absurd h (by omega), fun _ h => d4 h, fun _ h => d5 h⟩
  · obtain ⟨d1, d2, d3, d4, d5⟩ := div_u (by omega) h2 ha hb h0
    rw [d1, d2]
    refine ⟨back_u (by omega) h2 ha hb, fun h => ?_, fun h => absurd h hs, fun h => absurd h hs⟩
    rw [d2] at vr
    rw [nLt h1 h2 vr hb, lss_u h, d4]
    simp [d5, one]
end Go.Proofs.Ytlppifnepckpiaa.Bv
