/- Plain laws of the shifts by bits (no program in sight): the bits that are moved are what the shifts tell. -/
import Derived.Test.YtjlphploknhcfaaBvH
import Derived.Test.YtjlphploknhcfaaBvG
namespace Go.Proofs.Ytjlphploknhcfaa.Bv
open Go.RowKit

/-- the bits of a that are moved by B places, up (op 12) or down (op 13) -/
def mvf (op : Int) (m : Nat) (a : Int) (fill : Bool) (B : Nat) : Nat → Bool := fun i =>
  if B < m then (if op = 13 then (if i + B < m then bt a (i + B) else fill) else (if B ≤ i then bt a (i - B) else fill)) else fill

/-- by how many places: the width's bits and all 64 bits tell the same, but for those from the width on -/
theorem places_low {k b : Int} (h1 : 2 ≤ k) (h2 : k ≤ 9) (hb : Val k b) : (low (wn k) b < wn k → low 64 b = low (wn k) b) ∧ (wn k ≤ low (wn k) b → wn k ≤ low 64 b) := by
  obtain ⟨hb, ib⟩ := hb
  unfold I64 at ib
  unfold low
  rcases kinds k (by omega) h2 with rfl | rfl | rfl | rfl | rfl | rfl | rfl | rfl | rfl
  · omega
  · rw [wrp2] at hb; have e : wn 2 = 8 := rfl; rw [e]; omega
  · rw [wrp3] at hb; have e : wn 3 = 16 := rfl; rw [e]; omega
  · rw [wrp4] at hb; have e : wn 4 = 32 := rfl; rw [e]; omega
  · have e : wn 5 = 64 := rfl; rw [e]; omega
  · rw [wrp6] at hb; have e : wn 6 = 8 := rfl; rw [e]; omega
  · rw [wrp7] at hb; have e : wn 7 = 16 := rfl; rw [e]; omega
  · rw [wrp8] at hb; have e : wn 8 = 32 := rfl; rw [e]; omega
  · have e : wn 9 = 64 := rfl; rw [e]; omega

theorem u64_low (b : Int) : (IntKind.u64.wrap b).toNat = low 64 b := by rw [wrap_u64]; rfl
theorem U_low (a : Int) : U a = (low 64 a : Int) := by rw [U_eq]; unfold low; omega

theorem low_mul (m : Nat) (hm : m ≤ 64) (a : Int) (s i : Nat) (hi : i < m) : (low m (a * 2 ^ s)).testBit i = (decide (s ≤ i) && bt a (i - s)) := by
  have e1 : a = (low 64 a : Int) + 18446744073709551616 * (a / 18446744073709551616) := by unfold low; omega
  have e2 : low m (a * 2 ^ s) = low m ((low 64 a * 2 ^ s : Nat) : Int) := by
    rw [← low_mod m hm, ← low_mod m hm]
    congr 1
    have e3 : a * 2 ^ s = ((low 64 a * 2 ^ s : Nat) : Int) + 18446744073709551616 * (a / 18446744073709551616 * 2 ^ s) := by
      conv => lhs; rw [e1]
      rw [Int.add_mul, Int.mul_assoc]
      simp
    rw [e3]
    generalize (low 64 a * 2 ^ s : Nat) = X
    generalize a / 18446744073709551616 * 2 ^ s = Y
    unfold low
    omega
  have e4 : low m ((low 64 a * 2 ^ s : Nat) : Int) = (low 64 a * 2 ^ s) % 2 ^ m := by
    unfold low
    rw [← Int.natCast_emod, Int.toNat_natCast]
  rw [e2, e4, Nat.testBit_mod_two_pow, ← Nat.shiftLeft_eq, Nat.testBit_shiftLeft]
  simp [hi, bt]

theorem one_inj {x y : Bool} (h : one x = one y) : x = y := by
  cases x <;> cases y <;> first | rfl | (revert h; decide)

theorem val_false {k : Int} (h1 : 1 ≤ k) (h2 : k ≤ 9) {f : Nat → Bool} (h : ∀ i, i < wn k → f i = false) : val k f = 0 := by
  refine val_eq h1 h2 (val_zero k h1 h2) fun i hi => ?_
  rw [h i hi]
  have : low (wn k) 0 = 0 := by unfold low; simp
  rw [this, Nat.zero_testBit]

theorem shl_val {k a b : Int} (h1 : 2 ≤ k) (h2 : k ≤ 9) (ha : Val k a) (hb : Val k b) : val k (mvf 12 (wn k) a false (low (wn k) b)) = binN 12 k a b := by
  have g1 : 1 ≤ k := by omega
  obtain ⟨p1, p2⟩ := places_low h1 h2 hb
  have hle := wn_le k
  rw [nShl h1 h2 ha hb]
  unfold vshl
  rw [u64_low, i64_wrap]
  show _ = W k _
  by_cases hB : low (wn k) b < wn k
  · rw [p1 hB, Nat.min_eq_left (by omega)]
    refine val_eq g1 h2 (val_W k _) fun i hi => ?_
    rw [low_W g1 h2, low_mul _ hle _ _ _ hi]
    unfold mvf
    rw [if_pos hB, if_neg (by decide)]
    by_cases hc : low (wn k) b ≤ i
    · simp [hc]
    · simp [hc]
  · rw [W_far g1 h2 a _ (by have := p2 (by omega); omega)]
    refine val_false g1 h2 fun i _ => ?_
    unfold mvf
    rw [if_neg hB]

theorem shr_val {k a b : Int} (h1 : 2 ≤ k) (h2 : k ≤ 9) (ha : Val k a) (hb : Val k b) : val k (mvf 13 (wn k) a (decide (k ≤ 5 ∧ a < 0)) (low (wn k) b)) = binN 13 k a b := by
  have g1 : 1 ≤ k := by omega
  obtain ⟨p1, p2⟩ := places_low h1 h2 hb
  have hle := wn_le k
  have hpow : ∀ n : Nat, (2 : Int) ^ n = ((2 ^ n : Nat) : Int) := fun n => by simp
  rw [nShr h1 h2 ha hb]
  unfold vshr
  rw [u64_low]
  generalize hs : min (low 64 b) 64 = s
  have s1 : low (wn k) b < wn k → s = low (wn k) b := fun h => by have := p1 h; omega
  have s2 : ¬ low (wn k) b < wn k → wn k ≤ s := fun h => by have := p2 (by omega); omega
  by_cases h6 : 6 ≤ k
  · rw [if_pos h6, i64_wrap]
    show _ = W k (U a / 2 ^ s)
    obtain ⟨a1, a2, _, _⟩ := val_u h6 h2 ha
    rw [M_pow, U_low] at a2
    have hA : low 64 a < 2 ^ wn k := by exact_mod_cast a2
    have e : U a / 2 ^ s = ((low 64 a / 2 ^ s : Nat) : Int) := by rw [U_low, hpow]; simp
    have hX : low 64 a / 2 ^ s < 2 ^ wn k := Nat.lt_of_le_of_lt (Nat.div_le_self _ _) hA
    have hfill : decide (k ≤ 5 ∧ a < 0) = false := by rw [decide_eq_false_iff_not]; omega
    rw [hfill, e]
    refine val_eq g1 h2 (val_W k _) fun i hi => ?_
    rw [low_W g1 h2, low_nat hX, Nat.testBit_div_two_pow]
    unfold mvf
    by_cases hB : low (wn k) b < wn k
    · rw [if_pos hB, if_pos rfl, s1 hB]
      by_cases hc : i + low (wn k) b < wn k
      · rw [if_pos hc]; rfl
      · rw [if_neg hc]
        cases hb : (low 64 a).testBit (i + low (wn k) b)
        · rfl
        · exact absurd (bit_lt hA hb) hc
    · rw [if_neg hB]
      cases hb : (low 64 a).testBit (i + s)
      · rfl
      · have := bit_lt hA hb
        have := s2 hB
        omega
  · rw [if_neg h6]
    have h5 : k ≤ 5 := by omega
    have v := val_sh_s h1 h5 ha s
    rw [hpow, v.1]
    obtain ⟨m, hm, hM, l1, l2, _⟩ := val_lo h1 h5 ha
    rw [M_pow] at hM
    have hdec : decide (k ≤ 5 ∧ a < 0) = decide (a < 0) := by rw [decide_eq_decide]; omega
    rw [hdec]
    refine val_eq g1 h2 v fun i hi => ?_
    rw [low_bit _ hle]
    have hi64 : i ≤ 63 := by omega
    apply one_inj
    have e0 : (decide (i < wn k) && bt (a / ((2 ^ s : Nat) : Int)) i) = bt (a / ((2 ^ s : Nat) : Int)) i := by simp [hi]
    rw [e0, ← bt_div _ _ hi64]
    have e1 : a / ((2 ^ s : Nat) : Int) / 2 ^ i = a / ((2 ^ (i + s) : Nat) : Int) := by
      rw [hpow, Int.ediv_ediv_of_nonneg (by have := Nat.two_pow_pos s; omega), ← Int.natCast_mul, ← Nat.pow_add, Nat.add_comm s i]
    rw [e1]
    have far : wn k ≤ i + s → a / ((2 ^ (i + s) : Nat) : Int) % 2 = one (decide (a < 0)) := by
      intro hf
      have hq : 2 ^ wn k ≤ 2 ^ (i + s) := Nat.pow_le_pow_right (by decide) hf
      generalize 2 ^ (i + s) = q at *
      generalize 2 ^ wn k = p at *
      by_cases hneg : a < 0
      · rw [small_div_neg (by omega) hneg]; simp [one, hneg]
      · rw [small_div (by omega) (by omega)]; simp [one, hneg]
    unfold mvf
    by_cases hB : low (wn k) b < wn k
    · rw [if_pos hB, if_pos rfl, s1 hB]
      rw [s1 hB] at far
      by_cases hc : i + low (wn k) b < wn k
      · rw [if_pos hc, ← bt_div _ _ (by omega), hpow]
      · rw [if_neg hc]; exact far (by omega)
    · rw [if_neg hB]
      exact far (by have := s2 hB; omega)
end Go.Proofs.Ytjlphploknhcfaa.Bv
