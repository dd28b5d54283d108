/- Plain laws of numbers that are made of bits (no program in sight). -/
import Derived.Test.YtjlphploknhcfaaBvE
namespace Go.Proofs.Ytjlphploknhcfaa.Bv
open Go.RowKit

/-- the number with these w bits -/
def ofb (f : Nat → Bool) : Nat → Nat
  | 0 => 0
  | w + 1 => ofb f w + (if f w then 2 ^ w else 0)

theorem ofb_lt (f : Nat → Bool) (w : Nat) : ofb f w < 2 ^ w := by
  induction w with
  | zero => simp [ofb]
  | succ w ih =>
    simp only [ofb]
    have : 2 ^ (w + 1) = 2 ^ w + 2 ^ w := by rw [Nat.pow_succ]; omega
    split <;> omega

theorem ofb_bit (f : Nat → Bool) (w i : Nat) : (ofb f w).testBit i = (decide (i < w) && f i) := by
  induction w with
  | zero => simp [ofb]
  | succ w ih =>
    have hlt := ofb_lt f w
    simp only [ofb]
    by_cases hf : f w = true
    · rw [if_pos hf, Nat.add_comm]
      rcases (by omega : i < w ∨ i = w ∨ w < i) with h | h | h
      · rw [Nat.testBit_two_pow_add_gt h, ih]
        have : i < w + 1 := by omega
        simp [h, this]
      · subst h
        rw [Nat.testBit_two_pow_add_eq, ih]
        simp [hf]
      · have h1 : ¬ i < w + 1 := by omega
        have h2 : 2 ^ w + ofb f w < 2 ^ i := by
          have : 2 ^ (w + 1) ≤ 2 ^ i := Nat.pow_le_pow_right (by decide) (by omega)
          have e : 2 ^ (w + 1) = 2 ^ w + 2 ^ w := by rw [Nat.pow_succ]; omega
          omega
        rw [Nat.testBit_lt_two_pow h2]
        simp [h1]
    · rw [if_neg hf, Nat.add_zero, ih]
      have hf' : f w = false := by simpa using hf
      rcases (by omega : i < w ∨ i = w ∨ w < i) with h | h | h
      · have : i < w + 1 := by omega
        simp [h, this]
      · subst h
        simp [hf']
      · have h1 : ¬ i < w := by omega
        have h2 : ¬ i < w + 1 := by omega
        simp [h1, h2]

/-- bit i of a number of 64 bits -/
def bt (x : Int) (i : Nat) : Bool := (low 64 x).testBit i

theorem bt_div (x : Int) (i : Nat) (h : i ≤ 63) : x / 2 ^ i % 2 = one (bt x i) := by
  unfold bt low
  have hm : x % ((2 ^ 64 : Nat) : Int) = x - ((2 ^ 64 : Nat) : Int) * (x / ((2 ^ 64 : Nat) : Int)) := by
    have := Int.mul_ediv_add_emod x ((2 ^ 64 : Nat) : Int)
    omega
  have h0 : 0 ≤ x % ((2 ^ 64 : Nat) : Int) := Int.emod_nonneg x (by decide)
  generalize hq : x / ((2 ^ 64 : Nat) : Int) = q at hm
  obtain ⟨m, hmm⟩ := Int.eq_ofNat_of_zero_le h0
  rw [hmm, Int.toNat_natCast]
  have e1 : x = (m : Int) + ((2 ^ 64 : Nat) : Int) * q := by omega
  have e2 : ((2 ^ 64 : Nat) : Int) = 2 ^ i * (2 * 2 ^ (63 - i)) := by
    have : (64 : Nat) = i + (1 + (63 - i)) := by omega
    have h3 : ((2 ^ 64 : Nat) : Int) = (2 : Int) ^ (64 : Nat) := by simp
    rw [h3]
    conv => lhs; rw [this, Int.pow_add, Int.pow_add]
    simp
  have hp : (2 : Int) ^ i ≠ 0 := by
    have : (0 : Int) < 2 ^ i := Int.pow_pos (by decide)
    omega
  have e3 : x / 2 ^ i = (m : Int) / 2 ^ i + 2 * (2 ^ (63 - i) * q) := by
    rw [e1, e2, Int.mul_assoc, Int.mul_assoc, Int.add_mul_ediv_left _ _ hp]
  rw [e3, Int.add_mul_emod_self_left]
  have e4 : (m : Int) / 2 ^ i % 2 = ((m / 2 ^ i % 2 : Nat) : Int) := by simp
  rw [e4, Nat.testBit_eq_decide_div_mod_eq]
  rcases Nat.mod_two_eq_zero_or_one (m / 2 ^ i) with h | h <;> rw [h] <;> simp [one]

/-- the lower bits of a number are its bits -/
theorem low_bit (w : Nat) (hw : w ≤ 64) (x : Int) (i : Nat) : (low w x).testBit i = (decide (i < w) && bt x i) := by
  rw [← low_mod w hw, Nat.testBit_mod_two_pow]
  rfl

/-- bits as a list of noughts and ones -/
def lst (f : Nat → Bool) (w : Nat) : List Int := (List.range w).map fun i => one (f i)

theorem lst_len (f : Nat → Bool) (w : Nat) : (lst f w).length = w := by simp [lst]
theorem lst_succ (f : Nat → Bool) (w : Nat) : lst f (w + 1) = lst f w ++ [one (f w)] := by simp [lst, List.range_succ]
theorem lst_get (f : Nat → Bool) (w i : Nat) (h : i < w) : (lst f w)[i]? = some (one (f i)) := by simp [lst, h]
theorem lst_congr {f g : Nat → Bool} {w : Nat} (h : ∀ i, i < w → f i = g i) : lst f w = lst g w := by
  unfold lst
  apply List.map_congr_left
  intro i hi
  rw [h i (List.mem_range.1 hi)]

/-- the value of the kind with these bits -/
def val (k : Int) (f : Nat → Bool) : Int := W k (ofb f (wn k))

theorem low_W {k x : Int} (h1 : 1 ≤ k) (h2 : k ≤ 9) : low (wn k) (W k x) = low (wn k) x := by
  unfold W
  rw [low_wrp h1 h2]
  have h := wn_le k
  have e : low 64 (wrap64 x) = low 64 x := by unfold low wrap64; omega
  rw [← low_mod _ h, e, low_mod _ h]

theorem low_nat {w n : Nat} (h : n < 2 ^ w) : low w (n : Int) = n := by
  unfold low
  generalize 2 ^ w = m at *
  have : (n : Int) % (m : Int) = n := Int.emod_eq_of_lt (by omega) (by omega)
  rw [this]; omega

theorem low_val {k : Int} (h1 : 1 ≤ k) (h2 : k ≤ 9) (f : Nat → Bool) : low (wn k) (val k f) = ofb f (wn k) := by
  unfold val
  rw [low_W h1 h2, low_nat (ofb_lt f _)]

theorem val_val (k : Int) (f : Nat → Bool) : Val k (val k f) := val_W k _

/-- a value is the one with these bits, if its bits are these -/
theorem val_eq {k a : Int} {f : Nat → Bool} (h1 : 1 ≤ k) (h2 : k ≤ 9) (ha : Val k a) (h : ∀ i, i < wn k → (low (wn k) a).testBit i = f i) : val k f = a := by
  refine low_inj h1 h2 (val_val k f) ha ?_
  rw [low_val h1 h2]
  apply Nat.eq_of_testBit_eq
  intro i
  rw [ofb_bit]
  by_cases hi : i < wn k
  · simp [hi, h i hi]
  · simp [hi]
    have := low_lt (wn k) a
    cases hb : (low (wn k) a).testBit i
    · rfl
    · exact absurd (bit_lt this hb) hi
end Go.Proofs.Ytjlphploknhcfaa.Bv
