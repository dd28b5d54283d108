/- Plain laws of the bits of values of a kind (no program in sight): and, or, exclusive-or and the opposite go bit by bit. -/
import Derived.Test.YtlppifnepckpiaaBvO
namespace Go.Proofs.Ytlppifnepckpiaa.Bv
open Go.RowKit

/-- the width as a count -/
def wn (k : Int) : Nat := if k = 1 then 1 else if k = 2 ∨ k = 6 then 8 else if k = 3 ∨ k = 7 then 16 else if k = 4 ∨ k = 8 then 32 else 64

theorem wn_le (k : Int) : wn k ≤ 64 := by
  unfold wn
  repeat' split
  all_goals decide

/-- the lower bits of a number, as a number without a sign -/
def low (w : Nat) (x : Int) : Nat := (x % ((2 ^ w : Nat) : Int)).toNat

theorem low_lt (w : Nat) (x : Int) : low w x < 2 ^ w := by
  unfold low
  have h : 0 < 2 ^ w := Nat.two_pow_pos w
  generalize 2 ^ w = m at *
  have h1 := Int.emod_nonneg x (b := (m : Int)) (by omega)
  have h2 := Int.emod_lt_of_pos x (b := (m : Int)) (by omega)
  omega

theorem low_mod (w : Nat) (hw : w ≤ 64) (x : Int) : low 64 x % 2 ^ w = low w x := by
  unfold low
  have hd : ((2 ^ w : Nat) : Int) ∣ ((2 ^ 64 : Nat) : Int) := by exact_mod_cast Nat.pow_dvd_pow 2 hw
  have h0 : (0 : Int) ≤ x % ((2 ^ 64 : Nat) : Int) := Int.emod_nonneg x (by decide)
  have h := Int.emod_emod_of_dvd x hd
  rw [← h]
  generalize x % ((2 ^ 64 : Nat) : Int) = y at *
  obtain ⟨n, rfl⟩ := Int.eq_ofNat_of_zero_le h0
  rw [← Int.natCast_emod, Int.toNat_natCast, Int.toNat_natCast]

theorem low_wrap (w : Nat) (hw : w ≤ 64) (n : Nat) : low w (IntKind.i64.wrap (n : Int)) = n % 2 ^ w := by
  have e : low 64 (IntKind.i64.wrap (n : Int)) = n % 2 ^ 64 := by
    unfold low
    rw [IntKind.wrap_i64]
    omega
  rw [← low_mod w hw, e, Nat.mod_mod_of_dvd _ (Nat.pow_dvd_pow 2 hw)]

theorem toNat64 (x : Int) : (BitVec.ofInt 64 x).toNat = low 64 x := by
  rw [BitVec.toNat_ofInt]
  rfl

theorem low_and (w : Nat) (hw : w ≤ 64) (x y : Int) : low w (bits .and .i64 x y) = low w x &&& low w y := by
  show low w (IntKind.i64.wrap ((BitVec.ofInt 64 x &&& BitVec.ofInt 64 y).toNat : Int)) = _
  rw [low_wrap w hw, BitVec.toNat_and, toNat64, toNat64, Nat.and_mod_two_pow, low_mod w hw, low_mod w hw]
theorem low_or (w : Nat) (hw : w ≤ 64) (x y : Int) : low w (bits .or .i64 x y) = low w x ||| low w y := by
  show low w (IntKind.i64.wrap ((BitVec.ofInt 64 x ||| BitVec.ofInt 64 y).toNat : Int)) = _
  rw [low_wrap w hw, BitVec.toNat_or, toNat64, toNat64, Nat.or_mod_two_pow, low_mod w hw, low_mod w hw]
theorem low_xor (w : Nat) (hw : w ≤ 64) (x y : Int) : low w (bits .xor .i64 x y) = low w x ^^^ low w y := by
  show low w (IntKind.i64.wrap ((BitVec.ofInt 64 x ^^^ BitVec.ofInt 64 y).toNat : Int)) = _
  rw [low_wrap w hw, BitVec.toNat_xor, toNat64, toNat64, Nat.xor_mod_two_pow, low_mod w hw, low_mod w hw]

theorem low_m1 (w : Nat) : low w (-1) = 2 ^ w - 1 := by
  unfold low
  have h : 0 < 2 ^ w := Nat.two_pow_pos w
  generalize 2 ^ w = m at *
  have e : (-1 : Int) % (m : Int) = (m : Int) - 1 := by
    have h1 : (-1 : Int) = (m : Int) - 1 + (m : Int) * (-1) := by omega
    rw [h1, Int.add_mul_emod_self_left, Int.emod_eq_of_lt (by omega) (by omega)]
  rw [e]; omega

/-- of a value the lower bits tell all -/
theorem low_inj {k a b : Int} (h1 : 1 ≤ k) (h2 : k ≤ 9) (ha : Val k a) (hb : Val k b) (h : low (wn k) a = low (wn k) b) : a = b := by
  obtain ⟨ha, ia⟩ := ha
  obtain ⟨hb, ib⟩ := hb
  unfold I64 at ia ib
  unfold low at h
  rcases kinds k h1 h2 with rfl | rfl | rfl | rfl | rfl | rfl | rfl | rfl | rfl
  · rw [wrp1] at ha hb; have e : wn 1 = 1 := rfl; rw [e] at h; omega
  · rw [wrp2] at ha hb; have e : wn 2 = 8 := rfl; rw [e] at h; omega
  · rw [wrp3] at ha hb; have e : wn 3 = 16 := rfl; rw [e] at h; omega
  · rw [wrp4] at ha hb; have e : wn 4 = 32 := rfl; rw [e] at h; omega
  · have e : wn 5 = 64 := rfl; rw [e] at h; omega
  · rw [wrp6] at ha hb; have e : wn 6 = 8 := rfl; rw [e] at h; omega
  · rw [wrp7] at ha hb; have e : wn 7 = 16 := rfl; rw [e] at h; omega
  · rw [wrp8] at ha hb; have e : wn 8 = 32 := rfl; rw [e] at h; omega
  · have e : wn 9 = 64 := rfl; rw [e] at h; omega

/-- wrapping leaves the lower bits -/
theorem low_wrp {k n : Int} (h1 : 1 ≤ k) (h2 : k ≤ 9) : low (wn k) (wrp k n) = low (wn k) n := by
  unfold low
  rcases kinds k h1 h2 with rfl | rfl | rfl | rfl | rfl | rfl | rfl | rfl | rfl
  · rw [wrp1]; have e : wn 1 = 1 := rfl; rw [e]; omega
  · rw [wrp2]; have e : wn 2 = 8 := rfl; rw [e]; omega
  · rw [wrp3]; have e : wn 3 = 16 := rfl; rw [e]; omega
  · rw [wrp4]; have e : wn 4 = 32 := rfl; rw [e]; omega
  · rw [wrp5]
  · rw [wrp6]; have e : wn 6 = 8 := rfl; rw [e]; omega
  · rw [wrp7]; have e : wn 7 = 16 := rfl; rw [e]; omega
  · rw [wrp8]; have e : wn 8 = 32 := rfl; rw [e]; omega
  · rw [wrp9]

theorem i64_bits (op : BinOp) (x y : Int) : I64 (bits op .i64 x y) := ⟨bits_lo_i64 op x y, bits_hi_i64 op x y⟩

theorem bin_bits {op k a b : Int} (h1 : 1 ≤ k) (h2 : k ≤ 9) (o : op = 8 ∨ op = 9 ∨ op = 10) (ha : Val k a) (hb : Val k b) : binN op k a b = wrp k (vop op k a b) := by
  have hof : ofB op = 3 := by rcases o with rfl | rfl | rfl <;> rfl
  have e : binB op k a b = true := by
    unfold binB allv
    rw [hof, tks3 k h1 h2]
    simp [isv_val h1 h2 ha, isv_val h1 h2 hb]
  unfold binN
  rw [e, toK_small op k (by omega)]
  rfl

theorem nAnd {k a b : Int} (h1 : 1 ≤ k) (h2 : k ≤ 9) (ha : Val k a) (hb : Val k b) : Val k (binN 8 k a b) ∧ low (wn k) (binN 8 k a b) = low (wn k) a &&& low (wn k) b := by
  rw [bin_bits h1 h2 (by omega) ha hb, vop8]
  exact ⟨val_wrp k _ (i64_bits _ _ _), by rw [low_wrp h1 h2, low_and _ (wn_le k)]⟩
theorem nOr {k a b : Int} (h1 : 1 ≤ k) (h2 : k ≤ 9) (ha : Val k a) (hb : Val k b) : Val k (binN 9 k a b) ∧ low (wn k) (binN 9 k a b) = low (wn k) a ||| low (wn k) b := by
  rw [bin_bits h1 h2 (by omega) ha hb, vop9]
  exact ⟨val_wrp k _ (i64_bits _ _ _), by rw [low_wrp h1 h2, low_or _ (wn_le k)]⟩
theorem nXor {k a b : Int} (h1 : 1 ≤ k) (h2 : k ≤ 9) (ha : Val k a) (hb : Val k b) : Val k (binN 10 k a b) ∧ low (wn k) (binN 10 k a b) = low (wn k) a ^^^ low (wn k) b := by
  rw [bin_bits h1 h2 (by omega) ha hb, vop10]
  exact ⟨val_wrp k _ (i64_bits _ _ _), by rw [low_wrp h1 h2, low_xor _ (wn_le k)]⟩
theorem nNot {k a : Int} (h1 : 1 ≤ k) (h2 : k ≤ 9) (ha : Val k a) : Val k (unN 1 k a) ∧ low (wn k) (unN 1 k a) = (2 ^ wn k - 1) ^^^ low (wn k) a := by
  rw [unN1 h1 h2 ha]
  exact ⟨val_wrp k _ (i64_bits _ _ _), by rw [low_wrp h1 h2, low_xor _ (wn_le k), low_m1]⟩

/-- bits, one by one -/
theorem bit_lt {w x i : Nat} (hx : x < 2 ^ w) (h : x.testBit i = true) : i < w := by
  by_cases hi : i < w
  · exact hi
  · have := Nat.testBit_lt_two_pow (Nat.lt_of_lt_of_le hx (Nat.pow_le_pow_right (by decide) (Nat.le_of_not_lt hi)))
    rw [this] at h
    cases h

theorem and_or_self (x y : Nat) : x &&& (x ||| y) = x := by
  apply Nat.eq_of_testBit_eq
  intro i
  rw [Nat.testBit_and, Nat.testBit_or]
  cases x.testBit i <;> cases y.testBit i <;> rfl
theorem xor_not (w x : Nat) : x ^^^ ((2 ^ w - 1) ^^^ x) = 2 ^ w - 1 := by
  apply Nat.eq_of_testBit_eq
  intro i
  rw [Nat.testBit_xor, Nat.testBit_xor, Nat.testBit_two_pow_sub_one]
  cases x.testBit i <;> cases decide (i < w) <;> rfl
theorem and_not {w x : Nat} (hx : x < 2 ^ w) : x &&& ((2 ^ w - 1) ^^^ x) = 0 := by
  apply Nat.eq_of_testBit_eq
  intro i
  rw [Nat.testBit_and, Nat.testBit_xor, Nat.testBit_two_pow_sub_one, Nat.zero_testBit]
  cases h : x.testBit i
  · rfl
  · have := bit_lt hx h
    simp [this]
theorem or_not {w x : Nat} (hx : x < 2 ^ w) : x ||| ((2 ^ w - 1) ^^^ x) = 2 ^ w - 1 := by
  apply Nat.eq_of_testBit_eq
  intro i
  rw [Nat.testBit_or, Nat.testBit_xor, Nat.testBit_two_pow_sub_one]
  cases h : x.testBit i
  · simp
  · have := bit_lt hx h
    simp [this]
theorem morgan {w x y : Nat} (hx : x < 2 ^ w) (hy : y < 2 ^ w) : (2 ^ w - 1) ^^^ (x &&& y) = ((2 ^ w - 1) ^^^ x) ||| ((2 ^ w - 1) ^^^ y) := by
  apply Nat.eq_of_testBit_eq
  intro i
  simp only [Nat.testBit_xor, Nat.testBit_and, Nat.testBit_or, Nat.testBit_two_pow_sub_one]
  by_cases hi : i < w
  · simp [hi]
  · have hx' : x.testBit i = false := by
      cases h : x.testBit i
      · rfl
      · exact absurd (bit_lt hx h) hi
    have hy' : y.testBit i = false := by
      cases h : y.testBit i
      · rfl
      · exact absurd (bit_lt hy h) hi
    simp [hi, hx', hy']
theorem xor_as {w x y : Nat} (hx : x < 2 ^ w) (hy : y < 2 ^ w) : x ^^^ y = (x ||| y) &&& ((2 ^ w - 1) ^^^ (x &&& y)) := by
  apply Nat.eq_of_testBit_eq
  intro i
  simp only [Nat.testBit_xor, Nat.testBit_and, Nat.testBit_or, Nat.testBit_two_pow_sub_one]
  by_cases hi : i < w
  · simp [hi]
    cases x.testBit i <;> cases y.testBit i <;> rfl
  · have hx' : x.testBit i = false := by
      cases h : x.testBit i
      · rfl
      · exact absurd (bit_lt hx h) hi
    have hy' : y.testBit i = false := by
      cases h : y.testBit i
      · rfl
      · exact absurd (bit_lt hy h) hi
    simp [hx', hy']
theorem and_or_dist (x y z : Nat) : x &&& (y ||| z) = (x &&& y) ||| (x &&& z) := by
  apply Nat.eq_of_testBit_eq
  intro i
  simp only [Nat.testBit_and, Nat.testBit_or]
  cases x.testBit i <;> cases y.testBit i <;> cases z.testBit i <;> rfl
theorem xor_xor (x y : Nat) : (x ^^^ y) ^^^ y = x := by
  apply Nat.eq_of_testBit_eq
  intro i
  simp only [Nat.testBit_xor]
  cases x.testBit i <;> cases y.testBit i <;> rfl
end Go.Proofs.Ytlppifnepckpiaa.Bv
