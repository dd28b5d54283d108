/- The plain mathematics of a reader that takes the shortest form alone. -/
import Derived.Test.YtcjainfcndlllaaCdP
namespace Go.Proofs.Ytcjainfcndlllaa.Cd
open Go.RowKit

def P7 (i : Nat) : Nat := 2 ^ (7 * i)
theorem P7_succ (i : Nat) : P7 (i + 1) = 128 * P7 i := by
  unfold P7
  rw [show 7 * (i + 1) = 7 * i + 7 by omega, Nat.pow_add]
  omega
theorem P7_pos (i : Nat) : 0 < P7 i := Nat.pos_of_ne_zero (by unfold P7; exact Nat.ne_of_gt (Nat.two_pow_pos _))
theorem P7_10 : P7 10 = 1180591620717411303424 := by decide
theorem P7_9 : P7 9 = 9223372036854775808 := by decide
/-- f bytes more at the most; i are read, z is what they are -/
def rdS : Nat → Nat → Nat → List UInt8 → Option (Nat × List UInt8)
  | 0, _, _, _ => none
  | _ + 1, _, _, [] => none
  | f + 1, i, z, c :: r =>
    if 128 ≤ c.toNat then rdS f (i + 1) (z + (c.toNat - 128) * P7 i) r
    else if c.toNat = 0 ∧ 0 < i then none
    else if 18446744073709551616 ≤ c.toNat * P7 i then none
    else some (z + c.toNat * P7 i, r)
theorem P7_mono {i j : Nat} (h : i ≤ j) : P7 i ≤ P7 j := Nat.pow_le_pow_right (by decide) (by omega)
theorem rdS_bytes : ∀ (f i z y : Nat) (r : List UInt8), f + i = 10 → z < P7 i → z + y * P7 i < 18446744073709551616 → (0 < i → 0 < y) → rdS f i z (bytes y ++ r) = some (z + y * P7 i, r)
  | 0, i, z, y, r, hf, hz, hv, hy => by
    have hi : i = 10 := by omega
    subst hi
    have := hy (by decide)
    have h1 := Nat.le_mul_of_pos_left (P7 10) this
    rw [P7_10] at h1
    rw [P7_10] at hv
    omega
  | f + 1, i, z, y, r, hf, hz, hv, hy => by
    by_cases h1 : y < 128
    · have e : (UInt8.ofNat y).toNat = y := ofNat_toNat (by omega)
      rw [bytes_small h1, List.cons_append, List.nil_append, rdS, e, if_neg (by omega), if_neg (by intro h; have := hy h.2; omega), if_neg (by omega)]
    · have e : (UInt8.ofNat (y % 128 + 128)).toNat = y % 128 + 128 := ofNat_toNat (by omega)
      have hq : y = y % 128 + 128 * (y / 128) := by omega
      have e2 : z + (y % 128 + 128 - 128) * P7 i + y / 128 * P7 (i + 1) = z + y * P7 i := by
        rw [P7_succ, Nat.add_sub_cancel]
        have : y * P7 i = (y % 128) * P7 i + y / 128 * (128 * P7 i) := by
          conv => lhs; rw [hq]
          rw [Nat.add_mul, Nat.mul_comm 128 (y / 128), Nat.mul_assoc]
        omega
      have hz2 : z + (y % 128 + 128 - 128) * P7 i < P7 (i + 1) := by
        rw [P7_succ, Nat.add_sub_cancel]
        have : (y % 128) * P7 i ≤ 127 * P7 i := Nat.mul_le_mul_right _ (by omega)
        omega
      rw [bytes_big h1, List.cons_append, rdS, e, if_pos (by omega), rdS_bytes f (i + 1) _ (y / 128) r (by omega) hz2 (by rw [e2]; exact hv) (fun _ => by omega), e2]
theorem div64 {i d : Nat} (hi : i ≤ 9) (h : d * P7 i < 18446744073709551616) : d * P7 i + P7 i ≤ 18446744073709551616 := by
  have : 18446744073709551616 = 2 ^ (64 - 7 * i) * P7 i := by
    unfold P7
    rw [← Nat.pow_add, show 64 - 7 * i + 7 * i = 64 by omega]
  rw [this] at h ⊢
  have h2 : d < 2 ^ (64 - 7 * i) := Nat.lt_of_mul_lt_mul_right h
  have h3 := Nat.mul_le_mul_right (P7 i) (Nat.succ_le_of_lt h2)
  rw [Nat.succ_mul] at h3
  exact h3
theorem rdS_sound : ∀ (f i z : Nat) (l : List UInt8) (v : Nat) (r : List UInt8), f + i = 10 → z < P7 i → rdS f i z l = some (v, r) → ∃ y, l = bytes y ++ r ∧ v = z + y * P7 i ∧ v < 18446744073709551616 ∧ (0 < i → 0 < y)
  | 0, _, _, _, _, _, _, _, h => by cases h
  | _ + 1, _, _, [], _, _, _, _, h => by cases h
  | f + 1, i, z, c :: l, v, r, hf, hz, h => by
    rw [rdS] at h
    split at h
    · rename_i hc
      have hcl := UInt8.toNat_lt c
      have hz2 : z + (c.toNat - 128) * P7 i < P7 (i + 1) := by
        rw [P7_succ]
        have : (c.toNat - 128) * P7 i ≤ 127 * P7 i := Nat.mul_le_mul_right _ (by omega)
        omega
      obtain ⟨y, e1, e2, e3, e4⟩ := rdS_sound f (i + 1) _ l v r (by omega) hz2 h
      have hy := e4 (by omega)
      refine ⟨(c.toNat - 128) + 128 * y, ?_, ?_, e3, fun _ => by omega⟩
      · rw [bytes_big (by omega), e1, List.cons_append]
        congr 1
        · have : ((c.toNat - 128) + 128 * y) % 128 + 128 = c.toNat := by omega
          rw [this]
          simp
        · rw [show ((c.toNat - 128) + 128 * y) / 128 = y by omega]
      · rw [e2, P7_succ, Nat.add_mul, Nat.mul_assoc 128 y, Nat.mul_comm 128 (y * P7 i), Nat.mul_assoc y, Nat.mul_comm (P7 i) 128]
        omega
    · rename_i hc
      split at h
      · cases h
      · rename_i h0
        split at h
        · cases h
        · rename_i ho
          have e := Option.some.inj h
          have e1 : v = z + c.toNat * P7 i := (congrArg Prod.fst e).symm
          have e2 : l = r := congrArg Prod.snd e
          have := div64 (i := i) (d := c.toNat) (by omega) (by omega)
          refine ⟨c.toNat, ?_, e1, by omega, fun hi => ?_⟩
          · rw [bytes_small (by omega), e2]
            simp
          · by_cases h1 : c.toNat = 0
            · exact absurd ⟨h1, hi⟩ h0
            · omega
/-- one number in its shortest form -/
def rd1 (l : List UInt8) : Option (Int × List UInt8) := (rdS 10 0 0 l).map fun x => (zag x.1, x.2)
theorem rd1_num {n : Int} (h : I64 n) (r : List UInt8) : rd1 (num n ++ r) = some (n, r) := by
  unfold rd1 num
  rw [rdS_bytes 10 0 0 (zig n) r rfl (P7_pos 0) (by have := zig_lt h; simp [P7]; omega) (fun h => by omega)]
  simp [P7, zag_zig]
theorem zig_zag (z : Nat) : zig (zag z) = z := by
  unfold zag zig
  by_cases h : z % 2 = 0
  · rw [if_pos h, if_pos (by omega)]; omega
  · rw [if_neg h, if_neg (by omega)]; omega
theorem zag_64 {z : Nat} (h : z < 18446744073709551616) : I64 (zag z) := by
  unfold zag I64
  split <;> omega
theorem rd1_sound {l r : List UInt8} {n : Int} (h : rd1 l = some (n, r)) : I64 n ∧ l = num n ++ r := by
  unfold rd1 at h
  cases hs : rdS 10 0 0 l with
  | none => rw [hs] at h; cases h
  | some x =>
    rw [hs] at h
    obtain ⟨v, r'⟩ := x
    have e := Option.some.inj h
    have e1 : zag v = n := congrArg Prod.fst e
    have e2 : r' = r := congrArg Prod.snd e
    obtain ⟨y, h1, h2, h3, -⟩ := rdS_sound 10 0 0 l v r' rfl (P7_pos 0) hs
    have : v = y := by simp [P7] at h2; exact h2
    subst this
    refine ⟨by rw [← e1]; exact zag_64 h3, ?_⟩
    rw [h1, e2, ← e1]
    unfold num
    rw [zig_zag]
end Go.Proofs.Ytcjainfcndlllaa.Cd
