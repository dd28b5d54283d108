/- The walks of the document's own Width, Signed, power, Wrap, Is and of alive: they answer as the plain definitions say (power to 62; Wrap of a number of 64 bits). -/
import Derived.Test.YtjlphploknhcfacChecked
import Derived.Test.YtjlphploknhcfacBvN
namespace Go.Proofs.Ytjlphploknhcfac
open Go.RowKit

theorem pow_le (k : Nat) (h : k ≤ 62) : (0 : Int) ≤ 2 ^ k ∧ (2 : Int) ^ k ≤ 4611686018427387904 := by
  have e : (2 : Int) ^ k = ((2 ^ k : Nat) : Int) := by simp
  have h2 : 2 ^ k ≤ 2 ^ 62 := Nat.pow_le_pow_right (by decide) h
  have h3 : (2 : Nat) ^ 62 = 4611686018427387904 := by decide
  rw [e]
  rw [h3] at h2
  generalize (2 ^ k : Nat) = m at h2 ⊢
  omega

theorem pow_step (k : Nat) (h : k < 62) : wrap64 (2 * (2 : Int) ^ k) = 2 ^ (k + 1) := by
  have h1 := pow_le k (by omega)
  have h2 := pow_le (k + 1) (by omega)
  have h3 : (2 : Int) ^ (k + 1) = 2 * 2 ^ k := by rw [Int.pow_succ, Int.mul_comm]
  unfold wrap64
  omega

theorem wrap_pos (n p : Int) (hp : 0 < p) (h : 0 ≤ n.tmod p) : n.tmod p = n % p := by
  have h1 := Int.tmod_def n p
  have h2 := Int.tmod_lt_of_pos n hp
  have h3 : n.tmod p = n + p * (-(n.tdiv p)) := by rw [h1, Int.mul_neg]; rfl
  have h4 : n.tmod p % p = n % p := by rw [h3, Int.add_mul_emod_self_left]
  rw [Int.emod_eq_of_lt h h2] at h4
  exact h4

theorem wrap_neg (n p : Int) (hp : 0 < p) (h : n.tmod p < 0) : n.tmod p + p = n % p := by
  have h1 := Int.tmod_def n p
  have h2 : -p < n.tmod p := by
    have := Int.lt_tmod_of_pos n hp
    exact this
  have h3 : n.tmod p + p = n + p * (-(n.tdiv p) + 1) := by rw [h1, Int.mul_add, Int.mul_neg, Int.mul_one, ← Int.add_assoc]; rfl
  have h4 : (n.tmod p + p) % p = n % p := by rw [h3, Int.add_mul_emod_self_left]
  rw [Int.emod_eq_of_lt (by omega) (by omega)] at h4
  exact h4

set_option maxHeartbeats 800000 in
theorem alive_any (w : World) :
    Calls Try.prog 4 #[] w fun e w' => e = .returned (.bool true) ∧ Below w.heap.size w w' := by
  have b1 : Bv.binN 3 2 127 1 = -128 := by kernel_rfl
  have b2 : Bv.binK 3 2 127 1 = 2 := by kernel_rfl
  have b3 : Bv.binB 3 2 127 1 = true := by kernel_rfl
  have b4 : Bv.casN 2 7 (-1) = 65535 := by kernel_rfl
  have b5 : Bv.casB 2 7 (-1) = true := by kernel_rfl
  have b6 : Bv.binN 16 9 (-1) 0 = 0 := by kernel_rfl
  have b7 : Bv.wrp 2 200 = -56 := by kernel_rfl
  have b8 : Bv.wid 8 = 32 := by kernel_rfl
  go_enter Try.func4, Try.ntmps4
  go_wp2_with fail
  refine (bin_any 3 2 127 1 (by unfold Bv.I64; omega) _).mono ?_
  rintro e w1 ⟨rfl, h1⟩
  rw [b1, b2, b3]
  go_wp2_with fail
  refine (cast_any 2 7 (-1) _).mono ?_
  rintro e w2 ⟨rfl, h2⟩
  rw [b4, b5]
  go_wp2_with fail
  refine (bin_any 16 9 (-1) 0 (by unfold Bv.I64; omega) _).mono ?_
  rintro e w3 ⟨rfl, h3⟩
  rw [b6]
  have hB : Below w.heap.size w w3 := (h1.trans (h2.mono h1.size)).trans (h3.mono (Nat.le_trans h1.size h2.size))
  clear h1 h2 h3
  go_wp2_with (first | (go_at_call 8; refine (width_any _ _).mono ?_; rintro e w' ⟨rfl, rfl⟩) | (go_at_call 7; refine (wrap_any _ _ _).mono ?_; rintro e w' ⟨rfl, rfl⟩))
  go_ret
  exact ⟨rfl, hB⟩
end Go.Proofs.Ytjlphploknhcfac
