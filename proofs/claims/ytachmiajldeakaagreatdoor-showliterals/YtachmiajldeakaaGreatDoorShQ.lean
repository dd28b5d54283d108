/- The plain mathematics of printed literals, on: the digits of a number; and the program that a node with a literal is. -/
import Derived.Test.YtachmiajldeakaaGreatDoorShP
namespace Go.Proofs.YtachmiajldeakaaGreatDoor
open Go.RowKit

namespace Lex
theorem dgt_of (r : Nat) (h : r < 10) : digit (UInt8.ofNat (48 + r)) = true ∧ (UInt8.ofNat (48 + r)).toNat = 48 + r := by
  rcases (show r = 0 ∨ r = 1 ∨ r = 2 ∨ r = 3 ∨ r = 4 ∨ r = 5 ∨ r = 6 ∨ r = 7 ∨ r = 8 ∨ r = 9 by omega) with rfl | rfl | rfl | rfl | rfl | rfl | rfl | rfl | rfl | rfl <;> decide
theorem numVal_end (l : List UInt8) (c : UInt8) : numVal (l ++ [c]) = numVal l * 10 + (c.toNat - 48) := by unfold numVal; rw [List.foldl_append]; rfl
theorem dec_facts (u : Nat) : (∀ c ∈ Lib.decDigits u, digit c = true) ∧ Lib.decDigits u ≠ [] ∧ numVal (Lib.decDigits u) = u := by
  induction u using Nat.strongRecOn with
  | _ u ih =>
    by_cases h : u < 10
    · obtain ⟨d1, d2⟩ := dgt_of u h
      rw [Lib.decDigits, dif_pos h]
      refine ⟨fun c hc => ?_, by simp, ?_⟩
      · obtain rfl := List.mem_singleton.1 hc; exact d1
      · unfold numVal; simp only [List.foldl_cons, List.foldl_nil, d2]; omega
    · obtain ⟨i1, i2, i3⟩ := ih (u / 10) (by omega)
      obtain ⟨d1, d2⟩ := dgt_of (u % 10) (by omega)
      rw [Lib.decDigits, dif_neg h]
      refine ⟨fun c hc => ?_, by simp, ?_⟩
      · rcases List.mem_append.1 hc with hc | hc
        · exact i1 c hc
        · obtain rfl := List.mem_singleton.1 hc; exact d1
      · rw [numVal_end, i3, d2]; omega
theorem dec_len20 (u : Nat) (h : u < 18446744073709551616) : (Lib.decDigits u).length ≤ 20 := by
  rw [Lib.decDigits_length]
  by_cases h1 : 1 ≤ u
  · by_cases h2 : Lib.nDigits u ≤ 20
    · exact h2
    · exfalso
      have : ∀ (k u : Nat), k + 1 ≤ Lib.nDigits u → 1 ≤ u → 10 ^ k ≤ u := by
        intro k
        induction k with
        | zero => intro u _ hu; simpa using hu
        | succ k ih =>
          intro u hk hu
          by_cases h10 : u < 10
          · rw [Lib.nDigits_small h10] at hk; omega
          · rw [Lib.nDigits_big h10] at hk
            have := ih (u / 10) (by omega) (by omega)
            rw [Nat.pow_succ]
            omega
      have h3 := this 20 u (by omega) h1
      have h4 : (10 : Nat) ^ 20 = 100000000000000000000 := by decide
      omega
  · obtain rfl : u = 0 := by omega
    rw [Lib.nDigits_small (by decide)]; decide
/-- the text of a value -/
def litL (k n : Int) : List UInt8 :=
  if k = 1 then (if n = 0 then [102, 97, 108, 115, 101] else [116, 114, 117, 101])
  else if k = 9 then Lib.decDigits (if 0 ≤ n then n.toNat else (n + 18446744073709551616).toNat) ++ kindS 9
  else if n < 0 then 40 :: 45 :: (Lib.decDigits n.natAbs ++ kindS k ++ [41]) else Lib.decDigits n.toNat ++ kindS k
end Lex

namespace Gram
open Lex (Tk headT telT)
def litE (k n a : Int) : Exp := .mk 1 0 [] k 0 n 0 [] a
def litN (k n a : Int) : Node := ⟨[102], [], [⟨[122], 2, 0, [], 18⟩], [], [.mk [[122]] (litE k n a) [] 29], 0⟩
theorem dgt_cases {c : UInt8} (h : Lex.digit c = true) : c = 48 ∨ c = 49 ∨ c = 50 ∨ c = 51 ∨ c = 52 ∨ c = 53 ∨ c = 54 ∨ c = 55 ∨ c = 56 ∨ c = 57 := by
  unfold Lex.digit at h
  simp only [Bool.and_eq_true, decide_eq_true_eq] at h
  obtain ⟨n, hn⟩ : ∃ n, n = c.toNat := ⟨_, rfl⟩
  have hc : c = UInt8.ofNat n := by rw [hn]; simp
  rcases (show n = 48 ∨ n = 49 ∨ n = 50 ∨ n = 51 ∨ n = 52 ∨ n = 53 ∨ n = 54 ∨ n = 55 ∨ n = 56 ∨ n = 57 by omega) with e | e | e | e | e | e | e | e | e | e <;> rw [e] at hc <;> subst hc <;> decide
theorem lit_true (p : Nat) : program (headT ++ ([⟨3, [116, 114, 117, 101], 0, 0, 33⟩] ++ telT p)) 440 = .ok [litN 1 1 33] 16 := by kernel_rfl
theorem lit_false (p : Nat) : program (headT ++ ([⟨3, [102, 97, 108, 115, 101], 0, 0, 33⟩] ++ telT p)) 440 = .ok [litN 1 0 33] 16 := by kernel_rfl
theorem lit_pos (k : Int) (hk : k = 2 ∨ k = 3 ∨ k = 4 ∨ k = 5) {c : UInt8} (hc : Lex.digit c = true) (q : List UInt8) (m p : Nat) : program (headT ++ ([⟨2, c :: q, Int.ofNat m, k, 33⟩] ++ telT p)) 440 = .ok [litN k (Int.ofNat m) 33] 16 := by
  rcases hk with rfl | rfl | rfl | rfl <;> rcases dgt_cases hc with rfl | rfl | rfl | rfl | rfl | rfl | rfl | rfl | rfl | rfl <;> kernel_rfl
theorem lit_uns (k : Int) (hk : k = 6 ∨ k = 7 ∨ k = 8 ∨ k = 9) {c : UInt8} (hc : Lex.digit c = true) (q : List UInt8) (N : Int) (p : Nat) : program (headT ++ ([⟨2, c :: q, N, k, 33⟩] ++ telT p)) 440 = .ok [litN k N 33] 16 := by
  rcases hk with rfl | rfl | rfl | rfl <;> rcases dgt_cases hc with rfl | rfl | rfl | rfl | rfl | rfl | rfl | rfl | rfl | rfl <;> kernel_rfl
theorem lit_neg (k : Int) (hk : k = 2 ∨ k = 3 ∨ k = 4 ∨ k = 5) {c : UInt8} (hc : Lex.digit c = true) (q : List UInt8) (N : Int) (o p : Nat) : program (headT ++ ([⟨4, [40], 0, 0, 33⟩, ⟨4, [45], 0, 0, 34⟩, ⟨2, c :: q, N, k, 35⟩, ⟨4, [41], 0, 0, o⟩] ++ telT p)) 500 = .ok [litN k (Bv.wrp k (wrap64 (-N))) 34] 19 := by
  rcases hk with rfl | rfl | rfl | rfl <;> rcases dgt_cases hc with rfl | rfl | rfl | rfl | rfl | rfl | rfl | rfl | rfl | rfl <;> kernel_rfl
end Gram
end Go.Proofs.YtachmiajldeakaaGreatDoor
