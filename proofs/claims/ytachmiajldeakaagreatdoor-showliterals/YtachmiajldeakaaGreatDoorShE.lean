/- show's printer: literals. -/
import Derived.Test.YtachmiajldeakaaGreatDoorShC
namespace Go.Proofs.YtachmiajldeakaaGreatDoor
open Go.RowKit

/-- an expression's nine cells: a literal -/
def litV (k n a : Int) (ka : Option Addr) (kn kc : Nat) : Value := .agg #[.int .i64 1, .int .i64 0, .string ⟨#[]⟩, .int .i64 k, .int .i64 0, .int .i64 n, .int .i64 0, .slice ka kn kc, .int .i64 a]
def litC (k n a : Int) (ka : Option Addr) (kn kc : Nat) : Obj := .cells #[.int .i64 1, .int .i64 0, .string ⟨#[]⟩, .int .i64 k, .int .i64 0, .int .i64 n, .int .i64 0, .slice ka kn kc, .int .i64 a] 28

set_option maxHeartbeats 1000000 in
theorem isBare_lit (k n a : Int) (ka : Option Addr) (kn kc : Nat) (w : World) : Calls Tryz.prog 89 #[litV k n a ka kn kc] w fun e w' => e = .returned (.bool (decide (k ≠ 1 ∧ (0 ≤ n ∨ k = 9)))) ∧ w.grownBy w' none := by
  unfold litV
  by_cases h1 : k = 1
  · subst h1
    go_enter Tryz.func89, Tryz.ntmps89
    go_wp2
    go_ret
    exact ⟨by simp, World.grownBy_alloc w _ none⟩
  · have e1 : (k == 1) = false := by rw [beq_eq_false_iff_ne]; exact h1
    by_cases h0 : 0 ≤ n
    · have d0 : decide ((0 : Int) ≤ n) = true := by rw [decide_eq_true_iff]; exact h0
      go_enter Tryz.func89, Tryz.ntmps89
      go_wp2
      go_ret
      exact ⟨by simp [h1, h0], World.grownBy_alloc w _ none⟩
    · have d0 : decide ((0 : Int) ≤ n) = false := by rw [decide_eq_false_iff_not]; exact h0
      by_cases h9 : k = 9
      · subst h9
        go_enter Tryz.func89, Tryz.ntmps89
        go_wp2
        go_ret
        exact ⟨by simp, World.grownBy_alloc w _ none⟩
      · have e9 : (k == 9) = false := by rw [beq_eq_false_iff_ne]; exact h9
        go_enter Tryz.func89, Tryz.ntmps89
        go_wp2
        go_ret
        exact ⟨rfl, World.grownBy_alloc w _ none⟩


/-- a literal's text -/
theorem litL_bare (k n : Int) (h1 : k ≠ 1) (h : 0 ≤ n ∨ k = 9) : Lex.litL k n = digL k n ++ Lex.kindS k := by
  unfold Lex.litL digL
  rw [if_neg h1]
  by_cases h9 : k = 9
  · subst h9; rfl
  · rw [if_neg h9, if_neg h9, if_neg (by omega)]
    unfold Lib.itoa
    rw [if_neg (by omega)]
theorem litL_neg (k n : Int) (h1 : k ≠ 1) (h : ¬ (0 ≤ n ∨ k = 9)) : Lex.litL k n = 40 :: (digL k n ++ Lex.kindS k ++ [41]) := by
  have h0 : n < 0 := by omega
  have h9 : ¬ k = 9 := by omega
  unfold Lex.litL digL
  rw [if_neg h1, if_neg h9, if_pos h0, if_neg h9]
  unfold Lib.itoa
  rw [if_pos h0]
  rfl
theorem kindS_len (k : Int) (h2 : 2 ≤ k) (h9 : k ≤ 9) : (Lex.kindS k).length ≤ 3 := by
  have hf := Lex.kindF_all k h2 h9
  simp only [Lex.kindF, Bool.and_eq_true, decide_eq_true_eq] at hf
  exact hf.2
theorem digL_len (k n : Int) (i1 : -9223372036854775808 ≤ n) (i2 : n ≤ 9223372036854775807) : (digL k n).length ≤ 21 := by
  unfold digL
  split
  · have := Lex.dec_len20 (if 0 ≤ n then n.toNat else (n + 18446744073709551616).toNat) (by split <;> omega)
    omega
  · unfold Lib.itoa
    split
    · have := Lex.dec_len20 n.natAbs (by omega)
      simp only [List.length_cons]
      omega
    · have := Lex.dec_len20 n.toNat (by omega)
      omega
theorem litL_len (k n : Int) (h2 : 2 ≤ k) (h9 : k ≤ 9) (i1 : -9223372036854775808 ≤ n) (i2 : n ≤ 9223372036854775807) (hb : 0 ≤ n ∨ k = 9) : Lex.litL k n = tx [⟨(digL k n).toArray⟩, ⟨(Lex.kindS k).toArray⟩] ∧ (Lex.litL k n).length ≤ 30 := by
  have e := litL_bare k n (by omega) hb
  have d1 := digL_len k n i1 i2
  have d2 := kindS_len k h2 h9
  exact ⟨by rw [e]; simp [tx], by rw [e, List.length_append]; omega⟩
theorem litL_lenN (k n : Int) (h2 : 2 ≤ k) (h9 : k ≤ 9) (i1 : -9223372036854775808 ≤ n) (i2 : n ≤ 9223372036854775807) (hb : ¬ (0 ≤ n ∨ k = 9)) : Lex.litL k n = tx [⟨#[40]⟩, ⟨(digL k n).toArray⟩, ⟨(Lex.kindS k).toArray⟩, ⟨#[41]⟩] ∧ (Lex.litL k n).length ≤ 30 := by
  have e := litL_neg k n (by omega) hb
  have d1 := digL_len k n i1 i2
  have d2 := kindS_len k h2 h9
  exact ⟨by rw [e]; simp [tx], by rw [e]; simp only [List.length_cons, List.length_append, List.length_nil]; omega⟩

end Go.Proofs.YtachmiajldeakaaGreatDoor
