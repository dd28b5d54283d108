/- The walks of lex's plain functions isBlank, isInLine, isDigit, isWord and signWidth: each answers as the plain definitions say, whatever the bytes; the world stays as it was. -/
import Derived.Test.YtbiplgidlmbbkaaDoorChecked
import Derived.Test.YtbiplgidlmbbkaaDoorLexM
import Derived.Test.YtbiplgidlmbbkaaDoorBvA
import Derived.WalkKit
import Derived.WalkSpells
import Derived.WalkLawsBesides
import Derived.Deep.Light
namespace Go.Proofs.YtbiplgidlmbbkaaDoor
open Go.RowKit

theorem ret_t {b : Bool} (h : b = true) : Ending.returned (.bool true) = .returned (.bool b) := by rw [h]
theorem ret_f {b : Bool} (h : ¬ b = true) : Ending.returned (.bool false) = .returned (.bool b) := by rw [Bool.not_eq_true] at h; rw [h]
theorem ret_d {b : Bool} {p : Prop} [Decidable p] (h : b = true ↔ p) : Ending.returned (.bool (decide p)) = .returned (.bool b) := by
  have e : b = decide p := by rw [Bool.eq_iff_iff]; rw [h]; exact (decide_eq_true_iff ..).symm
  rw [e]
theorem ret_e {b : Bool} {x y : Int} (h : b = true ↔ x = y) : Ending.returned (.bool (x == y)) = .returned (.bool b) := by
  have e : b = (x == y) := by rw [Bool.eq_iff_iff]; rw [h]; exact beq_iff_eq.symm
  rw [e]
theorem ret_n {b : Bool} {x y : Int} (h : b = true ↔ ¬ x = y) : Ending.returned (.bool (x != y)) = .returned (.bool b) := by
  have e : b = (x != y) := by rw [Bool.eq_iff_iff]; rw [h]; exact bne_iff_ne.symm
  rw [e]
theorem ret_g {a b : Bool} (h : b = true ↔ a = true) : Ending.returned (.bool a) = .returned (.bool b) := by
  have e : b = a := by rw [Bool.eq_iff_iff]; exact h
  rw [e]

theorem blank_iff (c : UInt8) : Lex.blank c = true ↔ c.toNat = 32 ∨ c.toNat = 9 ∨ c.toNat = 10 ∨ c.toNat = 13 := by simp [Lex.blank, or_assoc]
theorem inLine_iff (c : UInt8) : Lex.inLine c = true ↔ ¬ c.toNat = 10 := by simp [Lex.inLine]
theorem digit_iff (c : UInt8) : Lex.digit c = true ↔ 48 ≤ c.toNat ∧ c.toNat ≤ 57 := by simp [Lex.digit]
theorem word_iff (c : UInt8) : Lex.word c = true ↔ c.toNat = 95 ∨ (48 ≤ c.toNat ∧ c.toNat ≤ 57) ∨ (97 ≤ c.toNat ∧ c.toNat ≤ 122) ∨ (65 ≤ c.toNat ∧ c.toNat ≤ 90) := by simp [Lex.word, Lex.digit, or_assoc]

set_option maxHeartbeats 400000 in
theorem lexBlank_any (c : UInt8) (w : World) :
    Calls Tryd.prog 35 #[.int .u8 (c.toNat : Int)] w fun e w' => e = .returned (.bool (Lex.blank c)) ∧ w' = w := by
  obtain ⟨n, hn⟩ : ∃ n : Int, n = (c.toNat : Int) := ⟨_, rfl⟩
  rw [← hn]
  have HN : Hid (n = (c.toNat : Int)) := hn
  clear hn
  by_cases h1 : n = 32
  · go_enter Tryd.func35, Tryd.ntmps35
    go_wp2
    all_goals go_ret
    all_goals (have e := HN.out; first | exact ⟨ret_t (by rw [blank_iff]; omega), rfl⟩ | exact ⟨ret_f (by rw [blank_iff]; omega), rfl⟩ | exact ⟨ret_d (by rw [blank_iff]; omega), rfl⟩ | exact ⟨ret_e (by rw [blank_iff]; omega), rfl⟩ | exact ⟨ret_n (by rw [blank_iff]; omega), rfl⟩ | exact ⟨ret_g (by rw [blank_iff]; simp only [Bool.or_eq_true, beq_iff_eq]; omega), rfl⟩)
  · by_cases h2 : n = 9
    · go_enter Tryd.func35, Tryd.ntmps35
      go_wp2
      all_goals go_ret
      all_goals (have e := HN.out; first | exact ⟨ret_t (by rw [blank_iff]; omega), rfl⟩ | exact ⟨ret_f (by rw [blank_iff]; omega), rfl⟩ | exact ⟨ret_d (by rw [blank_iff]; omega), rfl⟩ | exact ⟨ret_e (by rw [blank_iff]; omega), rfl⟩ | exact ⟨ret_n (by rw [blank_iff]; omega), rfl⟩ | exact ⟨ret_g (by rw [blank_iff]; simp only [Bool.or_eq_true, beq_iff_eq]; omega), rfl⟩)
    · by_cases h3 : n = 10
      · go_enter Tryd.func35, Tryd.ntmps35
        go_wp2
        all_goals go_ret
        all_goals (have e := HN.out; first | exact ⟨ret_t (by rw [blank_iff]; omega), rfl⟩ | exact ⟨ret_f (by rw [blank_iff]; omega), rfl⟩ | exact ⟨ret_d (by rw [blank_iff]; omega), rfl⟩ | exact ⟨ret_e (by rw [blank_iff]; omega), rfl⟩ | exact ⟨ret_n (by rw [blank_iff]; omega), rfl⟩ | exact ⟨ret_g (by rw [blank_iff]; simp only [Bool.or_eq_true, beq_iff_eq]; omega), rfl⟩)
      · go_enter Tryd.func35, Tryd.ntmps35
        go_wp2
        all_goals go_ret
        all_goals (have e := HN.out; first | exact ⟨ret_t (by rw [blank_iff]; omega), rfl⟩ | exact ⟨ret_f (by rw [blank_iff]; omega), rfl⟩ | exact ⟨ret_d (by rw [blank_iff]; omega), rfl⟩ | exact ⟨ret_e (by rw [blank_iff]; omega), rfl⟩ | exact ⟨ret_n (by rw [blank_iff]; omega), rfl⟩ | exact ⟨ret_g (by rw [blank_iff]; simp only [Bool.or_eq_true, beq_iff_eq]; omega), rfl⟩)

set_option maxHeartbeats 400000 in
theorem lexInLine_any (c : UInt8) (w : World) :
    Calls Tryd.prog 38 #[.int .u8 (c.toNat : Int)] w fun e w' => e = .returned (.bool (Lex.inLine c)) ∧ w' = w := by
  obtain ⟨n, hn⟩ : ∃ n : Int, n = (c.toNat : Int) := ⟨_, rfl⟩
  rw [← hn]
  have HN : Hid (n = (c.toNat : Int)) := hn
  clear hn
  go_enter Tryd.func38, Tryd.ntmps38
  go_wp2
  all_goals go_ret
  all_goals (have e := HN.out; first | exact ⟨ret_t (by rw [inLine_iff]; omega), rfl⟩ | exact ⟨ret_f (by rw [inLine_iff]; omega), rfl⟩ | exact ⟨ret_d (by rw [inLine_iff]; omega), rfl⟩ | exact ⟨ret_e (by rw [inLine_iff]; omega), rfl⟩ | exact ⟨ret_n (by rw [inLine_iff]; omega), rfl⟩ | exact ⟨ret_g (by rw [inLine_iff]; simp only [Bool.or_eq_true, beq_iff_eq, decide_eq_true_eq]; omega), rfl⟩)

set_option maxHeartbeats 400000 in
theorem lexDigit_any (c : UInt8) (w : World) :
    Calls Tryd.prog 40 #[.int .u8 (c.toNat : Int)] w fun e w' => e = .returned (.bool (Lex.digit c)) ∧ w' = w := by
  obtain ⟨n, hn⟩ : ∃ n : Int, n = (c.toNat : Int) := ⟨_, rfl⟩
  rw [← hn]
  have HN : Hid (n = (c.toNat : Int)) := hn
  clear hn
  by_cases h1 : 48 ≤ n
  · go_enter Tryd.func40, Tryd.ntmps40
    go_wp2
    all_goals go_ret
    all_goals (have e := HN.out; first | exact ⟨ret_t (by rw [digit_iff]; omega), rfl⟩ | exact ⟨ret_f (by rw [digit_iff]; omega), rfl⟩ | exact ⟨ret_d (by rw [digit_iff]; omega), rfl⟩ | exact ⟨ret_e (by rw [digit_iff]; omega), rfl⟩ | exact ⟨ret_n (by rw [digit_iff]; omega), rfl⟩ | exact ⟨ret_g (by rw [digit_iff]; simp only [Bool.or_eq_true, beq_iff_eq, decide_eq_true_eq]; omega), rfl⟩)
  · go_enter Tryd.func40, Tryd.ntmps40
    go_wp2
    all_goals go_ret
    all_goals (have e := HN.out; first | exact ⟨ret_t (by rw [digit_iff]; omega), rfl⟩ | exact ⟨ret_f (by rw [digit_iff]; omega), rfl⟩ | exact ⟨ret_d (by rw [digit_iff]; omega), rfl⟩ | exact ⟨ret_e (by rw [digit_iff]; omega), rfl⟩ | exact ⟨ret_n (by rw [digit_iff]; omega), rfl⟩ | exact ⟨ret_g (by rw [digit_iff]; simp only [Bool.or_eq_true, beq_iff_eq, decide_eq_true_eq]; omega), rfl⟩)

set_option maxHeartbeats 400000 in
theorem lexWord_any (c : UInt8) (w : World) :
    Calls Tryd.prog 42 #[.int .u8 (c.toNat : Int)] w fun e w' => e = .returned (.bool (Lex.word c)) ∧ w' = w := by
  obtain ⟨n, hn⟩ : ∃ n : Int, n = (c.toNat : Int) := ⟨_, rfl⟩
  rw [← hn]
  have HN : Hid (n = (c.toNat : Int)) := hn
  have hd : ∀ wx, Calls Tryd.prog 40 #[.int .u8 n] wx fun e w' => e = .returned (.bool (decide (48 ≤ n ∧ n ≤ 57))) ∧ w' = wx := by
    intro wx
    have h0 := lexDigit_any c wx
    rw [← hn] at h0
    have e0 : Lex.digit c = decide (48 ≤ n ∧ n ≤ 57) := by
      rw [Bool.eq_iff_iff, digit_iff, decide_eq_true_iff]; omega
    rw [e0] at h0
    exact h0
  clear hn
  by_cases h1 : n = 95
  · go_enter Tryd.func42, Tryd.ntmps42
    go_wp2_with (go_at_call 40; refine (hd _).mono ?_; rintro e w' ⟨rfl, rfl⟩)
    all_goals go_ret
    all_goals (have e := HN.out; first | exact ⟨ret_t (by rw [word_iff]; omega), rfl⟩ | exact ⟨ret_f (by rw [word_iff]; omega), rfl⟩ | exact ⟨ret_d (by rw [word_iff]; omega), rfl⟩ | exact ⟨ret_e (by rw [word_iff]; omega), rfl⟩ | exact ⟨ret_n (by rw [word_iff]; omega), rfl⟩ | exact ⟨ret_g (by rw [word_iff]; simp only [Bool.or_eq_true, beq_iff_eq, decide_eq_true_eq]; omega), rfl⟩)
  · by_cases h2 : 48 ≤ n ∧ n ≤ 57
    · go_enter Tryd.func42, Tryd.ntmps42
      go_wp2_with (go_at_call 40; refine (hd _).mono ?_; rintro e w' ⟨rfl, rfl⟩)
      all_goals go_ret
      all_goals (have e := HN.out; first | exact ⟨ret_t (by rw [word_iff]; omega), rfl⟩ | exact ⟨ret_f (by rw [word_iff]; omega), rfl⟩ | exact ⟨ret_d (by rw [word_iff]; omega), rfl⟩ | exact ⟨ret_e (by rw [word_iff]; omega), rfl⟩ | exact ⟨ret_n (by rw [word_iff]; omega), rfl⟩ | exact ⟨ret_g (by rw [word_iff]; simp only [Bool.or_eq_true, beq_iff_eq, decide_eq_true_eq]; omega), rfl⟩)
    · by_cases h3 : 97 ≤ n
      · go_enter Tryd.func42, Tryd.ntmps42
        go_wp2_with (go_at_call 40; refine (hd _).mono ?_; rintro e w' ⟨rfl, rfl⟩)
        all_goals go_ret
        all_goals (have e := HN.out; first | exact ⟨ret_t (by rw [word_iff]; omega), rfl⟩ | exact ⟨ret_f (by rw [word_iff]; omega), rfl⟩ | exact ⟨ret_d (by rw [word_iff]; omega), rfl⟩ | exact ⟨ret_e (by rw [word_iff]; omega), rfl⟩ | exact ⟨ret_n (by rw [word_iff]; omega), rfl⟩ | exact ⟨ret_g (by rw [word_iff]; simp only [Bool.or_eq_true, beq_iff_eq, decide_eq_true_eq]; omega), rfl⟩)
      · go_enter Tryd.func42, Tryd.ntmps42
        go_wp2_with (go_at_call 40; refine (hd _).mono ?_; rintro e w' ⟨rfl, rfl⟩)
        all_goals go_ret
        all_goals (have e := HN.out; first | exact ⟨ret_t (by rw [word_iff]; omega), rfl⟩ | exact ⟨ret_f (by rw [word_iff]; omega), rfl⟩ | exact ⟨ret_d (by rw [word_iff]; omega), rfl⟩ | exact ⟨ret_e (by rw [word_iff]; omega), rfl⟩ | exact ⟨ret_n (by rw [word_iff]; omega), rfl⟩ | exact ⟨ret_g (by rw [word_iff]; simp only [Bool.or_eq_true, beq_iff_eq, decide_eq_true_eq]; omega), rfl⟩)

set_option maxHeartbeats 800000 in
theorem lexSignWidth_any (c d : Nat) (w : World) :
    Calls Tryd.prog 48 #[.int .u8 (c : Int), .int .u8 (d : Int)] w fun e w' => e = .returned (.int .i64 (Lex.signW c d)) ∧ w' = w := by
  obtain ⟨n, hn⟩ : ∃ n : Int, n = (c : Int) := ⟨_, rfl⟩
  obtain ⟨m, hm⟩ : ∃ m : Int, m = (d : Int) := ⟨_, rfl⟩
  rw [← hn, ← hm]
  have HN : Hid (n = (c : Int) ∧ m = (d : Int)) := ⟨hn, hm⟩
  clear hn hm
  go_enter Tryd.func48, Tryd.ntmps48
  go_wp2
  all_goals go_ret
  all_goals go_light
  all_goals refine ⟨ret_int ?_, rfl⟩
  all_goals have e := HN.out
  all_goals clear HN
  all_goals simp only [beq_iff_eq, beq_eq_false_iff_ne, ne_eq] at *
  all_goals (unfold Lex.signW; repeat' split)
  all_goals omega

end Go.Proofs.YtbiplgidlmbbkaaDoor
