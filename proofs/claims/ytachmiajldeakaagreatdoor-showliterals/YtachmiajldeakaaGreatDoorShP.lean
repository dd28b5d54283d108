/- The plain mathematics of printed literals: the text that a value of a kind is printed as, its tokens, and what the grammar reads there. -/
import Derived.Test.YtachmiajldeakaaGreatDoorGwB
import Derived.Test.YtachmiajldeakaaGreatDoorGuE
import Derived.Lib.ItoaNum
namespace Go.Proofs.YtachmiajldeakaaGreatDoor
open Go.RowKit

namespace Lex
/-- the words of the kinds -/
def kindS (k : Int) : List UInt8 := if k = 2 then [105, 56] else if k = 3 then [105, 49, 54] else if k = 4 then [105, 51, 50] else if k = 5 then [105, 54, 52] else if k = 6 then [117, 56] else if k = 7 then [117, 49, 54] else if k = 8 then [117, 51, 50] else [117, 54, 52]
theorem kinds_of (k : Int) (h2 : 2 ≤ k) (h9 : k ≤ 9) : k = 2 ∨ k = 3 ∨ k = 4 ∨ k = 5 ∨ k = 6 ∨ k = 7 ∨ k = 8 ∨ k = 9 := by omega
def kindF (k : Int) : Bool := (match kindS k with | [] => false | c :: _ => !digit c && word c) && (kindS k).all word && (kindOf (kindS k) == k) && decide ((kindS k).length ≤ 3)
theorem kindF_all (k : Int) (h2 : 2 ≤ k) (h9 : k ≤ 9) : kindF k = true := by
  rcases kinds_of k h2 h9 with rfl | rfl | rfl | rfl | rfl | rfl | rfl | rfl <;> kernel_rfl
theorem spnA (p : UInt8 → Bool) (l m : List UInt8) (h : ∀ c ∈ l, p c = true) : spn p (l ++ m) = l.length + spn p m := by
  unfold spn
  rw [List.takeWhile_append_of_pos h, List.length_append]
theorem spnN (p : UInt8 → Bool) {m : List UInt8} (h : ∀ c r, m = c :: r → p c = false) : spn p m = 0 := by
  cases m with
  | nil => rfl
  | cons c r => unfold spn; rw [List.takeWhile_cons, if_neg (by simp [h c r rfl])]; rfl
/-- a number with its kind behind, and a bracket or a semicolon behind that -/
theorem tks_lit (k : Int) (h2 : 2 ≤ k) (h9 : k ≤ 9) (l : List UInt8) (hd : ∀ c ∈ l, digit c = true) (hne : l ≠ []) (hlen : l.length ≤ 20) (htop : (numVal l : Int) ≤ top k) {x : UInt8} (hx : brk x) (r : List UInt8) (a room : Nat) (hr : room ≠ 0) :
    tks (l ++ kindS k ++ x :: r) a room = (tks (x :: r) (a + (l ++ kindS k).length) (room - 1)).pre ⟨2, l ++ kindS k, Bv.wrp k (wrap64 (numVal l)), k, a⟩ := by
  have hf := kindF_all k h2 h9
  simp only [kindF, Bool.and_eq_true, decide_eq_true_eq] at hf
  obtain ⟨⟨⟨f1, f2⟩, f3⟩, f4⟩ := hf
  rw [beq_iff_eq] at f3
  have s1 : spn digit (l ++ kindS k) = l.length := by
    rw [spnA _ _ _ hd, spnN]
    · rfl
    · intro c r e
      rw [e] at f1
      simp only [Bool.and_eq_true, Bool.not_eq_true'] at f1
      exact f1.1
  have s2 : spn word (kindS k) = (kindS k).length := by
    have := spnA word (kindS k) [] (fun c hc => List.all_eq_true.1 f2 c hc)
    rw [List.append_nil] at this
    rw [this]; rfl
  have hk0 : ¬ (kindS k).length = 0 := by
    intro hh
    have : kindS k = [] := List.eq_nil_of_length_eq_zero hh
    rw [this] at f1
    cases f1
  cases l with
  | nil => exact absurd rfl hne
  | cons c q =>
    have hc := hd c (by simp)
    have ht : tokAt (c :: (q ++ kindS k)) = .tok 2 (Bv.wrp k (wrap64 (numVal (c :: q)))) k ((c :: q).length + (kindS k).length) := by
      have e1 : tokAt (c :: (q ++ kindS k)) = numTok (c :: q ++ kindS k) := by
        unfold tokAt
        dsimp only
        rw [if_pos hc]
        rfl
      rw [e1]
      unfold numTok
      dsimp only
      rw [s1, List.drop_left, List.take_left, s2, List.take_length, if_neg hk0, f3, if_pos]
      unfold kindOk
      rw [decide_eq_true hlen, decide_eq_true h2, decide_eq_true htop]
      rfl
    have hb : skp false (c :: q ++ kindS k ++ x :: r) = 0 := by
      rw [List.cons_append, List.cons_append, skp, if_neg ?_, if_neg ?_]
      · intro h
        have : c.toNat = 45 := h.1
        unfold digit at hc
        simp at hc
        omega
      · intro h
        unfold blank at h
        unfold digit at hc
        simp at hc h
        omega
    have e := tks_step (l := c :: q ++ kindS k ++ x :: r) (r := x :: r) (kd := 2) (n := Bv.wrp k (wrap64 (numVal (c :: q)))) (t := k) (len := (c :: q).length + (kindS k).length) (a := a) (room := room) (by
      rw [hb, List.drop_zero]
      have := brk_tok c (q ++ kindS k) hx r
      rw [ht] at this
      simpa using this) (by decide) hr (by
        rw [hb, List.drop_zero, ← List.length_append]
        exact List.drop_left)
    rw [hb, List.drop_zero, Nat.add_zero, ← List.length_append] at e
    rw [e, List.take_left]
/-- a minus ahead of a digit -/
theorem tks_minus {c : UInt8} (hc : digit c = true) (r : List UInt8) (a room : Nat) (hr : room ≠ 0) : tks (45 :: c :: r) a room = (tks (c :: r) (a + 1) (room - 1)).pre ⟨4, [45], 0, 0, a⟩ := by
  unfold digit at hc
  simp at hc
  have h0 : skp false (45 :: c :: r) = 0 := by
    rw [skp, if_neg (by decide), if_neg]
    rintro ⟨_, h⟩
    simp at h
    omega
  have h1 : tokAt ((45 :: c :: r).drop (skp false (45 :: c :: r))) = .tok 4 0 0 1 := by
    rw [h0, List.drop_zero]
    show (if digit 45 then numTok (45 :: c :: r) else if word 45 then nameTok (45 :: c :: r) else signTok (45 :: c :: r)) = _
    rw [if_neg (by decide), if_neg (by decide)]
    unfold signTok
    have hp : signW (pk (45 :: c :: r) 0) (pk (45 :: c :: r) 1) = 1 := by
      show signW 45 c.toNat = 1
      unfold signW
      simp
      omega
    simp only [hp]
    rfl
  have e := tks_step (a := a) (room := room) h1 (by decide) hr (r := c :: r) (by rw [h0]; rfl)
  rw [h0] at e
  exact e
end Lex
end Go.Proofs.YtachmiajldeakaaGreatDoor
