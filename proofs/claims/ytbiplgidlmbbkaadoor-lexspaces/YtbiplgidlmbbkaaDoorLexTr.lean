/- How a token of a list lies in memory. -/
import Derived.Test.YtbiplgidlmbbkaaDoorLexH
namespace Go.Proofs.YtbiplgidlmbbkaaDoor
open Go.RowKit

theorem row_len (l : List Lex.Tk) : (Lex.row l).length = 6 * l.length := by
  induction l with
  | nil => rfl
  | cons x r ih => simp only [Lex.row, List.flatMap_cons, List.length_append, List.length_cons] at ih ⊢; rw [ih]; simp [Lex.cells]; omega
theorem row_at (l : List Lex.Tk) (t : Nat) (h : t < l.length) (j : Nat) (hj : j < 6) : (Lex.row l)[t * 6 + j]? = (Lex.cells l[t])[j]? := by
  induction l generalizing t with
  | nil => simp at h
  | cons x r ih =>
    cases t with
    | zero =>
      simp only [Lex.row, List.flatMap_cons, Nat.zero_mul, Nat.zero_add, List.getElem_cons_zero]
      rw [List.getElem?_append_left (by simpa [Lex.cells] using hj)]
    | succ t =>
      simp only [Lex.row, List.flatMap_cons, List.getElem_cons_succ] at ih ⊢
      rw [List.getElem?_append_right (by simp [Lex.cells]; omega)]
      rw [← ih t (by simpa using h)]
      congr 1
      simp [Lex.cells]; omega

end Go.Proofs.YtbiplgidlmbbkaaDoor
