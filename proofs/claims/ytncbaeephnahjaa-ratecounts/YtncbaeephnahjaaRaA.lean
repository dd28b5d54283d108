/- rate's queue in memory; its small methods. -/
import Derived.Test.YtncbaeephnahjaaRaW
namespace Go.Proofs.Ytncbaeephnahjaa
open Go.RowKit Go.Maps Go.WideMaps Go.Shelf
open Rat (at_)

theorem m_load (w : World) (b : Nat) (v : Value) (h : w.heap[b]? = some (.cells #[v] 58 (0, 0))) : (loadVar 58 ⟨b, 0, none⟩).run Try.prog w = .ok v w := by
  have hc := cell_of_row w b 0 _ _ _ h
  simp [go_sem, hc]
theorem m_run (w : World) (b : Nat) : (Go.method 189 60 (.pointer (some ⟨b, 0, none⟩)) "Len").run Try.prog w = (do let v ← loadVar 58 ⟨b, 0, none⟩; pure (44, v) : Sem (FuncId × Value)).run Try.prog w := by kernel_rfl
theorem m_len (w : World) (b : Nat) (v : Value) (h : w.heap[b]? = some (.cells #[v] 58 (0, 0))) : (Go.method 189 60 (.pointer (some ⟨b, 0, none⟩)) "Len").run Try.prog w = .ok (44, v) w := by
  rw [m_run, Sem.run_bind, m_load w b v h]
  rfl
theorem m_run2 (w : World) (b : Nat) : (Go.method 189 60 (.pointer (some ⟨b, 0, none⟩)) "Less").run Try.prog w = (do let v ← loadVar 58 ⟨b, 0, none⟩; pure (45, v) : Sem (FuncId × Value)).run Try.prog w := by kernel_rfl
theorem m_less (w : World) (b : Nat) (v : Value) (h : w.heap[b]? = some (.cells #[v] 58 (0, 0))) : (Go.method 189 60 (.pointer (some ⟨b, 0, none⟩)) "Less").run Try.prog w = .ok (45, v) w := by
  rw [m_run2, Sem.run_bind, m_load w b v h]
  rfl
theorem m_run3 (w : World) (b : Nat) : (Go.method 189 60 (.pointer (some ⟨b, 0, none⟩)) "Swap").run Try.prog w = (do let v ← loadVar 58 ⟨b, 0, none⟩; pure (46, v) : Sem (FuncId × Value)).run Try.prog w := by kernel_rfl
theorem m_swap (w : World) (b : Nat) (v : Value) (h : w.heap[b]? = some (.cells #[v] 58 (0, 0))) : (Go.method 189 60 (.pointer (some ⟨b, 0, none⟩)) "Swap").run Try.prog w = .ok (46, v) w := by
  rw [m_run3, Sem.run_bind, m_load w b v h]
  rfl
theorem m_push (w : World) (p : Value) : (Go.method 189 60 p "Push").run Try.prog w = .ok (51, p) w := by kernel_rfl
theorem m_pop (w : World) (p : Value) : (Go.method 189 60 p "Pop").run Try.prog w = .ok (50, p) w := by kernel_rfl

theorem qlen_any (a : Option Addr) (n c : Nat) (w : World) (_hn : n ≤ 1000000) : Calls Try.prog 44 #[.slice a n c] w fun e w' => e = .returned (.int .i64 (n : Int)) ∧ w' = w := by
  go_enter Try.func44, Try.ntmps44
  go_wp2
  go_ret
  exact ⟨rfl, rfl⟩

theorem nan_any (x : Int) (w : World) : Calls Try.prog 49 #[.int .i64 x] w fun e w' => e = .returned (.bool false) ∧ w' = w := by
  go_enter Try.func49, Try.ntmps49
  go_wp2
  go_ret
  exact ⟨by simp, rfl⟩

def cmpI (x y : Int) : Int := if x < y then -1 else if y < x then 1 else 0
theorem compare_any (x y : Int) (w : World) : Calls Try.prog 48 #[.int .i64 x, .int .i64 y] w fun e w' => e = .returned (.int .i64 (cmpI x y)) ∧ w' = w := by
  have hx := nan_any x
  have hy := nan_any y
  by_cases h1 : x < y
  · have e : cmpI x y = -1 := by simp [cmpI, h1]
    rw [e]
    clear e
    go_enter Try.func48, Try.ntmps48
    go_wp2_with (go_at_call 49; first | (refine (hx _).mono ?_; rintro e w2 ⟨rfl, rfl⟩) | (refine (hy _).mono ?_; rintro e w2 ⟨rfl, rfl⟩))
    go_ret
    exact ⟨rfl, rfl⟩
  · by_cases h2 : y < x
    · have e : cmpI x y = 1 := by simp [cmpI, h1, h2]
      rw [e]
      clear e
      go_enter Try.func48, Try.ntmps48
      go_wp2_with (go_at_call 49; first | (refine (hx _).mono ?_; rintro e w2 ⟨rfl, rfl⟩) | (refine (hy _).mono ?_; rintro e w2 ⟨rfl, rfl⟩))
      go_ret
      exact ⟨rfl, rfl⟩
    · have e : cmpI x y = 0 := by simp [cmpI, h1, h2]
      rw [e]
      clear e
      go_enter Try.func48, Try.ntmps48
      go_wp2_with (go_at_call 49; first | (refine (hx _).mono ?_; rintro e w2 ⟨rfl, rfl⟩) | (refine (hy _).mono ?_; rintro e w2 ⟨rfl, rfl⟩))
      go_ret
      exact ⟨rfl, rfl⟩

def orI (x y : Int) : Int := if x = 0 then y else x
theorem or_any (x y : Int) (g : Nat) (w : World) (h : w.heap[g]? = some (.cells #[.int .i64 x, .int .i64 y] 3 (0, 0))) : Calls Try.prog 47 #[.slice (some ⟨g, 0, none⟩) 2 2] w fun e w' => e = .returned (.int .i64 (orI x y)) ∧ w' = w := by
  unfold orI
  have c0 := cell_of_row w g 0 _ _ _ h
  have c1 := cell_of_row w g 1 _ _ _ h
  by_cases h1 : x = 0
  · rw [if_pos h1]
    subst h1
    by_cases h2 : y = 0
    · subst h2
      go_enter Try.func47, Try.ntmps47
      go_wp2
      go_rounds 3
      all_goals (try go_ret)
      all_goals exact ⟨rfl, rfl⟩
    · have h3 : (y == 0) = false := by simpa using h2
      go_enter Try.func47, Try.ntmps47
      go_wp2
      go_rounds 3
      all_goals (try go_ret)
      all_goals exact ⟨rfl, rfl⟩
  · rw [if_neg h1]
    have h3 : (x == 0) = false := by simpa using h1
    go_enter Try.func47, Try.ntmps47
    go_wp2
    go_rounds 3
    all_goals (try go_ret)
    all_goals exact ⟨rfl, rfl⟩
end Go.Proofs.Ytncbaeephnahjaa
