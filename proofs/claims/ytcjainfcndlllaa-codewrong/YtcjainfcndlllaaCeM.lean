/- Stage 19: the walk of CodeWrong (written by mkceh.py). -/
import Derived.Test.YtcjainfcndlllaaCeH
import Derived.Test.YtcjainfcndlllaaCeI
import Derived.Test.YtcjainfcndlllaaCeJ
import Derived.Test.YtcjainfcndlllaaCeK
import Derived.Test.YtcjainfcndlllaaCeL
namespace Go.Proofs.Ytcjainfcndlllaa
open Go.RowKit Go.Maps Go.WideMaps

set_option maxHeartbeats 4000000 in
theorem cw_out (hC : CCheck) (hWr : CWrite) (n : Int) (h : n < 0 ∨ 22 ≤ n) (w : World) : Calls Try.prog 5 #[.int .i64 n] w fun e w' => e = .returned (.bool true) ∧ w.grownBy w' none := by
  have hal := alive19_any hC hWr w
  rcases Classical.em (n < 0) with a1 | a1
  · have d1 : decide (n < 0) = true := by rw [decide_eq_true_iff]; exact a1
    go_enter Try.func5, Try.ntmps5
    go_wp2_with (go_at_call 8; refine hal.mono ?_; rintro e w1 ⟨rfl, hg1⟩)
    go_ret
    exact ⟨rfl, hg1.trans (World.grownBy_alloc w1 _ none)⟩
  · have d1 : decide (n < 0) = false := by rw [decide_eq_false_iff_not]; exact a1
    have d2 : decide (22 ≤ n) = true := by rw [decide_eq_true_iff]; omega
    go_enter Try.func5, Try.ntmps5
    go_wp2_with (go_at_call 8; refine hal.mono ?_; rintro e w1 ⟨rfl, hg1⟩)
    go_ret
    exact ⟨rfl, hg1.trans (World.grownBy_alloc w1 _ none)⟩
theorem codeWrong_walk (hC : CCheck) (hWr : CWrite) (n : Int) (w : World) : Calls Try.prog 5 #[.int .i64 n] w fun e w' => e = .returned (.bool true) ∧ w.grownBy w' none := by
  by_cases h : n < 0 ∨ 22 ≤ n
  · exact cw_out hC hWr n h w
  obtain ⟨k, rfl⟩ : ∃ k : Nat, n = (k : Int) := ⟨n.toNat, by omega⟩
  have hk : k < 22 := by omega
  clear h
  match k, hk with
  | 0, _ => exact cw_0 hC hWr w
  | 1, _ => exact cw_1 hC hWr w
  | 2, _ => exact cw_2 hC hWr w
  | 3, _ => exact cw_3 hC hWr w
  | 4, _ => exact cw_4 hC hWr w
  | 5, _ => exact cw_5 hC hWr w
  | 6, _ => exact cw_6 hC hWr w
  | 7, _ => exact cw_7 hC hWr w
  | 8, _ => exact cw_8 hC hWr w
  | 9, _ => exact cw_9 hC hWr w
  | 10, _ => exact cw_10 hC hWr w
  | 11, _ => exact cw_11 hC hWr w
  | 12, _ => exact cw_12 hC hWr w
  | 13, _ => exact cw_13 hC hWr w
  | 14, _ => exact cw_14 hC hWr w
  | 15, _ => exact cw_15 hC hWr w
  | 16, _ => exact cw_16 hC hWr w
  | 17, _ => exact cw_17 hC hWr w
  | 18, _ => exact cw_18 hC hWr w
  | 19, _ => exact cw_19 hC hWr w
  | 20, _ => exact cw_20 hC hWr w
  | 21, _ => exact cw_21 hC hWr w
  | j + 22, hk => exact absurd hk (by omega)

end Go.Proofs.Ytcjainfcndlllaa
