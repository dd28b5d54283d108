/- NamesTwice's walk, text by text (written by mknlaw.py). -/
import Derived.Test.YtonafedbehnneaaGreatRqT
namespace Go.Proofs.YtonafedbehnneaaGreat
open Go.RowKit Go.Maps Go.WideMaps

set_option maxHeartbeats 1600000 in
theorem nt_out (n : Int) (w : World) (hn : n < 0 ∨ 8 ≤ n) : Calls Tryz.prog 4 #[.int .i64 n] w fun e w' => e = .returned (.bool true) ∧ w.grownBy w' none := by
 have hal := alive5_any w
 go_enter Tryz.func4, Tryz.ntmps4
 go_wp2_with (go_at_call 8; refine hal.mono ?_; rintro e w1 ⟨rfl, hg1⟩; refine Hid.out ?_)
 clear hal
 have HG := Lib.hid hg1
 clear hg1
 refine Lib.hid ?_
 rcases hn with hn | hn
 ·go_wp2
  go_ret
  exact ⟨rfl, galloc (galloc HG.out _) _⟩
 ·have h0 : ¬ n < 0 := by omega
  go_wp2
  go_ret
  exact ⟨rfl, galloc (galloc HG.out _) _⟩

set_option maxHeartbeats 1600000 in
theorem nt_0 (w : World) : Calls Tryz.prog 4 #[.int .i64 0] w fun e w' => e = .returned (.bool true) ∧ w.grownBy w' none := by
 have hal := alive5_any w
 go_enter Tryz.func4, Tryz.ntmps4
 go_wp2_with (go_at_call 8; refine hal.mono ?_; rintro e w1 ⟨rfl, hg1⟩; refine Hid.out ?_)
 clear hal
 have HG := Lib.hid hg1
 clear hg1
 refine Lib.hid ?_
 go_wp2_with (go_at_call 9; refine (prog5_law (x := (14, 20)) (by decide +kernel) (by kernel_rfl) _).mono ?_; rintro e w2 ⟨l, a, L, c, rfl, hx, hk, hg2⟩; refine Hid.out ?_)
 have hga := World.grownBy_alloc w2 (.cells #[.slice a L c] 25 (0, 0)) none
 have q1 := cell_of_row _ _ 0 _ _ _ (heap_alloc_new w2 (.cells #[.slice a L c] 25 (0, 0)))
 have hc := hga.cell (hg2.cell ((two_rows _ _ _ _ _ 0).trans rfl) (by simp)) (by simp)
 have HG2 := Lib.hid (And.intro (RepC.kept hga (fun k e => by cases e) hk) ((galloc (galloc HG.out _) _).trans (hg2.trans hga)))
 clear hg2 hga hk
 refine Lib.hid ?_
 go_wp2_with (go_at_call 18; refine (ncheck_any _ l a L c HG2.out.1 14 20 hx).mono ?_; rintro e w3 ⟨rfl, hg3⟩; refine Hid.out ?_)
 have hc3 := hg3.cell hc (by simp)
 have HG3 := Lib.hid (HG2.out.2.trans hg3)
 clear hg3 hc q1 HG2
 refine Lib.hid ?_
 go_wp2_with (go_at_call 19; refine (num5_any _ _).mono ?_; rintro e w' ⟨rfl, rfl⟩)
 go_ret
 exact ⟨rfl, HG3.out⟩

set_option maxHeartbeats 1600000 in
theorem nt_1 (w : World) : Calls Tryz.prog 4 #[.int .i64 1] w fun e w' => e = .returned (.bool true) ∧ w.grownBy w' none := by
 have hal := alive5_any w
 go_enter Tryz.func4, Tryz.ntmps4
 go_wp2_with (go_at_call 8; refine hal.mono ?_; rintro e w1 ⟨rfl, hg1⟩; refine Hid.out ?_)
 clear hal
 have HG := Lib.hid hg1
 clear hg1
 refine Lib.hid ?_
 go_wp2_with (go_at_call 9; refine (prog5_law (x := (23, 20)) (by decide +kernel) (by kernel_rfl) _).mono ?_; rintro e w2 ⟨l, a, L, c, rfl, hx, hk, hg2⟩; refine Hid.out ?_)
 have hga := World.grownBy_alloc w2 (.cells #[.slice a L c] 25 (0, 0)) none
 have q1 := cell_of_row _ _ 0 _ _ _ (heap_alloc_new w2 (.cells #[.slice a L c] 25 (0, 0)))
 have hc := hga.cell (hg2.cell ((two_rows _ _ _ _ _ 1).trans rfl) (by simp)) (by simp)
 have HG2 := Lib.hid (And.intro (RepC.kept hga (fun k e => by cases e) hk) ((galloc (galloc HG.out _) _).trans (hg2.trans hga)))
 clear hg2 hga hk
 refine Lib.hid ?_
 go_wp2_with (go_at_call 18; refine (ncheck_any _ l a L c HG2.out.1 23 20 hx).mono ?_; rintro e w3 ⟨rfl, hg3⟩; refine Hid.out ?_)
 have hc3 := hg3.cell hc (by simp)
 have HG3 := Lib.hid (HG2.out.2.trans hg3)
 clear hg3 hc q1 HG2
 refine Lib.hid ?_
 go_wp2_with (go_at_call 19; refine (num5_any _ _).mono ?_; rintro e w' ⟨rfl, rfl⟩)
 go_ret
 exact ⟨rfl, HG3.out⟩

set_option maxHeartbeats 1600000 in
theorem nt_2 (w : World) : Calls Tryz.prog 4 #[.int .i64 2] w fun e w' => e = .returned (.bool true) ∧ w.grownBy w' none := by
 have hal := alive5_any w
 go_enter Tryz.func4, Tryz.ntmps4
 go_wp2_with (go_at_call 8; refine hal.mono ?_; rintro e w1 ⟨rfl, hg1⟩; refine Hid.out ?_)
 clear hal
 have HG := Lib.hid hg1
 clear hg1
 refine Lib.hid ?_
 go_wp2_with (go_at_call 9; refine (prog5_law (x := (38, 20)) (by decide +kernel) (by kernel_rfl) _).mono ?_; rintro e w2 ⟨l, a, L, c, rfl, hx, hk, hg2⟩; refine Hid.out ?_)
 have hga := World.grownBy_alloc w2 (.cells #[.slice a L c] 25 (0, 0)) none
 have q1 := cell_of_row _ _ 0 _ _ _ (heap_alloc_new w2 (.cells #[.slice a L c] 25 (0, 0)))
 have hc := hga.cell (hg2.cell ((two_rows _ _ _ _ _ 2).trans rfl) (by simp)) (by simp)
 have HG2 := Lib.hid (And.intro (RepC.kept hga (fun k e => by cases e) hk) ((galloc (galloc HG.out _) _).trans (hg2.trans hga)))
 clear hg2 hga hk
 refine Lib.hid ?_
 go_wp2_with (go_at_call 18; refine (ncheck_any _ l a L c HG2.out.1 38 20 hx).mono ?_; rintro e w3 ⟨rfl, hg3⟩; refine Hid.out ?_)
 have hc3 := hg3.cell hc (by simp)
 have HG3 := Lib.hid (HG2.out.2.trans hg3)
 clear hg3 hc q1 HG2
 refine Lib.hid ?_
 go_wp2_with (go_at_call 19; refine (num5_any _ _).mono ?_; rintro e w' ⟨rfl, rfl⟩)
 go_ret
 exact ⟨rfl, HG3.out⟩

set_option maxHeartbeats 1600000 in
theorem nt_3 (w : World) : Calls Tryz.prog 4 #[.int .i64 3] w fun e w' => e = .returned (.bool true) ∧ w.grownBy w' none := by
 have hal := alive5_any w
 go_enter Tryz.func4, Tryz.ntmps4
 go_wp2_with (go_at_call 8; refine hal.mono ?_; rintro e w1 ⟨rfl, hg1⟩; refine Hid.out ?_)
 clear hal
 have HG := Lib.hid hg1
 clear hg1
 refine Lib.hid ?_
 go_wp2_with (go_at_call 9; refine (prog5_law (x := (42, 20)) (by decide +kernel) (by kernel_rfl) _).mono ?_; rintro e w2 ⟨l, a, L, c, rfl, hx, hk, hg2⟩; refine Hid.out ?_)
 have hga := World.grownBy_alloc w2 (.cells #[.slice a L c] 25 (0, 0)) none
 have q1 := cell_of_row _ _ 0 _ _ _ (heap_alloc_new w2 (.cells #[.slice a L c] 25 (0, 0)))
 have hc := hga.cell (hg2.cell ((two_rows _ _ _ _ _ 3).trans rfl) (by simp)) (by simp)
 have HG2 := Lib.hid (And.intro (RepC.kept hga (fun k e => by cases e) hk) ((galloc (galloc HG.out _) _).trans (hg2.trans hga)))
 clear hg2 hga hk
 refine Lib.hid ?_
 go_wp2_with (go_at_call 18; refine (ncheck_any _ l a L c HG2.out.1 42 20 hx).mono ?_; rintro e w3 ⟨rfl, hg3⟩; refine Hid.out ?_)
 have hc3 := hg3.cell hc (by simp)
 have HG3 := Lib.hid (HG2.out.2.trans hg3)
 clear hg3 hc q1 HG2
 refine Lib.hid ?_
 go_wp2_with (go_at_call 19; refine (num5_any _ _).mono ?_; rintro e w' ⟨rfl, rfl⟩)
 go_ret
 exact ⟨rfl, HG3.out⟩

set_option maxHeartbeats 1600000 in
theorem nt_4 (w : World) : Calls Tryz.prog 4 #[.int .i64 4] w fun e w' => e = .returned (.bool true) ∧ w.grownBy w' none := by
 have hal := alive5_any w
 go_enter Tryz.func4, Tryz.ntmps4
 go_wp2_with (go_at_call 8; refine hal.mono ?_; rintro e w1 ⟨rfl, hg1⟩; refine Hid.out ?_)
 clear hal
 have HG := Lib.hid hg1
 clear hg1
 refine Lib.hid ?_
 go_wp2_with (go_at_call 9; refine (prog5_law (x := (59, 20)) (by decide +kernel) (by kernel_rfl) _).mono ?_; rintro e w2 ⟨l, a, L, c, rfl, hx, hk, hg2⟩; refine Hid.out ?_)
 have hga := World.grownBy_alloc w2 (.cells #[.slice a L c] 25 (0, 0)) none
 have q1 := cell_of_row _ _ 0 _ _ _ (heap_alloc_new w2 (.cells #[.slice a L c] 25 (0, 0)))
 have hc := hga.cell (hg2.cell ((two_rows _ _ _ _ _ 4).trans rfl) (by simp)) (by simp)
 have HG2 := Lib.hid (And.intro (RepC.kept hga (fun k e => by cases e) hk) ((galloc (galloc HG.out _) _).trans (hg2.trans hga)))
 clear hg2 hga hk
 refine Lib.hid ?_
 go_wp2_with (go_at_call 18; refine (ncheck_any _ l a L c HG2.out.1 59 20 hx).mono ?_; rintro e w3 ⟨rfl, hg3⟩; refine Hid.out ?_)
 have hc3 := hg3.cell hc (by simp)
 have HG3 := Lib.hid (HG2.out.2.trans hg3)
 clear hg3 hc q1 HG2
 refine Lib.hid ?_
 go_wp2_with (go_at_call 19; refine (num5_any _ _).mono ?_; rintro e w' ⟨rfl, rfl⟩)
 go_ret
 exact ⟨rfl, HG3.out⟩

set_option maxHeartbeats 1600000 in
theorem nt_5 (w : World) : Calls Tryz.prog 4 #[.int .i64 5] w fun e w' => e = .returned (.bool true) ∧ w.grownBy w' none := by
 have hal := alive5_any w
 go_enter Tryz.func4, Tryz.ntmps4
 go_wp2_with (go_at_call 8; refine hal.mono ?_; rintro e w1 ⟨rfl, hg1⟩; refine Hid.out ?_)
 clear hal
 have HG := Lib.hid hg1
 clear hg1
 refine Lib.hid ?_
 go_wp2_with (go_at_call 9; refine (prog5_law (x := (51, 20)) (by decide +kernel) (by kernel_rfl) _).mono ?_; rintro e w2 ⟨l, a, L, c, rfl, hx, hk, hg2⟩; refine Hid.out ?_)
 have hga := World.grownBy_alloc w2 (.cells #[.slice a L c] 25 (0, 0)) none
 have q1 := cell_of_row _ _ 0 _ _ _ (heap_alloc_new w2 (.cells #[.slice a L c] 25 (0, 0)))
 have hc := hga.cell (hg2.cell ((two_rows _ _ _ _ _ 5).trans rfl) (by simp)) (by simp)
 have HG2 := Lib.hid (And.intro (RepC.kept hga (fun k e => by cases e) hk) ((galloc (galloc HG.out _) _).trans (hg2.trans hga)))
 clear hg2 hga hk
 refine Lib.hid ?_
 go_wp2_with (go_at_call 18; refine (ncheck_any _ l a L c HG2.out.1 51 20 hx).mono ?_; rintro e w3 ⟨rfl, hg3⟩; refine Hid.out ?_)
 have hc3 := hg3.cell hc (by simp)
 have HG3 := Lib.hid (HG2.out.2.trans hg3)
 clear hg3 hc q1 HG2
 refine Lib.hid ?_
 go_wp2_with (go_at_call 19; refine (num5_any _ _).mono ?_; rintro e w' ⟨rfl, rfl⟩)
 go_ret
 exact ⟨rfl, HG3.out⟩

set_option maxHeartbeats 1600000 in
theorem nt_6 (w : World) : Calls Tryz.prog 4 #[.int .i64 6] w fun e w' => e = .returned (.bool true) ∧ w.grownBy w' none := by
 have hal := alive5_any w
 go_enter Tryz.func4, Tryz.ntmps4
 go_wp2_with (go_at_call 8; refine hal.mono ?_; rintro e w1 ⟨rfl, hg1⟩; refine Hid.out ?_)
 clear hal
 have HG := Lib.hid hg1
 clear hg1
 refine Lib.hid ?_
 go_wp2_with (go_at_call 9; refine (prog5_law (x := (38, 20)) (by decide +kernel) (by kernel_rfl) _).mono ?_; rintro e w2 ⟨l, a, L, c, rfl, hx, hk, hg2⟩; refine Hid.out ?_)
 have hga := World.grownBy_alloc w2 (.cells #[.slice a L c] 25 (0, 0)) none
 have q1 := cell_of_row _ _ 0 _ _ _ (heap_alloc_new w2 (.cells #[.slice a L c] 25 (0, 0)))
 have hc := hga.cell (hg2.cell ((two_rows _ _ _ _ _ 6).trans rfl) (by simp)) (by simp)
 have HG2 := Lib.hid (And.intro (RepC.kept hga (fun k e => by cases e) hk) ((galloc (galloc HG.out _) _).trans (hg2.trans hga)))
 clear hg2 hga hk
 refine Lib.hid ?_
 go_wp2_with (go_at_call 18; refine (ncheck_any _ l a L c HG2.out.1 38 20 hx).mono ?_; rintro e w3 ⟨rfl, hg3⟩; refine Hid.out ?_)
 have hc3 := hg3.cell hc (by simp)
 have HG3 := Lib.hid (HG2.out.2.trans hg3)
 clear hg3 hc q1 HG2
 refine Lib.hid ?_
 go_wp2_with (go_at_call 19; refine (num5_any _ _).mono ?_; rintro e w' ⟨rfl, rfl⟩)
 go_ret
 exact ⟨rfl, HG3.out⟩

set_option maxHeartbeats 1600000 in
theorem nt_7 (w : World) : Calls Tryz.prog 4 #[.int .i64 7] w fun e w' => e = .returned (.bool true) ∧ w.grownBy w' none := by
 have hal := alive5_any w
 go_enter Tryz.func4, Tryz.ntmps4
 go_wp2_with (go_at_call 8; refine hal.mono ?_; rintro e w1 ⟨rfl, hg1⟩; refine Hid.out ?_)
 clear hal
 have HG := Lib.hid hg1
 clear hg1
 refine Lib.hid ?_
 go_wp2_with (go_at_call 9; refine (prog5_law (x := (37, 20)) (by decide +kernel) (by kernel_rfl) _).mono ?_; rintro e w2 ⟨l, a, L, c, rfl, hx, hk, hg2⟩; refine Hid.out ?_)
 have hga := World.grownBy_alloc w2 (.cells #[.slice a L c] 25 (0, 0)) none
 have q1 := cell_of_row _ _ 0 _ _ _ (heap_alloc_new w2 (.cells #[.slice a L c] 25 (0, 0)))
 have hc := hga.cell (hg2.cell ((two_rows _ _ _ _ _ 7).trans rfl) (by simp)) (by simp)
 have HG2 := Lib.hid (And.intro (RepC.kept hga (fun k e => by cases e) hk) ((galloc (galloc HG.out _) _).trans (hg2.trans hga)))
 clear hg2 hga hk
 refine Lib.hid ?_
 go_wp2_with (go_at_call 18; refine (ncheck_any _ l a L c HG2.out.1 37 20 hx).mono ?_; rintro e w3 ⟨rfl, hg3⟩; refine Hid.out ?_)
 have hc3 := hg3.cell hc (by simp)
 have HG3 := Lib.hid (HG2.out.2.trans hg3)
 clear hg3 hc q1 HG2
 refine Lib.hid ?_
 go_wp2_with (go_at_call 19; refine (num5_any _ _).mono ?_; rintro e w' ⟨rfl, rfl⟩)
 go_ret
 exact ⟨rfl, HG3.out⟩

theorem nt_walk (n : Int) (w : World) : Calls Tryz.prog 4 #[.int .i64 n] w fun e w' => e = .returned (.bool true) ∧ w.grownBy w' none := by
 by_cases hn : n < 0 ∨ 8 ≤ n
 ·exact nt_out n w hn
 ·have hc : n = 0 ∨ n = 1 ∨ n = 2 ∨ n = 3 ∨ n = 4 ∨ n = 5 ∨ n = 6 ∨ n = 7 := by omega
  rcases hc with rfl | rfl | rfl | rfl | rfl | rfl | rfl | rfl
  ·exact nt_0 w
  ·exact nt_1 w
  ·exact nt_2 w
  ·exact nt_3 w
  ·exact nt_4 w
  ·exact nt_5 w
  ·exact nt_6 w
  ·exact nt_7 w

end Go.Proofs.YtonafedbehnneaaGreat
