/- NamesWrong's walk, text by text (written by mknlaw.py). -/
import Derived.Test.YtonafedbehnneaaGreatRqT
namespace Go.Proofs.YtonafedbehnneaaGreat
open Go.RowKit Go.Maps Go.WideMaps

set_option maxHeartbeats 1600000 in
theorem nw_out (n : Int) (w : World) (hn : n < 0 ∨ 13 ≤ n) : Calls Tryz.prog 6 #[.int .i64 n] w fun e w' => e = .returned (.bool true) ∧ w.grownBy w' none := by
 have hal := alive5_any w
 go_enter Tryz.func6, Tryz.ntmps6
 go_wp2_with (go_at_call 8; refine hal.mono ?_; rintro e w1 ⟨rfl, hg1⟩; refine Hid.out ?_)
 clear hal
 have HG := Lib.hid hg1
 clear hg1
 refine Lib.hid ?_
 rcases hn with hn | hn
 ·go_wp2
  go_ret
  exact ⟨rfl, galloc (galloc (galloc HG.out _) _) _⟩
 ·have h0 : ¬ n < 0 := by omega
  go_wp2
  go_ret
  exact ⟨rfl, galloc (galloc (galloc HG.out _) _) _⟩

set_option maxHeartbeats 1600000 in
theorem nw_0 (w : World) : Calls Tryz.prog 6 #[.int .i64 0] w fun e w' => e = .returned (.bool true) ∧ w.grownBy w' none := by
 have hal := alive5_any w
 go_enter Tryz.func6, Tryz.ntmps6
 go_wp2_with (go_at_call 8; refine hal.mono ?_; rintro e w1 ⟨rfl, hg1⟩; refine Hid.out ?_)
 clear hal
 have HG := Lib.hid hg1
 clear hg1
 refine Lib.hid ?_
 go_wp2_with (go_at_call 9; refine (prog5_law (x := (38, 24)) (by decide +kernel) (by kernel_rfl) _).mono ?_; rintro e w2 ⟨l, a, L, c, rfl, hx, hk, hg2⟩; refine Hid.out ?_)
 have hga := World.grownBy_alloc w2 (.cells #[.slice a L c] 25 (0, 0)) none
 have q1 := cell_of_row _ _ 0 _ _ _ (heap_alloc_new w2 (.cells #[.slice a L c] 25 (0, 0)))
 have hc := hga.cell (hg2.cell ((three_rows _ _ _ _ _ _ _ 0).trans rfl) (by simp)) (by simp)
 have hd := hga.cell (hg2.cell ((three_rows2 _ _ _ _ _ _ _ 0).trans rfl) (by simp)) (by simp)
 have HG2 := Lib.hid (And.intro (RepC.kept hga (fun k e => by cases e) hk) ((galloc (galloc (galloc HG.out _) _) _).trans (hg2.trans hga)))
 clear hg2 hga hk
 refine Lib.hid ?_
 go_wp2_with (go_at_call 18; refine (ncheck_any _ l a L c HG2.out.1 38 24 hx).mono ?_; rintro e w3 ⟨rfl, hg3⟩; refine Hid.out ?_)
 have hc3 := hg3.cell hc (by simp)
 have hd3 := hg3.cell hd (by simp)
 have HG3 := Lib.hid (HG2.out.2.trans hg3)
 clear hg3 hc hd q1 HG2
 refine Lib.hid ?_
 go_wp2
 go_quiet (first | (go_at_call 19; refine Calls.quiet_of_same (num5_any _ _)))
 go_wp2
 go_ret
 exact ⟨rfl, gdrewN HG3.out _⟩

set_option maxHeartbeats 1600000 in
theorem nw_1 (w : World) : Calls Tryz.prog 6 #[.int .i64 1] w fun e w' => e = .returned (.bool true) ∧ w.grownBy w' none := by
 have hal := alive5_any w
 go_enter Tryz.func6, Tryz.ntmps6
 go_wp2_with (go_at_call 8; refine hal.mono ?_; rintro e w1 ⟨rfl, hg1⟩; refine Hid.out ?_)
 clear hal
 have HG := Lib.hid hg1
 clear hg1
 refine Lib.hid ?_
 go_wp2_with (go_at_call 9; refine (prog5_law (x := (38, 21)) (by decide +kernel) (by kernel_rfl) _).mono ?_; rintro e w2 ⟨l, a, L, c, rfl, hx, hk, hg2⟩; refine Hid.out ?_)
 have hga := World.grownBy_alloc w2 (.cells #[.slice a L c] 25 (0, 0)) none
 have q1 := cell_of_row _ _ 0 _ _ _ (heap_alloc_new w2 (.cells #[.slice a L c] 25 (0, 0)))
 have hc := hga.cell (hg2.cell ((three_rows _ _ _ _ _ _ _ 1).trans rfl) (by simp)) (by simp)
 have hd := hga.cell (hg2.cell ((three_rows2 _ _ _ _ _ _ _ 1).trans rfl) (by simp)) (by simp)
 have HG2 := Lib.hid (And.intro (RepC.kept hga (fun k e => by cases e) hk) ((galloc (galloc (galloc HG.out _) _) _).trans (hg2.trans hga)))
 clear hg2 hga hk
 refine Lib.hid ?_
 go_wp2_with (go_at_call 18; refine (ncheck_any _ l a L c HG2.out.1 38 21 hx).mono ?_; rintro e w3 ⟨rfl, hg3⟩; refine Hid.out ?_)
 have hc3 := hg3.cell hc (by simp)
 have hd3 := hg3.cell hd (by simp)
 have HG3 := Lib.hid (HG2.out.2.trans hg3)
 clear hg3 hc hd q1 HG2
 refine Lib.hid ?_
 go_wp2
 go_quiet (first | (go_at_call 19; refine Calls.quiet_of_same (num5_any _ _)))
 go_wp2
 go_ret
 exact ⟨rfl, gdrewN HG3.out _⟩

set_option maxHeartbeats 1600000 in
theorem nw_2 (w : World) : Calls Tryz.prog 6 #[.int .i64 2] w fun e w' => e = .returned (.bool true) ∧ w.grownBy w' none := by
 have hal := alive5_any w
 go_enter Tryz.func6, Tryz.ntmps6
 go_wp2_with (go_at_call 8; refine hal.mono ?_; rintro e w1 ⟨rfl, hg1⟩; refine Hid.out ?_)
 clear hal
 have HG := Lib.hid hg1
 clear hg1
 refine Lib.hid ?_
 go_wp2_with (go_at_call 9; refine (prog5_law (x := (63, 26)) (by decide +kernel) (by kernel_rfl) _).mono ?_; rintro e w2 ⟨l, a, L, c, rfl, hx, hk, hg2⟩; refine Hid.out ?_)
 have hga := World.grownBy_alloc w2 (.cells #[.slice a L c] 25 (0, 0)) none
 have q1 := cell_of_row _ _ 0 _ _ _ (heap_alloc_new w2 (.cells #[.slice a L c] 25 (0, 0)))
 have hc := hga.cell (hg2.cell ((three_rows _ _ _ _ _ _ _ 2).trans rfl) (by simp)) (by simp)
 have hd := hga.cell (hg2.cell ((three_rows2 _ _ _ _ _ _ _ 2).trans rfl) (by simp)) (by simp)
 have HG2 := Lib.hid (And.intro (RepC.kept hga (fun k e => by cases e) hk) ((galloc (galloc (galloc HG.out _) _) _).trans (hg2.trans hga)))
 clear hg2 hga hk
 refine Lib.hid ?_
 go_wp2_with (go_at_call 18; refine (ncheck_any _ l a L c HG2.out.1 63 26 hx).mono ?_; rintro e w3 ⟨rfl, hg3⟩; refine Hid.out ?_)
 have hc3 := hg3.cell hc (by simp)
 have hd3 := hg3.cell hd (by simp)
 have HG3 := Lib.hid (HG2.out.2.trans hg3)
 clear hg3 hc hd q1 HG2
 refine Lib.hid ?_
 go_wp2
 go_quiet (first | (go_at_call 19; refine Calls.quiet_of_same (num5_any _ _)))
 go_wp2
 go_ret
 exact ⟨rfl, gdrewN HG3.out _⟩

set_option maxHeartbeats 1600000 in
theorem nw_3 (w : World) : Calls Tryz.prog 6 #[.int .i64 3] w fun e w' => e = .returned (.bool true) ∧ w.grownBy w' none := by
 have hal := alive5_any w
 go_enter Tryz.func6, Tryz.ntmps6
 go_wp2_with (go_at_call 8; refine hal.mono ?_; rintro e w1 ⟨rfl, hg1⟩; refine Hid.out ?_)
 clear hal
 have HG := Lib.hid hg1
 clear hg1
 refine Lib.hid ?_
 go_wp2_with (go_at_call 9; refine (prog5_law (x := (63, 21)) (by decide +kernel) (by kernel_rfl) _).mono ?_; rintro e w2 ⟨l, a, L, c, rfl, hx, hk, hg2⟩; refine Hid.out ?_)
 have hga := World.grownBy_alloc w2 (.cells #[.slice a L c] 25 (0, 0)) none
 have q1 := cell_of_row _ _ 0 _ _ _ (heap_alloc_new w2 (.cells #[.slice a L c] 25 (0, 0)))
 have hc := hga.cell (hg2.cell ((three_rows _ _ _ _ _ _ _ 3).trans rfl) (by simp)) (by simp)
 have hd := hga.cell (hg2.cell ((three_rows2 _ _ _ _ _ _ _ 3).trans rfl) (by simp)) (by simp)
 have HG2 := Lib.hid (And.intro (RepC.kept hga (fun k e => by cases e) hk) ((galloc (galloc (galloc HG.out _) _) _).trans (hg2.trans hga)))
 clear hg2 hga hk
 refine Lib.hid ?_
 go_wp2_with (go_at_call 18; refine (ncheck_any _ l a L c HG2.out.1 63 21 hx).mono ?_; rintro e w3 ⟨rfl, hg3⟩; refine Hid.out ?_)
 have hc3 := hg3.cell hc (by simp)
 have hd3 := hg3.cell hd (by simp)
 have HG3 := Lib.hid (HG2.out.2.trans hg3)
 clear hg3 hc hd q1 HG2
 refine Lib.hid ?_
 go_wp2
 go_quiet (first | (go_at_call 19; refine Calls.quiet_of_same (num5_any _ _)))
 go_wp2
 go_ret
 exact ⟨rfl, gdrewN HG3.out _⟩

set_option maxHeartbeats 1600000 in
theorem nw_4 (w : World) : Calls Tryz.prog 6 #[.int .i64 4] w fun e w' => e = .returned (.bool true) ∧ w.grownBy w' none := by
 have hal := alive5_any w
 go_enter Tryz.func6, Tryz.ntmps6
 go_wp2_with (go_at_call 8; refine hal.mono ?_; rintro e w1 ⟨rfl, hg1⟩; refine Hid.out ?_)
 clear hal
 have HG := Lib.hid hg1
 clear hg1
 refine Lib.hid ?_
 go_wp2_with (go_at_call 9; refine (prog5_law (x := (76, 25)) (by decide +kernel) (by kernel_rfl) _).mono ?_; rintro e w2 ⟨l, a, L, c, rfl, hx, hk, hg2⟩; refine Hid.out ?_)
 have hga := World.grownBy_alloc w2 (.cells #[.slice a L c] 25 (0, 0)) none
 have q1 := cell_of_row _ _ 0 _ _ _ (heap_alloc_new w2 (.cells #[.slice a L c] 25 (0, 0)))
 have hc := hga.cell (hg2.cell ((three_rows _ _ _ _ _ _ _ 4).trans rfl) (by simp)) (by simp)
 have hd := hga.cell (hg2.cell ((three_rows2 _ _ _ _ _ _ _ 4).trans rfl) (by simp)) (by simp)
 have HG2 := Lib.hid (And.intro (RepC.kept hga (fun k e => by cases e) hk) ((galloc (galloc (galloc HG.out _) _) _).trans (hg2.trans hga)))
 clear hg2 hga hk
 refine Lib.hid ?_
 go_wp2_with (go_at_call 18; refine (ncheck_any _ l a L c HG2.out.1 76 25 hx).mono ?_; rintro e w3 ⟨rfl, hg3⟩; refine Hid.out ?_)
 have hc3 := hg3.cell hc (by simp)
 have hd3 := hg3.cell hd (by simp)
 have HG3 := Lib.hid (HG2.out.2.trans hg3)
 clear hg3 hc hd q1 HG2
 refine Lib.hid ?_
 go_wp2
 go_quiet (first | (go_at_call 19; refine Calls.quiet_of_same (num5_any _ _)))
 go_wp2
 go_ret
 exact ⟨rfl, gdrewN HG3.out _⟩

set_option maxHeartbeats 1600000 in
theorem nw_5 (w : World) : Calls Tryz.prog 6 #[.int .i64 5] w fun e w' => e = .returned (.bool true) ∧ w.grownBy w' none := by
 have hal := alive5_any w
 go_enter Tryz.func6, Tryz.ntmps6
 go_wp2_with (go_at_call 8; refine hal.mono ?_; rintro e w1 ⟨rfl, hg1⟩; refine Hid.out ?_)
 clear hal
 have HG := Lib.hid hg1
 clear hg1
 refine Lib.hid ?_
 go_wp2_with (go_at_call 9; refine (prog5_law (x := (60, 24)) (by decide +kernel) (by kernel_rfl) _).mono ?_; rintro e w2 ⟨l, a, L, c, rfl, hx, hk, hg2⟩; refine Hid.out ?_)
 have hga := World.grownBy_alloc w2 (.cells #[.slice a L c] 25 (0, 0)) none
 have q1 := cell_of_row _ _ 0 _ _ _ (heap_alloc_new w2 (.cells #[.slice a L c] 25 (0, 0)))
 have hc := hga.cell (hg2.cell ((three_rows _ _ _ _ _ _ _ 5).trans rfl) (by simp)) (by simp)
 have hd := hga.cell (hg2.cell ((three_rows2 _ _ _ _ _ _ _ 5).trans rfl) (by simp)) (by simp)
 have HG2 := Lib.hid (And.intro (RepC.kept hga (fun k e => by cases e) hk) ((galloc (galloc (galloc HG.out _) _) _).trans (hg2.trans hga)))
 clear hg2 hga hk
 refine Lib.hid ?_
 go_wp2_with (go_at_call 18; refine (ncheck_any _ l a L c HG2.out.1 60 24 hx).mono ?_; rintro e w3 ⟨rfl, hg3⟩; refine Hid.out ?_)
 have hc3 := hg3.cell hc (by simp)
 have hd3 := hg3.cell hd (by simp)
 have HG3 := Lib.hid (HG2.out.2.trans hg3)
 clear hg3 hc hd q1 HG2
 refine Lib.hid ?_
 go_wp2
 go_quiet (first | (go_at_call 19; refine Calls.quiet_of_same (num5_any _ _)))
 go_wp2
 go_ret
 exact ⟨rfl, gdrewN HG3.out _⟩

set_option maxHeartbeats 1600000 in
theorem nw_6 (w : World) : Calls Tryz.prog 6 #[.int .i64 6] w fun e w' => e = .returned (.bool true) ∧ w.grownBy w' none := by
 have hal := alive5_any w
 go_enter Tryz.func6, Tryz.ntmps6
 go_wp2_with (go_at_call 8; refine hal.mono ?_; rintro e w1 ⟨rfl, hg1⟩; refine Hid.out ?_)
 clear hal
 have HG := Lib.hid hg1
 clear hg1
 refine Lib.hid ?_
 go_wp2_with (go_at_call 9; refine (prog5_law (x := (38, 21)) (by decide +kernel) (by kernel_rfl) _).mono ?_; rintro e w2 ⟨l, a, L, c, rfl, hx, hk, hg2⟩; refine Hid.out ?_)
 have hga := World.grownBy_alloc w2 (.cells #[.slice a L c] 25 (0, 0)) none
 have q1 := cell_of_row _ _ 0 _ _ _ (heap_alloc_new w2 (.cells #[.slice a L c] 25 (0, 0)))
 have hc := hga.cell (hg2.cell ((three_rows _ _ _ _ _ _ _ 6).trans rfl) (by simp)) (by simp)
 have hd := hga.cell (hg2.cell ((three_rows2 _ _ _ _ _ _ _ 6).trans rfl) (by simp)) (by simp)
 have HG2 := Lib.hid (And.intro (RepC.kept hga (fun k e => by cases e) hk) ((galloc (galloc (galloc HG.out _) _) _).trans (hg2.trans hga)))
 clear hg2 hga hk
 refine Lib.hid ?_
 go_wp2_with (go_at_call 18; refine (ncheck_any _ l a L c HG2.out.1 38 21 hx).mono ?_; rintro e w3 ⟨rfl, hg3⟩; refine Hid.out ?_)
 have hc3 := hg3.cell hc (by simp)
 have hd3 := hg3.cell hd (by simp)
 have HG3 := Lib.hid (HG2.out.2.trans hg3)
 clear hg3 hc hd q1 HG2
 refine Lib.hid ?_
 go_wp2
 go_quiet (first | (go_at_call 19; refine Calls.quiet_of_same (num5_any _ _)))
 go_wp2
 go_ret
 exact ⟨rfl, gdrewN HG3.out _⟩

set_option maxHeartbeats 1600000 in
theorem nw_7 (w : World) : Calls Tryz.prog 6 #[.int .i64 7] w fun e w' => e = .returned (.bool true) ∧ w.grownBy w' none := by
 have hal := alive5_any w
 go_enter Tryz.func6, Tryz.ntmps6
 go_wp2_with (go_at_call 8; refine hal.mono ?_; rintro e w1 ⟨rfl, hg1⟩; refine Hid.out ?_)
 clear hal
 have HG := Lib.hid hg1
 clear hg1
 refine Lib.hid ?_
 go_wp2_with (go_at_call 9; refine (prog5_law (x := (38, 21)) (by decide +kernel) (by kernel_rfl) _).mono ?_; rintro e w2 ⟨l, a, L, c, rfl, hx, hk, hg2⟩; refine Hid.out ?_)
 have hga := World.grownBy_alloc w2 (.cells #[.slice a L c] 25 (0, 0)) none
 have q1 := cell_of_row _ _ 0 _ _ _ (heap_alloc_new w2 (.cells #[.slice a L c] 25 (0, 0)))
 have hc := hga.cell (hg2.cell ((three_rows _ _ _ _ _ _ _ 7).trans rfl) (by simp)) (by simp)
 have hd := hga.cell (hg2.cell ((three_rows2 _ _ _ _ _ _ _ 7).trans rfl) (by simp)) (by simp)
 have HG2 := Lib.hid (And.intro (RepC.kept hga (fun k e => by cases e) hk) ((galloc (galloc (galloc HG.out _) _) _).trans (hg2.trans hga)))
 clear hg2 hga hk
 refine Lib.hid ?_
 go_wp2_with (go_at_call 18; refine (ncheck_any _ l a L c HG2.out.1 38 21 hx).mono ?_; rintro e w3 ⟨rfl, hg3⟩; refine Hid.out ?_)
 have hc3 := hg3.cell hc (by simp)
 have hd3 := hg3.cell hd (by simp)
 have HG3 := Lib.hid (HG2.out.2.trans hg3)
 clear hg3 hc hd q1 HG2
 refine Lib.hid ?_
 go_wp2
 go_quiet (first | (go_at_call 19; refine Calls.quiet_of_same (num5_any _ _)))
 go_wp2
 go_ret
 exact ⟨rfl, gdrewN HG3.out _⟩

set_option maxHeartbeats 1600000 in
theorem nw_8 (w : World) : Calls Tryz.prog 6 #[.int .i64 8] w fun e w' => e = .returned (.bool true) ∧ w.grownBy w' none := by
 have hal := alive5_any w
 go_enter Tryz.func6, Tryz.ntmps6
 go_wp2_with (go_at_call 8; refine hal.mono ?_; rintro e w1 ⟨rfl, hg1⟩; refine Hid.out ?_)
 clear hal
 have HG := Lib.hid hg1
 clear hg1
 refine Lib.hid ?_
 go_wp2_with (go_at_call 9; refine (prog5_law (x := (92, 21)) (by decide +kernel) (by kernel_rfl) _).mono ?_; rintro e w2 ⟨l, a, L, c, rfl, hx, hk, hg2⟩; refine Hid.out ?_)
 have hga := World.grownBy_alloc w2 (.cells #[.slice a L c] 25 (0, 0)) none
 have q1 := cell_of_row _ _ 0 _ _ _ (heap_alloc_new w2 (.cells #[.slice a L c] 25 (0, 0)))
 have hc := hga.cell (hg2.cell ((three_rows _ _ _ _ _ _ _ 8).trans rfl) (by simp)) (by simp)
 have hd := hga.cell (hg2.cell ((three_rows2 _ _ _ _ _ _ _ 8).trans rfl) (by simp)) (by simp)
 have HG2 := Lib.hid (And.intro (RepC.kept hga (fun k e => by cases e) hk) ((galloc (galloc (galloc HG.out _) _) _).trans (hg2.trans hga)))
 clear hg2 hga hk
 refine Lib.hid ?_
 go_wp2_with (go_at_call 18; refine (ncheck_any _ l a L c HG2.out.1 92 21 hx).mono ?_; rintro e w3 ⟨rfl, hg3⟩; refine Hid.out ?_)
 have hc3 := hg3.cell hc (by simp)
 have hd3 := hg3.cell hd (by simp)
 have HG3 := Lib.hid (HG2.out.2.trans hg3)
 clear hg3 hc hd q1 HG2
 refine Lib.hid ?_
 go_wp2
 go_quiet (first | (go_at_call 19; refine Calls.quiet_of_same (num5_any _ _)))
 go_wp2
 go_ret
 exact ⟨rfl, gdrewN HG3.out _⟩

set_option maxHeartbeats 1600000 in
theorem nw_9 (w : World) : Calls Tryz.prog 6 #[.int .i64 9] w fun e w' => e = .returned (.bool true) ∧ w.grownBy w' none := by
 have hal := alive5_any w
 go_enter Tryz.func6, Tryz.ntmps6
 go_wp2_with (go_at_call 8; refine hal.mono ?_; rintro e w1 ⟨rfl, hg1⟩; refine Hid.out ?_)
 clear hal
 have HG := Lib.hid hg1
 clear hg1
 refine Lib.hid ?_
 go_wp2_with (go_at_call 9; refine (prog5_law (x := (42, 21)) (by decide +kernel) (by kernel_rfl) _).mono ?_; rintro e w2 ⟨l, a, L, c, rfl, hx, hk, hg2⟩; refine Hid.out ?_)
 have hga := World.grownBy_alloc w2 (.cells #[.slice a L c] 25 (0, 0)) none
 have q1 := cell_of_row _ _ 0 _ _ _ (heap_alloc_new w2 (.cells #[.slice a L c] 25 (0, 0)))
 have hc := hga.cell (hg2.cell ((three_rows _ _ _ _ _ _ _ 9).trans rfl) (by simp)) (by simp)
 have hd := hga.cell (hg2.cell ((three_rows2 _ _ _ _ _ _ _ 9).trans rfl) (by simp)) (by simp)
 have HG2 := Lib.hid (And.intro (RepC.kept hga (fun k e => by cases e) hk) ((galloc (galloc (galloc HG.out _) _) _).trans (hg2.trans hga)))
 clear hg2 hga hk
 refine Lib.hid ?_
 go_wp2_with (go_at_call 18; refine (ncheck_any _ l a L c HG2.out.1 42 21 hx).mono ?_; rintro e w3 ⟨rfl, hg3⟩; refine Hid.out ?_)
 have hc3 := hg3.cell hc (by simp)
 have hd3 := hg3.cell hd (by simp)
 have HG3 := Lib.hid (HG2.out.2.trans hg3)
 clear hg3 hc hd q1 HG2
 refine Lib.hid ?_
 go_wp2
 go_quiet (first | (go_at_call 19; refine Calls.quiet_of_same (num5_any _ _)))
 go_wp2
 go_ret
 exact ⟨rfl, gdrewN HG3.out _⟩

set_option maxHeartbeats 1600000 in
theorem nw_10 (w : World) : Calls Tryz.prog 6 #[.int .i64 10] w fun e w' => e = .returned (.bool true) ∧ w.grownBy w' none := by
 have hal := alive5_any w
 go_enter Tryz.func6, Tryz.ntmps6
 go_wp2_with (go_at_call 8; refine hal.mono ?_; rintro e w1 ⟨rfl, hg1⟩; refine Hid.out ?_)
 clear hal
 have HG := Lib.hid hg1
 clear hg1
 refine Lib.hid ?_
 go_wp2_with (go_at_call 9; refine (prog5_law (x := (42, 21)) (by decide +kernel) (by kernel_rfl) _).mono ?_; rintro e w2 ⟨l, a, L, c, rfl, hx, hk, hg2⟩; refine Hid.out ?_)
 have hga := World.grownBy_alloc w2 (.cells #[.slice a L c] 25 (0, 0)) none
 have q1 := cell_of_row _ _ 0 _ _ _ (heap_alloc_new w2 (.cells #[.slice a L c] 25 (0, 0)))
 have hc := hga.cell (hg2.cell ((three_rows _ _ _ _ _ _ _ 10).trans rfl) (by simp)) (by simp)
 have hd := hga.cell (hg2.cell ((three_rows2 _ _ _ _ _ _ _ 10).trans rfl) (by simp)) (by simp)
 have HG2 := Lib.hid (And.intro (RepC.kept hga (fun k e => by cases e) hk) ((galloc (galloc (galloc HG.out _) _) _).trans (hg2.trans hga)))
 clear hg2 hga hk
 refine Lib.hid ?_
 go_wp2_with (go_at_call 18; refine (ncheck_any _ l a L c HG2.out.1 42 21 hx).mono ?_; rintro e w3 ⟨rfl, hg3⟩; refine Hid.out ?_)
 have hc3 := hg3.cell hc (by simp)
 have hd3 := hg3.cell hd (by simp)
 have HG3 := Lib.hid (HG2.out.2.trans hg3)
 clear hg3 hc hd q1 HG2
 refine Lib.hid ?_
 go_wp2
 go_quiet (first | (go_at_call 19; refine Calls.quiet_of_same (num5_any _ _)))
 go_wp2
 go_ret
 exact ⟨rfl, gdrewN HG3.out _⟩

set_option maxHeartbeats 1600000 in
theorem nw_11 (w : World) : Calls Tryz.prog 6 #[.int .i64 11] w fun e w' => e = .returned (.bool true) ∧ w.grownBy w' none := by
 have hal := alive5_any w
 go_enter Tryz.func6, Tryz.ntmps6
 go_wp2_with (go_at_call 8; refine hal.mono ?_; rintro e w1 ⟨rfl, hg1⟩; refine Hid.out ?_)
 clear hal
 have HG := Lib.hid hg1
 clear hg1
 refine Lib.hid ?_
 go_wp2_with (go_at_call 9; refine (prog5_law (x := (63, 21)) (by decide +kernel) (by kernel_rfl) _).mono ?_; rintro e w2 ⟨l, a, L, c, rfl, hx, hk, hg2⟩; refine Hid.out ?_)
 have hga := World.grownBy_alloc w2 (.cells #[.slice a L c] 25 (0, 0)) none
 have q1 := cell_of_row _ _ 0 _ _ _ (heap_alloc_new w2 (.cells #[.slice a L c] 25 (0, 0)))
 have hc := hga.cell (hg2.cell ((three_rows _ _ _ _ _ _ _ 11).trans rfl) (by simp)) (by simp)
 have hd := hga.cell (hg2.cell ((three_rows2 _ _ _ _ _ _ _ 11).trans rfl) (by simp)) (by simp)
 have HG2 := Lib.hid (And.intro (RepC.kept hga (fun k e => by cases e) hk) ((galloc (galloc (galloc HG.out _) _) _).trans (hg2.trans hga)))
 clear hg2 hga hk
 refine Lib.hid ?_
 go_wp2_with (go_at_call 18; refine (ncheck_any _ l a L c HG2.out.1 63 21 hx).mono ?_; rintro e w3 ⟨rfl, hg3⟩; refine Hid.out ?_)
 have hc3 := hg3.cell hc (by simp)
 have hd3 := hg3.cell hd (by simp)
 have HG3 := Lib.hid (HG2.out.2.trans hg3)
 clear hg3 hc hd q1 HG2
 refine Lib.hid ?_
 go_wp2
 go_quiet (first | (go_at_call 19; refine Calls.quiet_of_same (num5_any _ _)))
 go_wp2
 go_ret
 exact ⟨rfl, gdrewN HG3.out _⟩

set_option maxHeartbeats 1600000 in
theorem nw_12 (w : World) : Calls Tryz.prog 6 #[.int .i64 12] w fun e w' => e = .returned (.bool true) ∧ w.grownBy w' none := by
 have hal := alive5_any w
 go_enter Tryz.func6, Tryz.ntmps6
 go_wp2_with (go_at_call 8; refine hal.mono ?_; rintro e w1 ⟨rfl, hg1⟩; refine Hid.out ?_)
 clear hal
 have HG := Lib.hid hg1
 clear hg1
 refine Lib.hid ?_
 go_wp2_with (go_at_call 9; refine (prog5_law (x := (101, 21)) (by decide +kernel) (by kernel_rfl) _).mono ?_; rintro e w2 ⟨l, a, L, c, rfl, hx, hk, hg2⟩; refine Hid.out ?_)
 have hga := World.grownBy_alloc w2 (.cells #[.slice a L c] 25 (0, 0)) none
 have q1 := cell_of_row _ _ 0 _ _ _ (heap_alloc_new w2 (.cells #[.slice a L c] 25 (0, 0)))
 have hc := hga.cell (hg2.cell ((three_rows _ _ _ _ _ _ _ 12).trans rfl) (by simp)) (by simp)
 have hd := hga.cell (hg2.cell ((three_rows2 _ _ _ _ _ _ _ 12).trans rfl) (by simp)) (by simp)
 have HG2 := Lib.hid (And.intro (RepC.kept hga (fun k e => by cases e) hk) ((galloc (galloc (galloc HG.out _) _) _).trans (hg2.trans hga)))
 clear hg2 hga hk
 refine Lib.hid ?_
 go_wp2_with (go_at_call 18; refine (ncheck_any _ l a L c HG2.out.1 101 21 hx).mono ?_; rintro e w3 ⟨rfl, hg3⟩; refine Hid.out ?_)
 have hc3 := hg3.cell hc (by simp)
 have hd3 := hg3.cell hd (by simp)
 have HG3 := Lib.hid (HG2.out.2.trans hg3)
 clear hg3 hc hd q1 HG2
 refine Lib.hid ?_
 go_wp2
 go_quiet (first | (go_at_call 19; refine Calls.quiet_of_same (num5_any _ _)))
 go_wp2
 go_ret
 exact ⟨rfl, gdrewN HG3.out _⟩

theorem nw_walk (n : Int) (w : World) : Calls Tryz.prog 6 #[.int .i64 n] w fun e w' => e = .returned (.bool true) ∧ w.grownBy w' none := by
 by_cases hn : n < 0 ∨ 13 ≤ n
 ·exact nw_out n w hn
 ·have hc : n = 0 ∨ n = 1 ∨ n = 2 ∨ n = 3 ∨ n = 4 ∨ n = 5 ∨ n = 6 ∨ n = 7 ∨ n = 8 ∨ n = 9 ∨ n = 10 ∨ n = 11 ∨ n = 12 := by omega
  rcases hc with rfl | rfl | rfl | rfl | rfl | rfl | rfl | rfl | rfl | rfl | rfl | rfl | rfl
  ·exact nw_0 w
  ·exact nw_1 w
  ·exact nw_2 w
  ·exact nw_3 w
  ·exact nw_4 w
  ·exact nw_5 w
  ·exact nw_6 w
  ·exact nw_7 w
  ·exact nw_8 w
  ·exact nw_9 w
  ·exact nw_10 w
  ·exact nw_11 w
  ·exact nw_12 w

end Go.Proofs.YtonafedbehnneaaGreat
