/- GramWrong's walk, text by text (written by mkwrong.py). -/
import Derived.Test.YtjcdkgjfecnkgabGreatDoorMgK
namespace Go.Proofs.YtjcdkgjfecnkgabGreatDoor
open Go.RowKit Go.Maps Go.WideMaps

/-- two rows laid: the second one's places -/
theorem two_rows (w : World) (c1 c2 : Array Value) (t1 t2 : TypeId) (j : Nat) : ((w.alloc (.cells c1 t1)).alloc (.cells c2 t2)).cell? ⟨w.heap.size + 1, j, none⟩ = c2[j]? := by
  rw [show w.heap.size + 1 = (w.alloc (.cells c1 t1)).heap.size from by simp]; simp

set_option maxHeartbeats 1600000 in
theorem gw_out (n : Int) (w : World) (hl : LaidG w) (hn : n < 0 ∨ 18 ≤ n) : Calls Tryz.prog 5 #[.int .i64 n] w fun e w' => e = .returned (.bool true) ∧ w.grownBy w' none := by
  have hal := alive_any w hl
  go_enter Tryz.func5, Tryz.ntmps5
  go_wp2_with (go_at_call 6; refine hal.mono ?_; rintro e w1 ⟨rfl, hg1⟩; refine Hid.out ?_)
  have hl1 := hl.on hg1
  clear hal
  refine Lib.hid ?_
  have HG := Lib.hid hg1
  clear hg1
  rcases hn with hn | hn
  · go_wp2
    go_ret
    exact ⟨rfl, galloc (galloc HG.out _) _⟩
  · have h0 : ¬ n < 0 := by omega
    go_wp2
    go_ret
    exact ⟨rfl, galloc (galloc HG.out _) _⟩

set_option maxHeartbeats 1600000 in
theorem gw_0 (w : World) (hl : LaidG w) : Calls Tryz.prog 5 #[.int .i64 0] w fun e w' => e = .returned (.bool true) ∧ w.grownBy w' none := by
  have hal := alive_any w hl
  go_enter Tryz.func5, Tryz.ntmps5
  go_wp2_with (go_at_call 6; refine hal.mono ?_; rintro e w1 ⟨rfl, hg1⟩; refine Hid.out ?_)
  have hl1 := hl.on hg1
  clear hal
  refine Lib.hid ?_
  have HG := Lib.hid hg1
  clear hg1
  go_wp2_with (go_at_call 7; refine (gparse_bad (a := 34) (er := 12) (by kernel_rfl) _ (hl1.on (galloc (World.grownBy_alloc w1 _ none) _))).mono ?_; rintro e w2 ⟨rfl, hg2⟩; refine Hid.out ?_)
  have hc : (w2.alloc (.cells #[.slice none 0 0] 25)).cell? ⟨w1.heap.size + 1, 0, none⟩ = some (.int .i64 0) := (World.grownBy_alloc w2 _ none).cell (hg2.cell ((two_rows _ _ _ _ _ 0).trans rfl) (by simp)) (by simp)
  have HG2 := Lib.hid (((galloc (World.grownBy_alloc w1 _ none) _).trans hg2))
  clear hg2
  refine Lib.hid ?_
  go_wp2_with (go_at_call 8; refine (num_any _ _).mono ?_; rintro e w' ⟨rfl, rfl⟩)
  go_ret
  exact ⟨rfl, galloc (HG.out.trans HG2.out) _⟩

set_option maxHeartbeats 1600000 in
theorem gw_1 (w : World) (hl : LaidG w) : Calls Tryz.prog 5 #[.int .i64 1] w fun e w' => e = .returned (.bool true) ∧ w.grownBy w' none := by
  have hal := alive_any w hl
  go_enter Tryz.func5, Tryz.ntmps5
  go_wp2_with (go_at_call 6; refine hal.mono ?_; rintro e w1 ⟨rfl, hg1⟩; refine Hid.out ?_)
  have hl1 := hl.on hg1
  clear hal
  refine Lib.hid ?_
  have HG := Lib.hid hg1
  clear hg1
  go_wp2_with (go_at_call 7; refine (gparse_bad (a := 38) (er := 12) (by kernel_rfl) _ (hl1.on (galloc (World.grownBy_alloc w1 _ none) _))).mono ?_; rintro e w2 ⟨rfl, hg2⟩; refine Hid.out ?_)
  have hc : (w2.alloc (.cells #[.slice none 0 0] 25)).cell? ⟨w1.heap.size + 1, 1, none⟩ = some (.int .i64 4) := (World.grownBy_alloc w2 _ none).cell (hg2.cell ((two_rows _ _ _ _ _ 1).trans rfl) (by simp)) (by simp)
  have HG2 := Lib.hid (((galloc (World.grownBy_alloc w1 _ none) _).trans hg2))
  clear hg2
  refine Lib.hid ?_
  go_wp2_with (go_at_call 8; refine (num_any _ _).mono ?_; rintro e w' ⟨rfl, rfl⟩)
  go_ret
  exact ⟨rfl, galloc (HG.out.trans HG2.out) _⟩

set_option maxHeartbeats 1600000 in
theorem gw_2 (w : World) (hl : LaidG w) : Calls Tryz.prog 5 #[.int .i64 2] w fun e w' => e = .returned (.bool true) ∧ w.grownBy w' none := by
  have hal := alive_any w hl
  go_enter Tryz.func5, Tryz.ntmps5
  go_wp2_with (go_at_call 6; refine hal.mono ?_; rintro e w1 ⟨rfl, hg1⟩; refine Hid.out ?_)
  have hl1 := hl.on hg1
  clear hal
  refine Lib.hid ?_
  have HG := Lib.hid hg1
  clear hg1
  go_wp2_with (go_at_call 7; refine (gparse_bad (a := 36) (er := 12) (by kernel_rfl) _ (hl1.on (galloc (World.grownBy_alloc w1 _ none) _))).mono ?_; rintro e w2 ⟨rfl, hg2⟩; refine Hid.out ?_)
  have hc : (w2.alloc (.cells #[.slice none 0 0] 25)).cell? ⟨w1.heap.size + 1, 2, none⟩ = some (.int .i64 2) := (World.grownBy_alloc w2 _ none).cell (hg2.cell ((two_rows _ _ _ _ _ 2).trans rfl) (by simp)) (by simp)
  have HG2 := Lib.hid (((galloc (World.grownBy_alloc w1 _ none) _).trans hg2))
  clear hg2
  refine Lib.hid ?_
  go_wp2_with (go_at_call 8; refine (num_any _ _).mono ?_; rintro e w' ⟨rfl, rfl⟩)
  go_ret
  exact ⟨rfl, galloc (HG.out.trans HG2.out) _⟩

set_option maxHeartbeats 1600000 in
theorem gw_3 (w : World) (hl : LaidG w) : Calls Tryz.prog 5 #[.int .i64 3] w fun e w' => e = .returned (.bool true) ∧ w.grownBy w' none := by
  have hal := alive_any w hl
  go_enter Tryz.func5, Tryz.ntmps5
  go_wp2_with (go_at_call 6; refine hal.mono ?_; rintro e w1 ⟨rfl, hg1⟩; refine Hid.out ?_)
  have hl1 := hl.on hg1
  clear hal
  refine Lib.hid ?_
  have HG := Lib.hid hg1
  clear hg1
  go_wp2_with (go_at_call 7; refine (gparse_bad (a := 40) (er := 12) (by kernel_rfl) _ (hl1.on (galloc (World.grownBy_alloc w1 _ none) _))).mono ?_; rintro e w2 ⟨rfl, hg2⟩; refine Hid.out ?_)
  have hc : (w2.alloc (.cells #[.slice none 0 0] 25)).cell? ⟨w1.heap.size + 1, 3, none⟩ = some (.int .i64 6) := (World.grownBy_alloc w2 _ none).cell (hg2.cell ((two_rows _ _ _ _ _ 3).trans rfl) (by simp)) (by simp)
  have HG2 := Lib.hid (((galloc (World.grownBy_alloc w1 _ none) _).trans hg2))
  clear hg2
  refine Lib.hid ?_
  go_wp2_with (go_at_call 8; refine (num_any _ _).mono ?_; rintro e w' ⟨rfl, rfl⟩)
  go_ret
  exact ⟨rfl, galloc (HG.out.trans HG2.out) _⟩

set_option maxHeartbeats 1600000 in
theorem gw_4 (w : World) (hl : LaidG w) : Calls Tryz.prog 5 #[.int .i64 4] w fun e w' => e = .returned (.bool true) ∧ w.grownBy w' none := by
  have hal := alive_any w hl
  go_enter Tryz.func5, Tryz.ntmps5
  go_wp2_with (go_at_call 6; refine hal.mono ?_; rintro e w1 ⟨rfl, hg1⟩; refine Hid.out ?_)
  have hl1 := hl.on hg1
  clear hal
  refine Lib.hid ?_
  have HG := Lib.hid hg1
  clear hg1
  go_wp2_with (go_at_call 7; refine (gparse_bad (a := 40) (er := 12) (by kernel_rfl) _ (hl1.on (galloc (World.grownBy_alloc w1 _ none) _))).mono ?_; rintro e w2 ⟨rfl, hg2⟩; refine Hid.out ?_)
  have hc : (w2.alloc (.cells #[.slice none 0 0] 25)).cell? ⟨w1.heap.size + 1, 4, none⟩ = some (.int .i64 6) := (World.grownBy_alloc w2 _ none).cell (hg2.cell ((two_rows _ _ _ _ _ 4).trans rfl) (by simp)) (by simp)
  have HG2 := Lib.hid (((galloc (World.grownBy_alloc w1 _ none) _).trans hg2))
  clear hg2
  refine Lib.hid ?_
  go_wp2_with (go_at_call 8; refine (num_any _ _).mono ?_; rintro e w' ⟨rfl, rfl⟩)
  go_ret
  exact ⟨rfl, galloc (HG.out.trans HG2.out) _⟩

set_option maxHeartbeats 1600000 in
theorem gw_5 (w : World) (hl : LaidG w) : Calls Tryz.prog 5 #[.int .i64 5] w fun e w' => e = .returned (.bool true) ∧ w.grownBy w' none := by
  have hal := alive_any w hl
  go_enter Tryz.func5, Tryz.ntmps5
  go_wp2_with (go_at_call 6; refine hal.mono ?_; rintro e w1 ⟨rfl, hg1⟩; refine Hid.out ?_)
  have hl1 := hl.on hg1
  clear hal
  refine Lib.hid ?_
  have HG := Lib.hid hg1
  clear hg1
  go_wp2_with (go_at_call 7; refine (gparse_bad (a := 39) (er := 12) (by kernel_rfl) _ (hl1.on (galloc (World.grownBy_alloc w1 _ none) _))).mono ?_; rintro e w2 ⟨rfl, hg2⟩; refine Hid.out ?_)
  have hc : (w2.alloc (.cells #[.slice none 0 0] 25)).cell? ⟨w1.heap.size + 1, 5, none⟩ = some (.int .i64 5) := (World.grownBy_alloc w2 _ none).cell (hg2.cell ((two_rows _ _ _ _ _ 5).trans rfl) (by simp)) (by simp)
  have HG2 := Lib.hid (((galloc (World.grownBy_alloc w1 _ none) _).trans hg2))
  clear hg2
  refine Lib.hid ?_
  go_wp2_with (go_at_call 8; refine (num_any _ _).mono ?_; rintro e w' ⟨rfl, rfl⟩)
  go_ret
  exact ⟨rfl, galloc (HG.out.trans HG2.out) _⟩

set_option maxHeartbeats 1600000 in
theorem gw_6 (w : World) (hl : LaidG w) : Calls Tryz.prog 5 #[.int .i64 6] w fun e w' => e = .returned (.bool true) ∧ w.grownBy w' none := by
  have hal := alive_any w hl
  go_enter Tryz.func5, Tryz.ntmps5
  go_wp2_with (go_at_call 6; refine hal.mono ?_; rintro e w1 ⟨rfl, hg1⟩; refine Hid.out ?_)
  have hl1 := hl.on hg1
  clear hal
  refine Lib.hid ?_
  have HG := Lib.hid hg1
  clear hg1
  go_wp2_with (go_at_call 7; refine (gparse_bad (a := 38) (er := 12) (by kernel_rfl) _ (hl1.on (galloc (World.grownBy_alloc w1 _ none) _))).mono ?_; rintro e w2 ⟨rfl, hg2⟩; refine Hid.out ?_)
  have hc : (w2.alloc (.cells #[.slice none 0 0] 25)).cell? ⟨w1.heap.size + 1, 6, none⟩ = some (.int .i64 4) := (World.grownBy_alloc w2 _ none).cell (hg2.cell ((two_rows _ _ _ _ _ 6).trans rfl) (by simp)) (by simp)
  have HG2 := Lib.hid (((galloc (World.grownBy_alloc w1 _ none) _).trans hg2))
  clear hg2
  refine Lib.hid ?_
  go_wp2_with (go_at_call 8; refine (num_any _ _).mono ?_; rintro e w' ⟨rfl, rfl⟩)
  go_ret
  exact ⟨rfl, galloc (HG.out.trans HG2.out) _⟩

set_option maxHeartbeats 1600000 in
theorem gw_7 (w : World) (hl : LaidG w) : Calls Tryz.prog 5 #[.int .i64 7] w fun e w' => e = .returned (.bool true) ∧ w.grownBy w' none := by
  have hal := alive_any w hl
  go_enter Tryz.func5, Tryz.ntmps5
  go_wp2_with (go_at_call 6; refine hal.mono ?_; rintro e w1 ⟨rfl, hg1⟩; refine Hid.out ?_)
  have hl1 := hl.on hg1
  clear hal
  refine Lib.hid ?_
  have HG := Lib.hid hg1
  clear hg1
  go_wp2_with (go_at_call 7; refine (gparse_bad (a := 40) (er := 12) (by kernel_rfl) _ (hl1.on (galloc (World.grownBy_alloc w1 _ none) _))).mono ?_; rintro e w2 ⟨rfl, hg2⟩; refine Hid.out ?_)
  have hc : (w2.alloc (.cells #[.slice none 0 0] 25)).cell? ⟨w1.heap.size + 1, 7, none⟩ = some (.int .i64 6) := (World.grownBy_alloc w2 _ none).cell (hg2.cell ((two_rows _ _ _ _ _ 7).trans rfl) (by simp)) (by simp)
  have HG2 := Lib.hid (((galloc (World.grownBy_alloc w1 _ none) _).trans hg2))
  clear hg2
  refine Lib.hid ?_
  go_wp2_with (go_at_call 8; refine (num_any _ _).mono ?_; rintro e w' ⟨rfl, rfl⟩)
  go_ret
  exact ⟨rfl, galloc (HG.out.trans HG2.out) _⟩

set_option maxHeartbeats 1600000 in
theorem gw_8 (w : World) (hl : LaidG w) : Calls Tryz.prog 5 #[.int .i64 8] w fun e w' => e = .returned (.bool true) ∧ w.grownBy w' none := by
  have hal := alive_any w hl
  go_enter Tryz.func5, Tryz.ntmps5
  go_wp2_with (go_at_call 6; refine hal.mono ?_; rintro e w1 ⟨rfl, hg1⟩; refine Hid.out ?_)
  have hl1 := hl.on hg1
  clear hal
  refine Lib.hid ?_
  have HG := Lib.hid hg1
  clear hg1
  go_wp2_with (go_at_call 7; refine (gparse_bad (a := 49) (er := 12) (by kernel_rfl) _ (hl1.on (galloc (World.grownBy_alloc w1 _ none) _))).mono ?_; rintro e w2 ⟨rfl, hg2⟩; refine Hid.out ?_)
  have hc : (w2.alloc (.cells #[.slice none 0 0] 25)).cell? ⟨w1.heap.size + 1, 8, none⟩ = some (.int .i64 15) := (World.grownBy_alloc w2 _ none).cell (hg2.cell ((two_rows _ _ _ _ _ 8).trans rfl) (by simp)) (by simp)
  have HG2 := Lib.hid (((galloc (World.grownBy_alloc w1 _ none) _).trans hg2))
  clear hg2
  refine Lib.hid ?_
  go_wp2_with (go_at_call 8; refine (num_any _ _).mono ?_; rintro e w' ⟨rfl, rfl⟩)
  go_ret
  exact ⟨rfl, galloc (HG.out.trans HG2.out) _⟩

set_option maxHeartbeats 1600000 in
theorem gw_9 (w : World) (hl : LaidG w) : Calls Tryz.prog 5 #[.int .i64 9] w fun e w' => e = .returned (.bool true) ∧ w.grownBy w' none := by
  have hal := alive_any w hl
  go_enter Tryz.func5, Tryz.ntmps5
  go_wp2_with (go_at_call 6; refine hal.mono ?_; rintro e w1 ⟨rfl, hg1⟩; refine Hid.out ?_)
  have hl1 := hl.on hg1
  clear hal
  refine Lib.hid ?_
  have HG := Lib.hid hg1
  clear hg1
  go_wp2_with (go_at_call 7; refine (gparse_bad (a := 46) (er := 12) (by kernel_rfl) _ (hl1.on (galloc (World.grownBy_alloc w1 _ none) _))).mono ?_; rintro e w2 ⟨rfl, hg2⟩; refine Hid.out ?_)
  have hc : (w2.alloc (.cells #[.slice none 0 0] 25)).cell? ⟨w1.heap.size + 1, 9, none⟩ = some (.int .i64 12) := (World.grownBy_alloc w2 _ none).cell (hg2.cell ((two_rows _ _ _ _ _ 9).trans rfl) (by simp)) (by simp)
  have HG2 := Lib.hid (((galloc (World.grownBy_alloc w1 _ none) _).trans hg2))
  clear hg2
  refine Lib.hid ?_
  go_wp2_with (go_at_call 8; refine (num_any _ _).mono ?_; rintro e w' ⟨rfl, rfl⟩)
  go_ret
  exact ⟨rfl, galloc (HG.out.trans HG2.out) _⟩

set_option maxHeartbeats 1600000 in
theorem gw_10 (w : World) (hl : LaidG w) : Calls Tryz.prog 5 #[.int .i64 10] w fun e w' => e = .returned (.bool true) ∧ w.grownBy w' none := by
  have hal := alive_any w hl
  go_enter Tryz.func5, Tryz.ntmps5
  go_wp2_with (go_at_call 6; refine hal.mono ?_; rintro e w1 ⟨rfl, hg1⟩; refine Hid.out ?_)
  have hl1 := hl.on hg1
  clear hal
  refine Lib.hid ?_
  have HG := Lib.hid hg1
  clear hg1
  go_wp2_with (go_at_call 7; refine (gparse_bad (a := 44) (er := 12) (by kernel_rfl) _ (hl1.on (galloc (World.grownBy_alloc w1 _ none) _))).mono ?_; rintro e w2 ⟨rfl, hg2⟩; refine Hid.out ?_)
  have hc : (w2.alloc (.cells #[.slice none 0 0] 25)).cell? ⟨w1.heap.size + 1, 10, none⟩ = some (.int .i64 10) := (World.grownBy_alloc w2 _ none).cell (hg2.cell ((two_rows _ _ _ _ _ 10).trans rfl) (by simp)) (by simp)
  have HG2 := Lib.hid (((galloc (World.grownBy_alloc w1 _ none) _).trans hg2))
  clear hg2
  refine Lib.hid ?_
  go_wp2_with (go_at_call 8; refine (num_any _ _).mono ?_; rintro e w' ⟨rfl, rfl⟩)
  go_ret
  exact ⟨rfl, galloc (HG.out.trans HG2.out) _⟩

set_option maxHeartbeats 1600000 in
theorem gw_11 (w : World) (hl : LaidG w) : Calls Tryz.prog 5 #[.int .i64 11] w fun e w' => e = .returned (.bool true) ∧ w.grownBy w' none := by
  have hal := alive_any w hl
  go_enter Tryz.func5, Tryz.ntmps5
  go_wp2_with (go_at_call 6; refine hal.mono ?_; rintro e w1 ⟨rfl, hg1⟩; refine Hid.out ?_)
  have hl1 := hl.on hg1
  clear hal
  refine Lib.hid ?_
  have HG := Lib.hid hg1
  clear hg1
  go_wp2_with (go_at_call 7; refine (gparse_bad (a := 55) (er := 12) (by kernel_rfl) _ (hl1.on (galloc (World.grownBy_alloc w1 _ none) _))).mono ?_; rintro e w2 ⟨rfl, hg2⟩; refine Hid.out ?_)
  have hc : (w2.alloc (.cells #[.slice none 0 0] 25)).cell? ⟨w1.heap.size + 1, 11, none⟩ = some (.int .i64 21) := (World.grownBy_alloc w2 _ none).cell (hg2.cell ((two_rows _ _ _ _ _ 11).trans rfl) (by simp)) (by simp)
  have HG2 := Lib.hid (((galloc (World.grownBy_alloc w1 _ none) _).trans hg2))
  clear hg2
  refine Lib.hid ?_
  go_wp2_with (go_at_call 8; refine (num_any _ _).mono ?_; rintro e w' ⟨rfl, rfl⟩)
  go_ret
  exact ⟨rfl, galloc (HG.out.trans HG2.out) _⟩

set_option maxHeartbeats 1600000 in
theorem gw_12 (w : World) (hl : LaidG w) : Calls Tryz.prog 5 #[.int .i64 12] w fun e w' => e = .returned (.bool true) ∧ w.grownBy w' none := by
  have hal := alive_any w hl
  go_enter Tryz.func5, Tryz.ntmps5
  go_wp2_with (go_at_call 6; refine hal.mono ?_; rintro e w1 ⟨rfl, hg1⟩; refine Hid.out ?_)
  have hl1 := hl.on hg1
  clear hal
  refine Lib.hid ?_
  have HG := Lib.hid hg1
  clear hg1
  go_wp2_with (go_at_call 7; refine (gparse_bad (a := 38) (er := 12) (by kernel_rfl) _ (hl1.on (galloc (World.grownBy_alloc w1 _ none) _))).mono ?_; rintro e w2 ⟨rfl, hg2⟩; refine Hid.out ?_)
  have hc : (w2.alloc (.cells #[.slice none 0 0] 25)).cell? ⟨w1.heap.size + 1, 12, none⟩ = some (.int .i64 4) := (World.grownBy_alloc w2 _ none).cell (hg2.cell ((two_rows _ _ _ _ _ 12).trans rfl) (by simp)) (by simp)
  have HG2 := Lib.hid (((galloc (World.grownBy_alloc w1 _ none) _).trans hg2))
  clear hg2
  refine Lib.hid ?_
  go_wp2_with (go_at_call 8; refine (num_any _ _).mono ?_; rintro e w' ⟨rfl, rfl⟩)
  go_ret
  exact ⟨rfl, galloc (HG.out.trans HG2.out) _⟩

set_option maxHeartbeats 1600000 in
theorem gw_13 (w : World) (hl : LaidG w) : Calls Tryz.prog 5 #[.int .i64 13] w fun e w' => e = .returned (.bool true) ∧ w.grownBy w' none := by
  have hal := alive_any w hl
  go_enter Tryz.func5, Tryz.ntmps5
  go_wp2_with (go_at_call 6; refine hal.mono ?_; rintro e w1 ⟨rfl, hg1⟩; refine Hid.out ?_)
  have hl1 := hl.on hg1
  clear hal
  refine Lib.hid ?_
  have HG := Lib.hid hg1
  clear hg1
  go_wp2_with (go_at_call 7; refine (gparse_bad (a := 43) (er := 12) (by kernel_rfl) _ (hl1.on (galloc (World.grownBy_alloc w1 _ none) _))).mono ?_; rintro e w2 ⟨rfl, hg2⟩; refine Hid.out ?_)
  have hc : (w2.alloc (.cells #[.slice none 0 0] 25)).cell? ⟨w1.heap.size + 1, 13, none⟩ = some (.int .i64 9) := (World.grownBy_alloc w2 _ none).cell (hg2.cell ((two_rows _ _ _ _ _ 13).trans rfl) (by simp)) (by simp)
  have HG2 := Lib.hid (((galloc (World.grownBy_alloc w1 _ none) _).trans hg2))
  clear hg2
  refine Lib.hid ?_
  go_wp2_with (go_at_call 8; refine (num_any _ _).mono ?_; rintro e w' ⟨rfl, rfl⟩)
  go_ret
  exact ⟨rfl, galloc (HG.out.trans HG2.out) _⟩

set_option maxHeartbeats 1600000 in
theorem gw_14 (w : World) (hl : LaidG w) : Calls Tryz.prog 5 #[.int .i64 14] w fun e w' => e = .returned (.bool true) ∧ w.grownBy w' none := by
  have hal := alive_any w hl
  go_enter Tryz.func5, Tryz.ntmps5
  go_wp2_with (go_at_call 6; refine hal.mono ?_; rintro e w1 ⟨rfl, hg1⟩; refine Hid.out ?_)
  have hl1 := hl.on hg1
  clear hal
  refine Lib.hid ?_
  have HG := Lib.hid hg1
  clear hg1
  go_wp2_with (go_at_call 7; refine (gparse_bad (a := 35) (er := 12) (by kernel_rfl) _ (hl1.on (galloc (World.grownBy_alloc w1 _ none) _))).mono ?_; rintro e w2 ⟨rfl, hg2⟩; refine Hid.out ?_)
  have hc : (w2.alloc (.cells #[.slice none 0 0] 25)).cell? ⟨w1.heap.size + 1, 14, none⟩ = some (.int .i64 1) := (World.grownBy_alloc w2 _ none).cell (hg2.cell ((two_rows _ _ _ _ _ 14).trans rfl) (by simp)) (by simp)
  have HG2 := Lib.hid (((galloc (World.grownBy_alloc w1 _ none) _).trans hg2))
  clear hg2
  refine Lib.hid ?_
  go_wp2_with (go_at_call 8; refine (num_any _ _).mono ?_; rintro e w' ⟨rfl, rfl⟩)
  go_ret
  exact ⟨rfl, galloc (HG.out.trans HG2.out) _⟩

set_option maxHeartbeats 1600000 in
theorem gw_15 (w : World) (hl : LaidG w) : Calls Tryz.prog 5 #[.int .i64 15] w fun e w' => e = .returned (.bool true) ∧ w.grownBy w' none := by
  have hal := alive_any w hl
  go_enter Tryz.func5, Tryz.ntmps5
  go_wp2_with (go_at_call 6; refine hal.mono ?_; rintro e w1 ⟨rfl, hg1⟩; refine Hid.out ?_)
  have hl1 := hl.on hg1
  clear hal
  refine Lib.hid ?_
  have HG := Lib.hid hg1
  clear hg1
  go_wp2_with (go_at_call 7; refine (gparse_bad (a := 41) (er := 12) (by kernel_rfl) _ (hl1.on (galloc (World.grownBy_alloc w1 _ none) _))).mono ?_; rintro e w2 ⟨rfl, hg2⟩; refine Hid.out ?_)
  have hc : (w2.alloc (.cells #[.slice none 0 0] 25)).cell? ⟨w1.heap.size + 1, 15, none⟩ = some (.int .i64 7) := (World.grownBy_alloc w2 _ none).cell (hg2.cell ((two_rows _ _ _ _ _ 15).trans rfl) (by simp)) (by simp)
  have HG2 := Lib.hid (((galloc (World.grownBy_alloc w1 _ none) _).trans hg2))
  clear hg2
  refine Lib.hid ?_
  go_wp2_with (go_at_call 8; refine (num_any _ _).mono ?_; rintro e w' ⟨rfl, rfl⟩)
  go_ret
  exact ⟨rfl, galloc (HG.out.trans HG2.out) _⟩

set_option maxHeartbeats 1600000 in
theorem gw_16 (w : World) (hl : LaidG w) : Calls Tryz.prog 5 #[.int .i64 16] w fun e w' => e = .returned (.bool true) ∧ w.grownBy w' none := by
  have hal := alive_any w hl
  go_enter Tryz.func5, Tryz.ntmps5
  go_wp2_with (go_at_call 6; refine hal.mono ?_; rintro e w1 ⟨rfl, hg1⟩; refine Hid.out ?_)
  have hl1 := hl.on hg1
  clear hal
  refine Lib.hid ?_
  have HG := Lib.hid hg1
  clear hg1
  go_wp2_with (go_at_call 7; refine (gparse_bad (a := 44) (er := 12) (by kernel_rfl) _ (hl1.on (galloc (World.grownBy_alloc w1 _ none) _))).mono ?_; rintro e w2 ⟨rfl, hg2⟩; refine Hid.out ?_)
  have hc : (w2.alloc (.cells #[.slice none 0 0] 25)).cell? ⟨w1.heap.size + 1, 16, none⟩ = some (.int .i64 10) := (World.grownBy_alloc w2 _ none).cell (hg2.cell ((two_rows _ _ _ _ _ 16).trans rfl) (by simp)) (by simp)
  have HG2 := Lib.hid (((galloc (World.grownBy_alloc w1 _ none) _).trans hg2))
  clear hg2
  refine Lib.hid ?_
  go_wp2_with (go_at_call 8; refine (num_any _ _).mono ?_; rintro e w' ⟨rfl, rfl⟩)
  go_ret
  exact ⟨rfl, galloc (HG.out.trans HG2.out) _⟩

set_option maxHeartbeats 1600000 in
theorem gw_17 (w : World) (hl : LaidG w) : Calls Tryz.prog 5 #[.int .i64 17] w fun e w' => e = .returned (.bool true) ∧ w.grownBy w' none := by
  have hal := alive_any w hl
  go_enter Tryz.func5, Tryz.ntmps5
  go_wp2_with (go_at_call 6; refine hal.mono ?_; rintro e w1 ⟨rfl, hg1⟩; refine Hid.out ?_)
  have hl1 := hl.on hg1
  clear hal
  refine Lib.hid ?_
  have HG := Lib.hid hg1
  clear hg1
  go_wp2_with (go_at_call 7; refine (gparse_bad (a := 41) (er := 12) (by kernel_rfl) _ (hl1.on (galloc (World.grownBy_alloc w1 _ none) _))).mono ?_; rintro e w2 ⟨rfl, hg2⟩; refine Hid.out ?_)
  have hc : (w2.alloc (.cells #[.slice none 0 0] 25)).cell? ⟨w1.heap.size + 1, 17, none⟩ = some (.int .i64 7) := (World.grownBy_alloc w2 _ none).cell (hg2.cell ((two_rows _ _ _ _ _ 17).trans rfl) (by simp)) (by simp)
  have HG2 := Lib.hid (((galloc (World.grownBy_alloc w1 _ none) _).trans hg2))
  clear hg2
  refine Lib.hid ?_
  go_wp2_with (go_at_call 8; refine (num_any _ _).mono ?_; rintro e w' ⟨rfl, rfl⟩)
  go_ret
  exact ⟨rfl, galloc (HG.out.trans HG2.out) _⟩

theorem gramWrong_walk (n : Int) (w : World) (hl : LaidG w) : Calls Tryz.prog 5 #[.int .i64 n] w fun e w' => e = .returned (.bool true) ∧ w.grownBy w' none := by
  by_cases hn : n < 0 ∨ 18 ≤ n
  · exact gw_out n w hl hn
  · have hc : n = 0 ∨ n = 1 ∨ n = 2 ∨ n = 3 ∨ n = 4 ∨ n = 5 ∨ n = 6 ∨ n = 7 ∨ n = 8 ∨ n = 9 ∨ n = 10 ∨ n = 11 ∨ n = 12 ∨ n = 13 ∨ n = 14 ∨ n = 15 ∨ n = 16 ∨ n = 17 := by omega
    rcases hc with rfl | rfl | rfl | rfl | rfl | rfl | rfl | rfl | rfl | rfl | rfl | rfl | rfl | rfl | rfl | rfl | rfl | rfl
    · exact gw_0 w hl
    · exact gw_1 w hl
    · exact gw_2 w hl
    · exact gw_3 w hl
    · exact gw_4 w hl
    · exact gw_5 w hl
    · exact gw_6 w hl
    · exact gw_7 w hl
    · exact gw_8 w hl
    · exact gw_9 w hl
    · exact gw_10 w hl
    · exact gw_11 w hl
    · exact gw_12 w hl
    · exact gw_13 w hl
    · exact gw_14 w hl
    · exact gw_15 w hl
    · exact gw_16 w hl
    · exact gw_17 w hl

end Go.Proofs.YtjcdkgjfecnkgabGreatDoor
