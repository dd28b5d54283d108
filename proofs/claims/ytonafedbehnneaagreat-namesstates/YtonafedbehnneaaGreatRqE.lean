/- NamesStates's walk (written by mknlaw.py). -/
import Derived.Test.YtonafedbehnneaaGreatMhN
namespace Go.Proofs.YtonafedbehnneaaGreat
open Go.RowKit Go.Maps Go.WideMaps

set_option maxHeartbeats 1600000 in
theorem ns_true (w : World) : Calls Tryz.prog 7 #[.bool true] w fun e w' => e = .returned (.bool true) ∧ w.grownBy w' none := by
 have hal := alive5_any w
 go_enter Tryz.func7, Tryz.ntmps7
 go_wp2_with (go_at_call 8; refine hal.mono ?_; rintro e w1 ⟨rfl, hg1⟩; refine Hid.out ?_)
 clear hal
 have HG := Lib.hid hg1
 clear hg1
 refine Lib.hid ?_
 go_wp2_with (go_at_call 9; refine (prog5_law (x := (101, 20)) (by decide +kernel) (by kernel_rfl) _).mono ?_; rintro e w2 ⟨l, a, L, c, rfl, hx, hk, hg2⟩; refine Hid.out ?_)
 have hga := World.grownBy_alloc w2 (.cells #[.slice a L c] 25 (0, 0)) none
 have q1 := cell_of_row _ _ 0 _ _ _ (heap_alloc_new w2 (.cells #[.slice a L c] 25 (0, 0)))
 have HG2 := Lib.hid (And.intro (RepC.kept hga (fun k e => by cases e) hk) (HG.out.trans (hg2.trans hga)))
 clear hg2 hga hk
 refine Lib.hid ?_
 go_wp2_with (go_at_call 18; refine (ncheck_any _ l a L c HG2.out.1 101 20 hx).mono ?_; rintro e w3 ⟨rfl, hg3⟩; refine Hid.out ?_)
 have HG3 := Lib.hid (HG2.out.2.trans hg3)
 clear hg3 q1 HG2
 refine Lib.hid ?_
 go_wp2_with (go_at_call 19; refine (num5_any _ _).mono ?_; rintro e w' ⟨rfl, rfl⟩)
 go_ret
 exact ⟨rfl, HG3.out⟩

set_option maxHeartbeats 1600000 in
theorem ns_false (w : World) : Calls Tryz.prog 7 #[.bool false] w fun e w' => e = .returned (.bool true) ∧ w.grownBy w' none := by
 have hal := alive5_any w
 go_enter Tryz.func7, Tryz.ntmps7
 go_wp2_with (go_at_call 8; refine hal.mono ?_; rintro e w1 ⟨rfl, hg1⟩; refine Hid.out ?_)
 clear hal
 have HG := Lib.hid hg1
 clear hg1
 refine Lib.hid ?_
 go_wp2_with (go_at_call 9; refine (prog5_law (x := (0, 0)) (by decide +kernel) (by kernel_rfl) _).mono ?_; rintro e w2 ⟨l, a, L, c, rfl, hx, hk, hg2⟩; refine Hid.out ?_)
 have hga := World.grownBy_alloc w2 (.cells #[.slice a L c] 25 (0, 0)) none
 have q1 := cell_of_row _ _ 0 _ _ _ (heap_alloc_new w2 (.cells #[.slice a L c] 25 (0, 0)))
 have HG2 := Lib.hid (And.intro (RepC.kept hga (fun k e => by cases e) hk) (HG.out.trans (hg2.trans hga)))
 clear hg2 hga hk
 refine Lib.hid ?_
 go_wp2_with (go_at_call 18; refine (ncheck_any _ l a L c HG2.out.1 0 0 hx).mono ?_; rintro e w3 ⟨rfl, hg3⟩; refine Hid.out ?_)
 have HG3 := Lib.hid (HG2.out.2.trans hg3)
 clear hg3 q1 HG2
 refine Lib.hid ?_
 go_wp2_with (go_at_call 19; refine (num5_any _ _).mono ?_; rintro e w' ⟨rfl, rfl⟩)
 go_ret
 exact ⟨rfl, HG3.out⟩

theorem namesStates_walk (b : Bool) (w : World) : Calls Tryz.prog 7 #[.bool b] w fun e w' => e = .returned (.bool true) ∧ w.grownBy w' none := by
 cases b
 ·exact ns_false w
 ·exact ns_true w
end Go.Proofs.YtonafedbehnneaaGreat
