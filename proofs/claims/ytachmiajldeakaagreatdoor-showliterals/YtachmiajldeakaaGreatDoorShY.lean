/- The statement's own look at the example; the walk of ShowLiterals. -/
import Derived.Test.YtachmiajldeakaaGreatDoorShX
namespace Go.Proofs.YtachmiajldeakaaGreatDoor
open Go.RowKit Go.Maps Go.WideMaps

theorem num4_any (k : Int) (w : World) : Calls Tryz.prog 8 #[.int .i64 k] w fun e w' => e = .returned (.int .i64 k) ∧ w' = w := by
  go_enter Tryz.func8, Tryz.ntmps8
  go_wp2
  go_ret
  exact ⟨rfl, rfl⟩

/-- what the statement knows of the world at its start -/
def LaidS (w : World) : Prop := LaidG w ∧ Tab w
theorem LaidS.on {w w' : World} (h : LaidS w) (hg : w.grownBy w' none) : LaidS w' := ⟨h.1.on hg, h.2.grown hg⟩
theorem laidS_of {W : World} (h : laidMetH Tryz.prog laid6 W) : LaidS W := by
  refine ⟨laidG_of h, ?_⟩
  have h' : laidMet Tryz.prog laid5 W ∧ handlesMet Tryz.prog (laid6.filter fun x => x.2.handleName?.isSome) W := h
  exact Lib.tabIs_of_head (rest := laid5.drop 3) gTab (t := 239) (e := 186) (n := 20) (by kernel_rfl) (by kernel_rfl) (by kernel_rfl) (by kernel_rfl) (by kernel_rfl) h'.1.tail.tail

set_option maxHeartbeats 4000000 in
set_option maxRecDepth 100000 in
theorem alive4_any (w : World) (hl : LaidS w) : Calls Tryz.prog 4 #[] w fun e w' => e = .returned (.bool true) ∧ w.grownBy w' none := by
  have hn := fun wx => num4_any 0 wx
  go_enter Tryz.func4, Tryz.ntmps4
  go_wp2_with (go_at_call 7; refine (gparse_ok Gram.alive1 _ hl.1).mono ?_; rintro e w1 ⟨v, rfl, hv, hg1⟩; refine Hid.out ?_)
  obtain ⟨g1, c1, _, _, _, _, _, _, _, _, _, _, _, _, _, _, _, _, _, _, _, _, _, e, -⟩ := alive_one hv
  subst e
  have hp := fun (W : World) (hg : w1.grownBy W none) => print_al W w.heap.size _ (RepC.kept hg (fun k e => by cases e) hv) ((hl.2.grown hg1).grown hg)
  unfold alT at hp
  have HP := Lib.hid hp
  have HG := Lib.hid hg1
  clear hp hv hg1
  refine Lib.hid ?_
  go_wp2_with (first
    | (go_at_call 8; refine (hn _).mono ?_; rintro e w' ⟨rfl, hw'⟩; obtain rfl := hw'.symm)
    | (go_at_call 11; refine (HP.out _ (World.grownBy_alloc w1 _ none)).mono ?_; rintro e w2 ⟨rfl, hg2⟩; refine Hid.out ?_))
  have HF := Lib.hid (HG.out.trans ((World.grownBy_alloc w1 _ none).trans hg2))
  clear hg2 HP HG
  refine Lib.hid ?_
  go_wp2
  go_ret
  exact ⟨rfl, HF.out⟩

end Go.Proofs.YtachmiajldeakaaGreatDoor
