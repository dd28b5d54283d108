/- show's printer: equations and items. -/
import Derived.Test.YtachmiajldeakaaGreatDoorShL
namespace Go.Proofs.YtachmiajldeakaaGreatDoor
open Go.RowKit Go.Maps Go.WideMaps

set_option maxHeartbeats 1000000 in
theorem leftSide_one (g cap : Nat) (s : ByteArray) (w : World) (hc : w.cell? ⟨g, 0, none⟩ = some (.string s)) : Calls Tryz.prog 132 #[.slice (some ⟨g, 0, none⟩) 1 cap] w fun e w' => e = .returned (.string s) ∧ w' = w := by
  have hj := fun sep => join_one g cap s sep w hc
  go_enter Tryz.func132, Tryz.ntmps132
  go_wp2_with (go_at_call 85; refine (hj _).mono ?_; rintro e w' ⟨rfl, hw⟩; obtain rfl := hw.symm)
  go_ret
  exact ⟨rfl, rfl⟩

/-- an item's twelve cells -/
def itemC (g cap : Nat) (x : Gram.Exp) (k : Value) (sa : Option Addr) (sc : Nat) (at_ : Int) : List Value := .slice (some ⟨g, 0, none⟩) 1 cap :: (expCells x k ++ [.slice sa 0 sc, .int .i64 at_])

set_option maxHeartbeats 4000000 in
theorem equation_one (w0 : World) (B0 b : Nat) (l : List UInt8) (c : UInt8) (g cap : Nat) (x : Gram.Exp) (t : List UInt8) (ka : Option Addr) (kn kc : Nat) (sa : Option Addr) (sc : Nat) (at_ : Int) (w : World) (h : Pr w0.heap.size b l w) (hw : w0.grownBy w none) (hn : w0.cell? ⟨g, 0, none⟩ = some (.string ⟨#[c]⟩)) (hr : RepRow w0 B0 [] (expD x) (expCells x (.slice ka kn kc))) (p : Prints w0 B0 b x t) (hlen : l.length + t.length ≤ 70000) :
    Calls Tryz.prog 88 #[.pointer (some ⟨b, 0, none⟩), .int .i64 1, .agg (itemC g cap x (.slice ka kn kc) sa sc at_).toArray] w fun e w' => e = .returned (.tuple #[]) ∧ Pr w0.heap.size b (l ++ (32 :: c :: 32 :: 61 :: 32 :: (t ++ [59, 10]))) w' ∧ Kb w0.heap.size b w w' := by
  have hbl : w.heap.size ≠ b := by have := h.lt; omega
  have hP := fun (l2 : List UInt8) (W : World) (h1 : w0.grownBy W none) (h2 : Pr w0.heap.size b l2 W) (h3 : l2.length + t.length ≤ 80000) => p l2 W _ h1 h2 h3 hr
  have HPR := Lib.hid hP
  clear hP p hr
  obtain ⟨f, s, nm, tk, tl, n, m, ks, xa⟩ := x
  simp only [itemC, expCells, List.cons_append, List.nil_append]
  simp only [expCells] at HPR
  have hb := fun (W : World) (hg : w.grownBy W none) => blanks1 w0.heap.size b l W (h.grown hg) (Nat.le_trans hw.size hg.size) (by omega)
  have HB := Lib.hid hb
  clear hb
  go_enter Tryz.func88, Tryz.ntmps88
  go_wp2_with (go_at_call 83; refine (HB.out _ (World.grownBy_alloc w _ none)).mono ?_; rintro e w1 ⟨rfl, h1, k1⟩; refine Hid.out ?_)
  have k01 : Kb w0.heap.size b w w1 := ((Kb.refl _ b w).alloc hw.size _).trans k1
  have hw1 : w0.grownBy w1 none := Kb.on hw k01
  have hr1 := k1.row (heap_alloc_new w _) hbl (by decide)
  have d0 := cell_of_row w1 _ 0 _ _ _ hr1
  have hn1 := hw1.cell hn (by simp)
  have hl := leftSide_one g cap ⟨#[c]⟩ w1 hn1
  have hp := put1 w0.heap.size b (l ++ [32]) [⟨#[c]⟩, ⟨#[32, 61, 32]⟩] w1 h1 hw1.size (by simp) (by simp [tx]; omega)
  simp only [List.map_cons, List.map_nil, List.length_cons, List.length_nil, Nat.zero_add] at hp
  have HR1 := Lib.hid hr1
  have HW1 := Lib.hid (And.intro hw1 k01)
  clear hr1 k1 h1 hn1 hw1 k01
  refine Lib.hid ?_
  go_wp2_with (first
    | (go_at_call 132; refine hl.mono ?_; rintro e w' ⟨rfl, hw'⟩; obtain rfl := hw'.symm)
    | (go_at_call 27; refine hp.mono ?_; rintro e w2 ⟨rfl, h2, k2⟩; refine Hid.out ?_))
  have hw2 : w0.grownBy w2 none := Kb.on HW1.out.1 k2
  have hr2 := k2.row HR1.out hbl (by decide)
  have u1 := cell_of_row w2 _ 1 _ _ _ hr2
  have u2 := cell_of_row w2 _ 2 _ _ _ hr2
  have u3 := cell_of_row w2 _ 3 _ _ _ hr2
  have u4 := cell_of_row w2 _ 4 _ _ _ hr2
  have u5 := cell_of_row w2 _ 5 _ _ _ hr2
  have u6 := cell_of_row w2 _ 6 _ _ _ hr2
  have u7 := cell_of_row w2 _ 7 _ _ _ hr2
  have u8 := cell_of_row w2 _ 8 _ _ _ hr2
  have u9 := cell_of_row w2 _ 9 _ _ _ hr2
  have hE := HPR.out _ w2 hw2 h2 (by simp [tx]; omega)
  have HW2 := Lib.hid (And.intro hw2 (HW1.out.2.trans k2))
  clear hr2 k2 h2 hw2 HR1 d0 hp hl
  refine Lib.hid ?_
  go_wp2_with (go_at_call 13; refine hE.mono ?_; rintro e w3 ⟨rfl, h3, k3⟩; refine Hid.out ?_)
  have hw3 : w0.grownBy w3 none := Kb.on HW2.out.1 k3
  have hp := put1 w0.heap.size b _ [⟨#[59, 10]⟩] w3 h3 hw3.size (by simp) (by simp [tx]; omega)
  simp only [List.map_cons, List.map_nil, List.length_cons, List.length_nil, Nat.zero_add] at hp
  have HW3 := Lib.hid (HW2.out.2.trans k3)
  clear hw3 h3 k3 u1 u2 u3 u4 u5 u6 u7 u8 u9 hE
  refine Lib.hid ?_
  go_wp2_with (go_at_call 27; refine hp.mono ?_; rintro e w4 ⟨rfl, h4, k4⟩; refine Hid.out ?_)
  have HF := Lib.hid (And.intro h4 (HW3.out.trans k4))
  clear h4 k4 hp
  refine Lib.hid ?_
  go_wp2
  go_end0
  exact ⟨rfl, by simpa [tx] using HF.out.1, HF.out.2⟩

end Go.Proofs.YtachmiajldeakaaGreatDoor
