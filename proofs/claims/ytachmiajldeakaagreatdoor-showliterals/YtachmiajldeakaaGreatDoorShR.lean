/- show: Exp at a literal, Print at the document's example. -/
import Derived.Test.YtachmiajldeakaaGreatDoorShO
namespace Go.Proofs.YtachmiajldeakaaGreatDoor
open Go.RowKit Go.Maps Go.WideMaps

theorem grown_of_kb {w w2 w4 : World} {B b : Nat} (hg : w.grownBy w2 none) (hB : w.heap.size ≤ B) (k : Kb B b w2 w4) : w.grownBy w4 none :=
  ⟨k.below.os.trans hg.os, k.below.tape.trans hg.tape, k.below.output.trans hg.output, Nat.le_trans hg.size k.below.size, fun i hi hn => (k.below.block i (by omega)).trans (hg.block i hi hn)⟩
theorem litL_ne (k n : Int) : Lex.litL k n ≠ [] := by
  unfold Lex.litL
  split
  · split <;> simp
  · split
    · have := (Lex.dec_facts (if 0 ≤ n then n.toNat else (n + 18446744073709551616).toNat)).2.1
      simp [this]
    · split
      · simp
      · have := (Lex.dec_facts n.toNat).2.1
        simp [this]
theorem litL_le (k n : Int) (hk : isLit k n) (i1 : -9223372036854775808 ≤ n) (i2 : n ≤ 9223372036854775807) : (Lex.litL k n).length ≤ 30 := by
  rcases hk with ⟨rfl, rfl | rfl⟩ | ⟨h2, h9⟩
  · decide
  · decide
  · by_cases hb : 0 ≤ n ∨ k = 9
    · exact (litL_len k n h2 h9 i1 i2 hb).2
    · exact (litL_lenN k n h2 h9 i1 i2 hb).2

set_option maxHeartbeats 4000000 in
theorem showExp_lit (k n : Int) (hk : isLit k n) (i1 : -9223372036854775808 ≤ n) (i2 : n ≤ 9223372036854775807) (w : World) (ht : Tab w) :
    Calls Tryz.prog 6 #[litV k n 0 none 0 0] w fun e w' => e = .returned (.string ⟨(Lex.litL k n).toArray⟩) ∧ w.grownBy w' none := by
  have hne := litL_ne k n
  have hN := newPrinter_any (w.alloc (litC k n 0 none 0 0))
  rw [World.size_alloc] at hN
  have hX := fun (W : World) (hg : (w.alloc (litC k n 0 none 0 0)).grownBy W none) (h : Pr (w.heap.size + 1) (w.heap.size + 1 + 1) [] W) =>
    exp_literal (w.heap.size + 1) (w.heap.size + 1 + 1) [] (Lex.litL k n) 0 k 0 n 0 0 ⟨#[]⟩ none 0 0 W h (by have := hg.size; rw [World.size_alloc] at this; exact this) (fun W' hg' => by
      have := literal_any (w.heap.size + 1) (w.heap.size + 1 + 1) [] k n 0 hk i1 i2 none 0 0 W' (h.grown hg') (by have := hg.size; have := hg'.size; rw [World.size_alloc] at *; omega) (ht.grown (((World.grownBy_alloc w _ none).trans hg).trans hg')) (by simp)
      rw [List.nil_append] at this
      exact this)
  have HX := Lib.hid hX
  clear hX ht
  unfold litV
  unfold litC at hN HX
  go_enter Tryz.func6, Tryz.ntmps6
  go_wp2_with (go_at_call 12; refine hN.mono ?_; rintro e w2 ⟨rfl, h2, hg2⟩; refine Hid.out ?_)
  have hx := HX.out w2 hg2 h2
  have hr := (hg2.block w.heap.size (by simp) (by simp)).trans (heap_alloc_new w _)
  have u0 := cell_of_row w2 _ 0 _ _ _ hr
  have u1 := cell_of_row w2 _ 1 _ _ _ hr
  have u2 := cell_of_row w2 _ 2 _ _ _ hr
  have u3 := cell_of_row w2 _ 3 _ _ _ hr
  have u4 := cell_of_row w2 _ 4 _ _ _ hr
  have u5 := cell_of_row w2 _ 5 _ _ _ hr
  have u6 := cell_of_row w2 _ 6 _ _ _ hr
  have u7 := cell_of_row w2 _ 7 _ _ _ hr
  have u8 := cell_of_row w2 _ 8 _ _ _ hr
  have HG := Lib.hid ((World.grownBy_alloc w _ none).trans hg2)
  clear hr hg2 h2 hN HX
  refine Lib.hid ?_
  go_wp2_with (go_at_call 13; refine hx.mono ?_; rintro e w3 ⟨rfl, h3, k3⟩; refine Hid.out ?_)
  have hst := bstring_any _ _ _ w3 h3 hne
  have HK := Lib.hid k3
  clear h3 k3 u0 u1 u2 u3 u4 u5 u6 u7 u8 hx
  refine Lib.hid ?_
  go_wp2_with (go_at_call 14; refine hst.mono ?_; rintro e w4 ⟨rfl, k4⟩)
  go_ret
  exact ⟨rfl, grown_of_kb HG.out (Nat.le_succ _) (HK.out.trans k4)⟩

end Go.Proofs.YtachmiajldeakaaGreatDoor
