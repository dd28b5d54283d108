/- GramLevels' walks (written by mklev.py). -/
import Derived.Test.YtjcdkgjfecnkgaaGreatDoorGuO
namespace Go.Proofs.YtjcdkgjfecnkgaaGreatDoor
open Go.RowKit Go.Maps Go.WideMaps

namespace Gram
theorem lvLen_all : ((List.range 17).all fun i => decide (((lvOps[i]?).getD []).length ≤ 3)) = true := by kernel_rfl
theorem lvLen (i : Nat) (h : i < 17) : ((lvOps[i]?).getD []).length ≤ 3 := of_decide_eq_true (List.all_eq_true.1 lvLen_all i (List.mem_range.2 h))
def lvI (i : Nat) : Int := (((lvOf[i]?).getD 0 : Nat) : Int)
end Gram
theorem catL (A B : ByteArray) : (A ++ B).data.toList = A.data.toList ++ B.data.toList := by simp

set_option maxHeartbeats 1600000 in
theorem gl_out (i j : Int) (w : World) (hl : LaidG w) (hn : i < 0 ∨ 17 ≤ i ∨ j < 0 ∨ 17 ≤ j) : Calls Tryz.prog 5 #[.int .i64 i, .int .i64 j] w fun e w' => e = .returned (.bool true) ∧ w.grownBy w' none := by
  have hal := alive_any w hl
  go_enter Tryz.func5, Tryz.ntmps5
  go_wp2_with (first | (go_at_call 9; refine hal.mono ?_; rintro e w1 ⟨rfl, hg1⟩) | (with_reducible refine hold_not ?_))
  refine hold_gen (fun W => w1.grownBy W none) (galloc (World.grownBy_alloc w1 _ none) _) ?_
  intro w2 hg2
  have HG := Lib.hid (hg1.trans hg2)
  clear hg1 hg2 hal
  go_wp2
  all_goals (go_ret; exact ⟨rfl, HG.out⟩)

/-- what is kept while the region goes on -/
theorem lvOn {w W W' : World} {g i j : Nat} {x y : ByteArray} {P Q : Int} (h : W.cell? ⟨g, i, none⟩ = some (.string x) ∧ W.cell? ⟨g, j, none⟩ = some (.string y) ∧ W.cell? ⟨g + 1, i, none⟩ = some (.int .i64 P) ∧ W.cell? ⟨g + 1, j, none⟩ = some (.int .i64 Q) ∧ LaidG W ∧ w.grownBy W none) (hg : W.grownBy W' none) :
    W'.cell? ⟨g, i, none⟩ = some (.string x) ∧ W'.cell? ⟨g, j, none⟩ = some (.string y) ∧ W'.cell? ⟨g + 1, i, none⟩ = some (.int .i64 P) ∧ W'.cell? ⟨g + 1, j, none⟩ = some (.int .i64 Q) ∧ LaidG W' ∧ w.grownBy W' none :=
  ⟨hg.cell h.1 (by simp), hg.cell h.2.1 (by simp), hg.cell h.2.2.1 (by simp), hg.cell h.2.2.2.1 (by simp), h.2.2.2.2.1.on hg, h.2.2.2.2.2.trans hg⟩
theorem lvLaid {w W : World} {g i j : Nat} {x y : ByteArray} {P Q : Int} (h : W.cell? ⟨g, i, none⟩ = some (.string x) ∧ W.cell? ⟨g, j, none⟩ = some (.string y) ∧ W.cell? ⟨g + 1, i, none⟩ = some (.int .i64 P) ∧ W.cell? ⟨g + 1, j, none⟩ = some (.int .i64 Q) ∧ LaidG W ∧ w.grownBy W none) : LaidG W := h.2.2.2.2.1
theorem lvDrew {w W : World} {g i j : Nat} {x y : ByteArray} {P Q : Int} (h : W.cell? ⟨g, i, none⟩ = some (.string x) ∧ W.cell? ⟨g, j, none⟩ = some (.string y) ∧ W.cell? ⟨g + 1, i, none⟩ = some (.int .i64 P) ∧ W.cell? ⟨g + 1, j, none⟩ = some (.int .i64 Q) ∧ LaidG W ∧ w.grownBy W none) :
    W.drew.cell? ⟨g, i, none⟩ = some (.string x) ∧ W.drew.cell? ⟨g, j, none⟩ = some (.string y) ∧ W.drew.cell? ⟨g + 1, i, none⟩ = some (.int .i64 P) ∧ W.drew.cell? ⟨g + 1, j, none⟩ = some (.int .i64 Q) ∧ LaidG W.drew ∧ w.grownBy W.drew none := lvOn h ⟨rfl, rfl, rfl, Nat.le_refl _, fun _ _ _ => rfl⟩
theorem newP {w w3 : World} (hg : (w.alloc (.cells #[.slice none 0 0] 25)).drew.grownBy w3 none) : w3.cell? ⟨w.heap.size, 0, none⟩ = some (.slice none 0 0) ∧ w3.frozen? ⟨w.heap.size, 0, none⟩ = false := by
  have hb := (hg.block w.heap.size (by simp) (by simp)).trans (heap_alloc_new w _)
  refine ⟨?_, frozen_of_row w3 _ 0 _ _ hb⟩
  rw [cell_of_row w3 _ 0 _ _ _ hb]; simp
theorem newP_set {w w3 : World} (v : Value) (hg : (w.alloc (.cells #[.slice none 0 0] 25)).drew.grownBy w3 none) : (w3.setCell ⟨w.heap.size, 0, none⟩ v).cell? ⟨w.heap.size, 0, none⟩ = some v := World.cell?_setCell_same _ _ _ (newP hg).1

set_option maxHeartbeats 3200000 in
theorem gl_same (i j : Nat) (hi : i < 17) (hj : j < 17) (P Q : Int) (hP : Gram.lvI i = P) (hQ : Gram.lvI j = Q) (h5 : (P == 5) = true) (h6 : (Q == 5) = true) (a : Int) (hp : Gram.parse (Gram.lvText i j) = .bad a 12) (w : World) (hl : LaidG w) : Calls Tryz.prog 5 #[.int .i64 (i : Int), .int .i64 (j : Int)] w fun e w' => e = .returned (.bool true) ∧ w.grownBy w' none := by
  have hal := alive_any w hl
  have d1 : decide ((i : Int) < 0) = false := by rw [decide_eq_false_iff_not]; omega
  have d2 : decide ((17 : Int) ≤ i) = false := by rw [decide_eq_false_iff_not]; omega
  have d3 : decide ((j : Int) < 0) = false := by rw [decide_eq_false_iff_not]; omega
  have d4 : decide ((17 : Int) ≤ j) = false := by rw [decide_eq_false_iff_not]; omega
  have hi2 : (i : Int) < 17 := by omega
  have hj2 : (j : Int) < 17 := by omega
  go_enter Tryz.func5, Tryz.ntmps5
  go_wp2_with (first | (go_at_call 9; refine hal.mono ?_; rintro e w1 ⟨rfl, hg1⟩) | (with_reducible refine hold_not ?_))
  refine hold_gen (fun W => (∀ t, t < 17 → W.cell? ⟨w1.heap.size, t, none⟩ = some (.string ⟨((Gram.lvOps[t]?).getD []).toArray⟩)) ∧ (∀ t, t < 17 → W.cell? ⟨w1.heap.size + 1, t, none⟩ = some (.int .i64 (Gram.lvI t))) ∧ w1.grownBy W none) ⟨fun t ht => (World.grownBy_alloc _ _ none).cell (row_strings w1 Gram.lvOps 9 t ht) (by simp), fun t ht => row_ints w1 _ Gram.lvOf 3 t ht, galloc (World.grownBy_alloc w1 _ none) _⟩ ?_
  rintro w2 ⟨hcs, hci, hg2⟩
  obtain ⟨x, hx⟩ : ∃ x : ByteArray, x = ⟨((Gram.lvOps[i]?).getD []).toArray⟩ := ⟨_, rfl⟩
  obtain ⟨y, hy⟩ : ∃ y : ByteArray, y = ⟨((Gram.lvOps[j]?).getD []).toArray⟩ := ⟨_, rfl⟩
  have s1 := hcs i hi
  have s2 := hcs j hj
  have s3 := hci i hi
  have s4 := hci j hj
  rw [← hx] at s1
  rw [← hy] at s2
  rw [hP] at s3
  rw [hQ] at s4
  have hl2 : LaidG w2 := (hl.on hg1).on hg2
  have hT : (⟨#[110, 111, 100, 101, 32, 102, 40, 41, 32, 114, 101, 116, 117, 114, 110, 115, 32, 40, 122, 58, 32, 105, 56, 41, 32, 108, 101, 116, 32, 122, 32, 61, 32, 97, 32]⟩ ++ x ++ ⟨#[32, 98, 32]⟩ ++ y ++ ⟨#[32, 99, 59, 32, 116, 101, 108]⟩ : ByteArray).data.toList = Gram.lvText i j := by
    rw [catL, catL, catL, catL, hx, hy]; simp [Gram.lvText]
  have x1 : x.size ≤ 3 := by have := Gram.lvLen i hi; rw [hx]; show (List.toArray _).size ≤ 3; simpa using this
  have y1 : y.size ≤ 3 := by have := Gram.lvLen j hj; rw [hy]; show (List.toArray _).size ≤ 3; simpa using this
  rw [← hT] at hp
  have HG := Lib.hid (hg1.trans hg2)
  clear hg1 hg2 hal hcs hci hT hx hy hP hQ hi hj
  have p1 := fun wx => run_string_add_sum (P := Tryz.prog) wx ⟨#[110, 111, 100, 101, 32, 102, 40, 41, 32, 114, 101, 116, 117, 114, 110, 115, 32, 40, 122, 58, 32, 105, 56, 41, 32, 108, 101, 116, 32, 122, 32, 61, 32, 97, 32]⟩ x (by show 35 + x.size ≤ _; omega)
  have p2 := fun wx => run_string_add_sum (P := Tryz.prog) wx (⟨#[110, 111, 100, 101, 32, 102, 40, 41, 32, 114, 101, 116, 117, 114, 110, 115, 32, 40, 122, 58, 32, 105, 56, 41, 32, 108, 101, 116, 32, 122, 32, 61, 32, 97, 32]⟩ ++ x) ⟨#[32, 98, 32]⟩ (by rw [ByteArray.size_append]; show 35 + x.size + 3 ≤ _; omega)
  have p3 := fun wx => run_string_add_sum (P := Tryz.prog) wx (⟨#[110, 111, 100, 101, 32, 102, 40, 41, 32, 114, 101, 116, 117, 114, 110, 115, 32, 40, 122, 58, 32, 105, 56, 41, 32, 108, 101, 116, 32, 122, 32, 61, 32, 97, 32]⟩ ++ x ++ ⟨#[32, 98, 32]⟩) y (by rw [ByteArray.size_append, ByteArray.size_append]; show 35 + x.size + 3 + y.size ≤ _; omega)
  have p4 := fun wx => run_string_add_sum (P := Tryz.prog) wx (⟨#[110, 111, 100, 101, 32, 102, 40, 41, 32, 114, 101, 116, 117, 114, 110, 115, 32, 40, 122, 58, 32, 105, 56, 41, 32, 108, 101, 116, 32, 122, 32, 61, 32, 97, 32]⟩ ++ x ++ ⟨#[32, 98, 32]⟩ ++ y) ⟨#[32, 99, 59, 32, 116, 101, 108]⟩ (by rw [ByteArray.size_append, ByteArray.size_append, ByteArray.size_append]; show 35 + x.size + 3 + y.size + 7 ≤ _; omega)
  have hS : w2.cell? ⟨w1.heap.size, i, none⟩ = some (.string x) ∧ w2.cell? ⟨w1.heap.size, j, none⟩ = some (.string y) ∧ w2.cell? ⟨w1.heap.size + 1, i, none⟩ = some (.int .i64 P) ∧ w2.cell? ⟨w1.heap.size + 1, j, none⟩ = some (.int .i64 Q) ∧ LaidG w2 ∧ w2.grownBy w2 none := ⟨s1, s2, s3, s4, hl2, World.grownBy.refl _ _⟩
  have HS2 := Lib.hid hS
  clear s1 s2 s3 s4 hl2
  go_wp2
  go_region_held3 (fun W => W.cell? ⟨w1.heap.size, i, none⟩ = some (.string x) ∧ W.cell? ⟨w1.heap.size, j, none⟩ = some (.string y) ∧ W.cell? ⟨w1.heap.size + 1, i, none⟩ = some (.int .i64 P) ∧ W.cell? ⟨w1.heap.size + 1, j, none⟩ = some (.int .i64 Q) ∧ LaidG W ∧ w2.grownBy W none) (first | exact hS | exact lvDrew hS | exact lvOn hS (World.grownBy_alloc _ _ none) | exact lvOn (lvDrew hS) (World.grownBy_alloc _ _ none) | exact lvOn HS2.out (gset hS.2.2.2.2.2 (.inl (Nat.le_refl _)) _))
      (first | (go_at_call 10; refine (gparse_bad hp (World.drew w2) (lvLaid (by assumption))).mono ?_; rintro e w3 ⟨rfl, hg3⟩; have hS := lvOn (by assumption) hg3) | (go_at_call 10; refine (gparse_bad hp (World.drew (World.alloc w2 (.cells #[.slice none 0 0] 25))) (lvLaid (by assumption))).mono ?_; rintro e w3 ⟨rfl, hg3⟩; have hS := lvOn (by assumption) hg3; have hz := (newP hg3).1; have hfz := (newP hg3).2))
  · rename_i hH
    have HG2 := Lib.hid (HG.out.trans hH.2.2.2.2.2)
    have t3 := hH.2.2.1
    have t4 := hH.2.2.2.1
    clear hH hS hg3 HS2 HG hp p1 p2 p3 p4
    go_wp2_with (go_at_call 13; refine (num_any _ _).mono ?_; rintro e w' ⟨rfl, rfl⟩)
    go_ret
    exact ⟨rfl, HG2.out⟩
  · rename_i hH
    have HG2 := Lib.hid (HG.out.trans hH.2.2.2.2.2)
    have t3 := hH.2.2.1
    have t4 := hH.2.2.2.1
    clear hH hS hz hfz hg3 HS2 HG hp p1 p2 p3 p4
    go_wp2_with (go_at_call 13; refine (num_any _ _).mono ?_; rintro e w' ⟨rfl, rfl⟩)
    go_ret
    exact ⟨rfl, HG2.out⟩

set_option maxHeartbeats 3200000 in
theorem gl_ok (i j : Nat) (hi : i < 17) (hj : j < 17) (P Q : Int) (hP : Gram.lvI i = P) (hQ : Gram.lvI j = Q) (xx yy : Gram.Exp) (h2 : Gram.twoKids (Gram.parse (Gram.lvText i j)) = some (xx, yy)) (hw : ((xx.name = [97] ∧ yy.kids.length = 2) ∧ (P == 5) = false ∧ decide (P < Q) = true) ∨ ((xx.name = [97] ∧ yy.kids.length = 2) ∧ (P == 5) = false ∧ decide (P < Q) = false ∧ (P == Q) = true ∧ decide (P ≤ 2) = true) ∨ ((yy.name = [99] ∧ xx.kids.length = 2) ∧ (P == 5) = false ∧ decide (P < Q) = false ∧ (P == Q) = false) ∨ ((yy.name = [99] ∧ xx.kids.length = 2) ∧ (P == 5) = false ∧ decide (P < Q) = false ∧ (P == Q) = true ∧ decide (P ≤ 2) = false) ∨ ((xx.name = [97] ∧ yy.kids.length = 2) ∧ (P == 5) = true ∧ (Q == 5) = false ∧ decide (P < Q) = true) ∨ ((yy.name = [99] ∧ xx.kids.length = 2) ∧ (P == 5) = true ∧ (Q == 5) = false ∧ decide (P < Q) = false ∧ (P == Q) = false)) (w : World) (hl : LaidG w) : Calls Tryz.prog 5 #[.int .i64 (i : Int), .int .i64 (j : Int)] w fun e w' => e = .returned (.bool true) ∧ w.grownBy w' none := by
  have hal := alive_any w hl
  obtain ⟨nm, ins, outs, ls, ns, f, s, en, tk, tl, n, m, at1, ss, at2, at3, hp⟩ := Gram.two_form h2
  clear h2
  have HW := Lib.hid hw
  clear hw
  have d1 : decide ((i : Int) < 0) = false := by rw [decide_eq_false_iff_not]; omega
  have d2 : decide ((17 : Int) ≤ i) = false := by rw [decide_eq_false_iff_not]; omega
  have d3 : decide ((j : Int) < 0) = false := by rw [decide_eq_false_iff_not]; omega
  have d4 : decide ((17 : Int) ≤ j) = false := by rw [decide_eq_false_iff_not]; omega
  have hi2 : (i : Int) < 17 := by omega
  have hj2 : (j : Int) < 17 := by omega
  go_enter Tryz.func5, Tryz.ntmps5
  go_wp2_with (first | (go_at_call 9; refine hal.mono ?_; rintro e w1 ⟨rfl, hg1⟩) | (with_reducible refine hold_not ?_))
  refine hold_gen (fun W => (∀ t, t < 17 → W.cell? ⟨w1.heap.size, t, none⟩ = some (.string ⟨((Gram.lvOps[t]?).getD []).toArray⟩)) ∧ (∀ t, t < 17 → W.cell? ⟨w1.heap.size + 1, t, none⟩ = some (.int .i64 (Gram.lvI t))) ∧ w1.grownBy W none) ⟨fun t ht => (World.grownBy_alloc _ _ none).cell (row_strings w1 Gram.lvOps 9 t ht) (by simp), fun t ht => row_ints w1 _ Gram.lvOf 3 t ht, galloc (World.grownBy_alloc w1 _ none) _⟩ ?_
  rintro w2 ⟨hcs, hci, hg2⟩
  obtain ⟨x, hx⟩ : ∃ x : ByteArray, x = ⟨((Gram.lvOps[i]?).getD []).toArray⟩ := ⟨_, rfl⟩
  obtain ⟨y, hy⟩ : ∃ y : ByteArray, y = ⟨((Gram.lvOps[j]?).getD []).toArray⟩ := ⟨_, rfl⟩
  have s1 := hcs i hi
  have s2 := hcs j hj
  have s3 := hci i hi
  have s4 := hci j hj
  rw [← hx] at s1
  rw [← hy] at s2
  rw [hP] at s3
  rw [hQ] at s4
  have hl2 : LaidG w2 := (hl.on hg1).on hg2
  have hT : (⟨#[110, 111, 100, 101, 32, 102, 40, 41, 32, 114, 101, 116, 117, 114, 110, 115, 32, 40, 122, 58, 32, 105, 56, 41, 32, 108, 101, 116, 32, 122, 32, 61, 32, 97, 32]⟩ ++ x ++ ⟨#[32, 98, 32]⟩ ++ y ++ ⟨#[32, 99, 59, 32, 116, 101, 108]⟩ : ByteArray).data.toList = Gram.lvText i j := by
    rw [catL, catL, catL, catL, hx, hy]; simp [Gram.lvText]
  have x1 : x.size ≤ 3 := by have := Gram.lvLen i hi; rw [hx]; show (List.toArray _).size ≤ 3; simpa using this
  have y1 : y.size ≤ 3 := by have := Gram.lvLen j hj; rw [hy]; show (List.toArray _).size ≤ 3; simpa using this
  rw [← hT] at hp
  have HG := Lib.hid (hg1.trans hg2)
  clear hg1 hg2 hal hcs hci hT hx hy hP hQ hi hj
  have p1 := fun wx => run_string_add_sum (P := Tryz.prog) wx ⟨#[110, 111, 100, 101, 32, 102, 40, 41, 32, 114, 101, 116, 117, 114, 110, 115, 32, 40, 122, 58, 32, 105, 56, 41, 32, 108, 101, 116, 32, 122, 32, 61, 32, 97, 32]⟩ x (by show 35 + x.size ≤ _; omega)
  have p2 := fun wx => run_string_add_sum (P := Tryz.prog) wx (⟨#[110, 111, 100, 101, 32, 102, 40, 41, 32, 114, 101, 116, 117, 114, 110, 115, 32, 40, 122, 58, 32, 105, 56, 41, 32, 108, 101, 116, 32, 122, 32, 61, 32, 97, 32]⟩ ++ x) ⟨#[32, 98, 32]⟩ (by rw [ByteArray.size_append]; show 35 + x.size + 3 ≤ _; omega)
  have p3 := fun wx => run_string_add_sum (P := Tryz.prog) wx (⟨#[110, 111, 100, 101, 32, 102, 40, 41, 32, 114, 101, 116, 117, 114, 110, 115, 32, 40, 122, 58, 32, 105, 56, 41, 32, 108, 101, 116, 32, 122, 32, 61, 32, 97, 32]⟩ ++ x ++ ⟨#[32, 98, 32]⟩) y (by rw [ByteArray.size_append, ByteArray.size_append]; show 35 + x.size + 3 + y.size ≤ _; omega)
  have p4 := fun wx => run_string_add_sum (P := Tryz.prog) wx (⟨#[110, 111, 100, 101, 32, 102, 40, 41, 32, 114, 101, 116, 117, 114, 110, 115, 32, 40, 122, 58, 32, 105, 56, 41, 32, 108, 101, 116, 32, 122, 32, 61, 32, 97, 32]⟩ ++ x ++ ⟨#[32, 98, 32]⟩ ++ y) ⟨#[32, 99, 59, 32, 116, 101, 108]⟩ (by rw [ByteArray.size_append, ByteArray.size_append, ByteArray.size_append]; show 35 + x.size + 3 + y.size + 7 ≤ _; omega)
  have hS : w2.cell? ⟨w1.heap.size, i, none⟩ = some (.string x) ∧ w2.cell? ⟨w1.heap.size, j, none⟩ = some (.string y) ∧ w2.cell? ⟨w1.heap.size + 1, i, none⟩ = some (.int .i64 P) ∧ w2.cell? ⟨w1.heap.size + 1, j, none⟩ = some (.int .i64 Q) ∧ LaidG w2 ∧ w2.grownBy w2 none := ⟨s1, s2, s3, s4, hl2, World.grownBy.refl _ _⟩
  have HS2 := Lib.hid hS
  clear s1 s2 s3 s4 hl2
  go_wp2
  go_region_held3 (fun W => W.cell? ⟨w1.heap.size, i, none⟩ = some (.string x) ∧ W.cell? ⟨w1.heap.size, j, none⟩ = some (.string y) ∧ W.cell? ⟨w1.heap.size + 1, i, none⟩ = some (.int .i64 P) ∧ W.cell? ⟨w1.heap.size + 1, j, none⟩ = some (.int .i64 Q) ∧ LaidG W ∧ w2.grownBy W none) (first | exact hS | exact lvDrew hS | exact lvOn hS (World.grownBy_alloc _ _ none) | exact lvOn (lvDrew hS) (World.grownBy_alloc _ _ none) | exact lvOn HS2.out (gset hS.2.2.2.2.2 (.inl (Nat.le_refl _)) _))
      (first | (go_at_call 10; refine (gparse_ok hp (World.drew w2) (lvLaid (by assumption))).mono ?_; rintro e w3 ⟨v, rfl, hk3, hg3⟩; obtain ⟨va, vn, vc, rfl⟩ := hk3.form; have hS := lvOn (by assumption) hg3) | (go_at_call 10; refine (gparse_ok hp (World.drew (World.alloc w2 (.cells #[.slice none 0 0] 25))) (lvLaid (by assumption))).mono ?_; rintro e w3 ⟨v, rfl, hk3, hg3⟩; obtain ⟨va, vn, vc, rfl⟩ := hk3.form; have hS := lvOn (by assumption) hg3; have hz := (newP hg3).1; have hfz := (newP hg3).2))
  · have hq0 := cell_alloc_zero w3 (.slice va vn vc) 25
    have hk4 : RepC (w3.alloc (.cells #[.slice va vn vc] 25)) _ [] _ _ := RepC.kept (World.grownBy_alloc w3 _ none) (fun k e => by cases e) hk3
    obtain ⟨W, hW⟩ : ∃ W, W = w3.alloc (.cells #[.slice va vn vc] 25) := ⟨_, rfl⟩
    obtain ⟨b, hb⟩ : ∃ b, b = w3.heap.size := ⟨_, rfl⟩
    rename_i hH
    have hg5 := hH.2.2.2.2.2
    have t3 := hH.2.2.1
    have t4 := hH.2.2.2.1
    rw [← hW] at hq0 hk4 hg5 t3 t4 ⊢
    rw [← hb] at hq0 ⊢
    clear hH hS hg3 hk3 HS2 hp p1 p2 p3 p4
    have HG2 := Lib.hid (HG.out.trans hg5)
    clear HG hg5 hW hb
    obtain ⟨g1, c1, g2, c2, g3, c3, a1, n1, m1, a2, n2, m2, xa, xc, ya, yc, e1, q4, ⟨i0, i1, i2, i3, i4, i5, i6, i7, i8, i9, i10, i11⟩, k2, k7, k11, k16⟩ := two_cells hk4
    cases e1
    have hB : W.grownBy (W.alloc (.cells #[.int .i64 f, .int .i64 s, .string ⟨en.toArray⟩, .int .i64 tk, .int .i64 tl, .int .i64 n, .int .i64 m, .slice (some ⟨g3, 0, none⟩) 2 c3, .int .i64 at1] 42)) none := World.grownBy_alloc _ _ none
    have r3 := hB.cell t3 (by simp)
    have r4 := hB.cell t4 (by simp)
    have k2' := hB.cell k2 (by simp)
    have k7' := hB.cell k7 (by simp)
    have k11' := hB.cell k11 (by simp)
    have k16' := hB.cell k16 (by simp)
    have HG3 := Lib.hid (HG2.out.trans hB)
    clear hB hk4 i0 i10 i11 k2 k7 k11 k16 HG2
    rcases HW.out with hw | hw | hw | hw | hw | hw
    · obtain ⟨⟨hk1, hk2⟩, u0, u1⟩ := hw
      rw [hk1] at k2'
      rw [hk2] at k16'
      clear HW
      go_wp2_with (go_at_call 13; refine (num_any _ _).mono ?_; rintro e w' ⟨rfl, rfl⟩)
      go_quiet (fail)
      go_wp2
      go_ret
      exact ⟨rfl, ⟨HG3.out.os, HG3.out.tape, HG3.out.output, HG3.out.size, HG3.out.block⟩⟩
    · obtain ⟨⟨hk1, hk2⟩, u0, u1, u2, u3⟩ := hw
      rw [hk1] at k2'
      rw [hk2] at k16'
      clear HW
      go_wp2_with (go_at_call 13; refine (num_any _ _).mono ?_; rintro e w' ⟨rfl, rfl⟩)
      go_quiet (fail)
      go_wp2
      go_ret
      exact ⟨rfl, ⟨HG3.out.os, HG3.out.tape, HG3.out.output, HG3.out.size, HG3.out.block⟩⟩
    · obtain ⟨⟨hk1, hk2⟩, u0, u1, u2⟩ := hw
      rw [hk1] at k11'
      rw [hk2] at k7'
      clear HW
      go_wp2_with (go_at_call 13; refine (num_any _ _).mono ?_; rintro e w' ⟨rfl, rfl⟩)
      go_quiet (fail)
      go_wp2
      go_ret
      exact ⟨rfl, ⟨HG3.out.os, HG3.out.tape, HG3.out.output, HG3.out.size, HG3.out.block⟩⟩
    · obtain ⟨⟨hk1, hk2⟩, u0, u1, u2, u3⟩ := hw
      rw [hk1] at k11'
      rw [hk2] at k7'
      clear HW
      go_wp2_with (go_at_call 13; refine (num_any _ _).mono ?_; rintro e w' ⟨rfl, rfl⟩)
      go_quiet (fail)
      go_wp2
      go_ret
      exact ⟨rfl, ⟨HG3.out.os, HG3.out.tape, HG3.out.output, HG3.out.size, HG3.out.block⟩⟩
    · obtain ⟨⟨hk1, hk2⟩, u0, u1, u2⟩ := hw
      rw [hk1] at k2'
      rw [hk2] at k16'
      clear HW
      go_wp2_with (go_at_call 13; refine (num_any _ _).mono ?_; rintro e w' ⟨rfl, rfl⟩)
      go_quiet (fail)
      go_wp2
      go_ret
      exact ⟨rfl, ⟨HG3.out.os, HG3.out.tape, HG3.out.output, HG3.out.size, HG3.out.block⟩⟩
    · obtain ⟨⟨hk1, hk2⟩, u0, u1, u2, u3⟩ := hw
      rw [hk1] at k11'
      rw [hk2] at k7'
      clear HW
      go_wp2_with (go_at_call 13; refine (num_any _ _).mono ?_; rintro e w' ⟨rfl, rfl⟩)
      go_quiet (fail)
      go_wp2
      go_ret
      exact ⟨rfl, ⟨HG3.out.os, HG3.out.tape, HG3.out.output, HG3.out.size, HG3.out.block⟩⟩
  · have hq0 := newP_set (.slice va vn vc) hg3
    have hk4 : RepC (w3.setCell ⟨w2.heap.size, 0, none⟩ (.slice va vn vc)) _ [] _ _ := RepC.kept (grown_set _ ⟨w2.heap.size, 0, none⟩ _) (fun k e => by cases e; show w2.heap.size < (w2.alloc _).heap.size; simp) hk3
    obtain ⟨W, hW⟩ : ∃ W, W = w3.setCell ⟨w2.heap.size, 0, none⟩ (.slice va vn vc) := ⟨_, rfl⟩
    obtain ⟨b, hb⟩ : ∃ b, b = w2.heap.size := ⟨_, rfl⟩
    rename_i hH
    have hg5 := hH.2.2.2.2.2
    have t3 := hH.2.2.1
    have t4 := hH.2.2.2.1
    rw [← hW] at hq0 hk4 hg5 t3 t4 ⊢
    rw [← hb] at hq0 ⊢
    clear hH hS hg3 hk3 HS2 hp p1 p2 p3 p4 hz hfz
    have HG2 := Lib.hid (HG.out.trans hg5)
    clear HG hg5 hW hb
    obtain ⟨g1, c1, g2, c2, g3, c3, a1, n1, m1, a2, n2, m2, xa, xc, ya, yc, e1, q4, ⟨i0, i1, i2, i3, i4, i5, i6, i7, i8, i9, i10, i11⟩, k2, k7, k11, k16⟩ := two_cells hk4
    cases e1
    have hB : W.grownBy (W.alloc (.cells #[.int .i64 f, .int .i64 s, .string ⟨en.toArray⟩, .int .i64 tk, .int .i64 tl, .int .i64 n, .int .i64 m, .slice (some ⟨g3, 0, none⟩) 2 c3, .int .i64 at1] 42)) none := World.grownBy_alloc _ _ none
    have r3 := hB.cell t3 (by simp)
    have r4 := hB.cell t4 (by simp)
    have k2' := hB.cell k2 (by simp)
    have k7' := hB.cell k7 (by simp)
    have k11' := hB.cell k11 (by simp)
    have k16' := hB.cell k16 (by simp)
    have HG3 := Lib.hid (HG2.out.trans hB)
    clear hB hk4 i0 i10 i11 k2 k7 k11 k16 HG2
    rcases HW.out with hw | hw | hw | hw | hw | hw
    · obtain ⟨⟨hk1, hk2⟩, u0, u1⟩ := hw
      rw [hk1] at k2'
      rw [hk2] at k16'
      clear HW
      go_wp2_with (go_at_call 13; refine (num_any _ _).mono ?_; rintro e w' ⟨rfl, rfl⟩)
      go_quiet (fail)
      go_wp2
      go_ret
      exact ⟨rfl, ⟨HG3.out.os, HG3.out.tape, HG3.out.output, HG3.out.size, HG3.out.block⟩⟩
    · obtain ⟨⟨hk1, hk2⟩, u0, u1, u2, u3⟩ := hw
      rw [hk1] at k2'
      rw [hk2] at k16'
      clear HW
      go_wp2_with (go_at_call 13; refine (num_any _ _).mono ?_; rintro e w' ⟨rfl, rfl⟩)
      go_quiet (fail)
      go_wp2
      go_ret
      exact ⟨rfl, ⟨HG3.out.os, HG3.out.tape, HG3.out.output, HG3.out.size, HG3.out.block⟩⟩
    · obtain ⟨⟨hk1, hk2⟩, u0, u1, u2⟩ := hw
      rw [hk1] at k11'
      rw [hk2] at k7'
      clear HW
      go_wp2_with (go_at_call 13; refine (num_any _ _).mono ?_; rintro e w' ⟨rfl, rfl⟩)
      go_quiet (fail)
      go_wp2
      go_ret
      exact ⟨rfl, ⟨HG3.out.os, HG3.out.tape, HG3.out.output, HG3.out.size, HG3.out.block⟩⟩
    · obtain ⟨⟨hk1, hk2⟩, u0, u1, u2, u3⟩ := hw
      rw [hk1] at k11'
      rw [hk2] at k7'
      clear HW
      go_wp2_with (go_at_call 13; refine (num_any _ _).mono ?_; rintro e w' ⟨rfl, rfl⟩)
      go_quiet (fail)
      go_wp2
      go_ret
      exact ⟨rfl, ⟨HG3.out.os, HG3.out.tape, HG3.out.output, HG3.out.size, HG3.out.block⟩⟩
    · obtain ⟨⟨hk1, hk2⟩, u0, u1, u2⟩ := hw
      rw [hk1] at k2'
      rw [hk2] at k16'
      clear HW
      go_wp2_with (go_at_call 13; refine (num_any _ _).mono ?_; rintro e w' ⟨rfl, rfl⟩)
      go_quiet (fail)
      go_wp2
      go_ret
      exact ⟨rfl, ⟨HG3.out.os, HG3.out.tape, HG3.out.output, HG3.out.size, HG3.out.block⟩⟩
    · obtain ⟨⟨hk1, hk2⟩, u0, u1, u2, u3⟩ := hw
      rw [hk1] at k11'
      rw [hk2] at k7'
      clear HW
      go_wp2_with (go_at_call 13; refine (num_any _ _).mono ?_; rintro e w' ⟨rfl, rfl⟩)
      go_quiet (fail)
      go_wp2
      go_ret
      exact ⟨rfl, ⟨HG3.out.os, HG3.out.tape, HG3.out.output, HG3.out.size, HG3.out.block⟩⟩

theorem gramLevels_walk (i j : Int) (w : World) (hl : LaidG w) : Calls Tryz.prog 5 #[.int .i64 i, .int .i64 j] w fun e w' => e = .returned (.bool true) ∧ w.grownBy w' none := by
  by_cases hn : i < 0 ∨ 17 ≤ i ∨ j < 0 ∨ 17 ≤ j
  · exact gl_out i j w hl hn
  obtain ⟨a, rfl⟩ : ∃ m : Nat, i = (m : Int) := ⟨i.toNat, by omega⟩
  obtain ⟨b, rfl⟩ : ∃ m : Nat, j = (m : Int) := ⟨j.toNat, by omega⟩
  have hi : a < 17 := by omega
  have hj : b < 17 := by omega
  have hL := Gram.levels a b hi hj
  unfold Gram.lvB at hL
  obtain ⟨p, hp⟩ : ∃ p, p = (Gram.lvOf[a]?).getD 0 := ⟨_, rfl⟩
  obtain ⟨q, hq⟩ : ∃ q, q = (Gram.lvOf[b]?).getD 0 := ⟨_, rfl⟩
  have hP : Gram.lvI a = (p : Int) := by unfold Gram.lvI; rw [hp]
  have hQ : Gram.lvI b = (q : Int) := by unfold Gram.lvI; rw [hq]
  have hS : Gram.lvSame a b = (decide (p = 5) && decide (q = 5)) := by unfold Gram.lvSame; rw [hp, hq]
  have hR : Gram.lvRight a b = (decide (p < q) || (decide (p = q) && decide (p ≤ 2))) := by unfold Gram.lvRight; rw [hp, hq]
  clear hp hq hn
  by_cases h5 : p = 5 ∧ q = 5
  · rw [hS, show (decide (p = 5) && decide (q = 5)) = true by simp [h5.1, h5.2], if_pos rfl] at hL
    split at hL
    · next a0 e0 he =>
      rw [beq_iff_eq] at hL
      subst hL
      exact gl_same a b hi hj _ _ hP hQ (by simp [h5.1]) (by simp [h5.2]) a0 he w hl
    · cases hL
  · have hS0 : (decide (p = 5) && decide (q = 5)) = false := by
      rw [Bool.eq_false_iff]; intro h; simp at h; exact h5 h
    rw [hS, hS0, if_neg (by simp)] at hL
    split at hL
    · next xx yy h2 =>
      refine gl_ok a b hi hj _ _ hP hQ xx yy h2 ?_ w hl
      by_cases hr : p < q ∨ (p = q ∧ p ≤ 2)
      · rw [hR, show (decide (p < q) || (decide (p = q) && decide (p ≤ 2))) = true by rw [Bool.or_eq_true, Bool.and_eq_true, decide_eq_true_iff, decide_eq_true_iff, decide_eq_true_iff]; exact hr, if_pos rfl, Bool.and_eq_true, beq_iff_eq, beq_iff_eq] at hL
        by_cases hp5 : p = 5
        · exact .inr (.inr (.inr (.inr (.inl ⟨hL, by simp [hp5], by rw [beq_eq_false_iff_ne]; omega, by rw [decide_eq_true_iff]; omega⟩))))
        · by_cases hlt : p < q
          · exact .inl ⟨hL, by rw [beq_eq_false_iff_ne]; omega, by rw [decide_eq_true_iff]; omega⟩
          · exact .inr (.inl ⟨hL, by rw [beq_eq_false_iff_ne]; omega, by rw [decide_eq_false_iff_not]; omega, by rw [beq_iff_eq]; omega, by rw [decide_eq_true_iff]; omega⟩)
      · rw [hR, show (decide (p < q) || (decide (p = q) && decide (p ≤ 2))) = false by rw [Bool.eq_false_iff]; intro h; simp at h; exact hr h, if_neg (by simp), Bool.and_eq_true, beq_iff_eq, beq_iff_eq] at hL
        by_cases hp5 : p = 5
        · exact .inr (.inr (.inr (.inr (.inr ⟨hL, by simp [hp5], by rw [beq_eq_false_iff_ne]; omega, by rw [decide_eq_false_iff_not]; omega, by rw [beq_eq_false_iff_ne]; omega⟩))))
        · by_cases he : p = q
          · exact .inr (.inr (.inr (.inl ⟨hL, by rw [beq_eq_false_iff_ne]; omega, by rw [decide_eq_false_iff_not]; omega, by rw [beq_iff_eq]; omega, by rw [decide_eq_false_iff_not]; omega⟩)))
          · exact .inr (.inr (.inl ⟨hL, by rw [beq_eq_false_iff_ne]; omega, by rw [decide_eq_false_iff_not]; omega, by rw [beq_eq_false_iff_ne]; omega⟩))
    · cases hL

end Go.Proofs.YtjcdkgjfecnkgaaGreatDoor
