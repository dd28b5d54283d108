/- rate's queue: Less and Swap. -/
import Derived.Test.YtncbaeephnahjaaRaA
namespace Go.Proofs.Ytncbaeephnahjaa
open Go.RowKit Go.Maps Go.WideMaps Go.Shelf
open Rat (at_)

theorem less_num (x y : Nat) : orI (cmpI ((x / 64 : Nat) : Int) ((y / 64 : Nat) : Int)) (cmpI ((x % 64 : Nat) : Int) ((y % 64 : Nat) : Int)) < 0 ↔ x < y := by
  have hx := Nat.div_add_mod x 64
  have hy := Nat.div_add_mod y 64
  have h1 := Nat.mod_lt x (show 0 < 64 by decide)
  have h2 := Nat.mod_lt y (show 0 < 64 by decide)
  generalize x / 64 = a at *
  generalize x % 64 = b at *
  generalize y / 64 = c at *
  generalize y % 64 = d at *
  unfold orI cmpI
  split <;> split <;> (try split) <;> (try split) <;> omega

theorem l4Drew {W V : World} {p q r s : Addr} {t1 p1 t2 p2 : Value} (h : V.cell? p = some t1 ∧ V.cell? q = some p1 ∧ V.cell? r = some t2 ∧ V.cell? s = some p2 ∧ W.grownBy V none) : V.drew.cell? p = some t1 ∧ V.drew.cell? q = some p1 ∧ V.drew.cell? r = some t2 ∧ V.drew.cell? s = some p2 ∧ W.grownBy V.drew none :=
  ⟨h.1, h.2.1, h.2.2.1, h.2.2.2.1, ⟨h.2.2.2.2.os, h.2.2.2.2.tape, h.2.2.2.2.output, h.2.2.2.2.size, h.2.2.2.2.block⟩⟩
theorem l4On {W V V' : World} {p q r s : Addr} {t1 p1 t2 p2 : Value} (h : V.cell? p = some t1 ∧ V.cell? q = some p1 ∧ V.cell? r = some t2 ∧ V.cell? s = some p2 ∧ W.grownBy V none) (g : V.grownBy V' none) : V'.cell? p = some t1 ∧ V'.cell? q = some p1 ∧ V'.cell? r = some t2 ∧ V'.cell? s = some p2 ∧ W.grownBy V' none :=
  ⟨g.cell h.1 (by simp), g.cell h.2.1 (by simp), g.cell h.2.2.1 (by simp), g.cell h.2.2.2.1 (by simp), h.2.2.2.2.trans g⟩

set_option maxHeartbeats 1600000 in
set_option maxRecDepth 20000 in
theorem less_any (g n c i j x y : Nat) (w : World) (_hn : n ≤ 1000000) (hi : i < n) (hj : j < n)
    (c0 : w.cell? ⟨g, i * 2, none⟩ = some (.int .i64 ((x / 64 : Nat) : Int))) (c1 : w.cell? ⟨g, i * 2 + 1, none⟩ = some (.int .i64 ((x % 64 : Nat) : Int)))
    (c2 : w.cell? ⟨g, j * 2, none⟩ = some (.int .i64 ((y / 64 : Nat) : Int))) (c3 : w.cell? ⟨g, j * 2 + 1, none⟩ = some (.int .i64 ((y % 64 : Nat) : Int))) :
    Calls Try.prog 45 #[.slice (some ⟨g, 0, none⟩) n c, .int .i64 (i : Int), .int .i64 (j : Int)] w fun e w' => e = .returned (.bool (decide (x < y))) ∧ w.grownBy w' none := by
  have hcmp := compare_any
  have hor : ∀ (x y : Int) (V : World), Calls Try.prog 47 #[.slice (some ⟨V.heap.size, 0, none⟩) 2 2] (V.alloc (.cells #[.int .i64 x, .int .i64 y] 3)).drew fun e w' => e = .returned (.int .i64 (orI x y)) ∧ w' = (V.alloc (.cells #[.int .i64 x, .int .i64 y] 3)).drew := fun x y V => or_any x y _ _ (heap_alloc_new V _)
  have hnum := less_num x y
  generalize ((x / 64 : Nat) : Int) = t1 at *
  generalize ((x % 64 : Nat) : Int) = p1 at *
  generalize ((y / 64 : Nat) : Int) = t2 at *
  generalize ((y % 64 : Nat) : Int) = p2 at *
  have HN := Lib.hid hnum
  clear hnum
  go_enter Try.func45, Try.ntmps45
  go_wp2
  have hS : w.cell? ⟨g, i * 2, none⟩ = some (.int .i64 t1) ∧ w.cell? ⟨g, i * 2 + 1, none⟩ = some (.int .i64 p1) ∧ w.cell? ⟨g, j * 2, none⟩ = some (.int .i64 t2) ∧ w.cell? ⟨g, j * 2 + 1, none⟩ = some (.int .i64 p2) ∧ w.grownBy w none := ⟨c0, c1, c2, c3, World.grownBy.refl _ _⟩
  go_region_held3 (fun V => V.cell? ⟨g, i * 2, none⟩ = some (.int .i64 t1) ∧ V.cell? ⟨g, i * 2 + 1, none⟩ = some (.int .i64 p1) ∧ V.cell? ⟨g, j * 2, none⟩ = some (.int .i64 t2) ∧ V.cell? ⟨g, j * 2 + 1, none⟩ = some (.int .i64 p2) ∧ w.grownBy V none) (first | exact hS | exact l4Drew hS | exact l4On hS (World.grownBy_alloc _ _ none) | exact l4Drew (l4On hS (World.grownBy_alloc _ _ none)))
    (first | (go_at_call 48; refine (hcmp _ _ _).mono ?_; rintro e w4 ⟨rfl, rfl⟩) | (go_at_call 47; refine (hor _ _ _).mono ?_; rintro e w4 ⟨rfl, rfl⟩))
  go_wp2
  go_ret
  exact ⟨by simp [HN.out], (l4Drew (l4On hS (World.grownBy_alloc _ _ none))).2.2.2.2⟩

theorem grown_set (w : World) (a : Addr) (v : Value) : w.grownBy (w.setCell a v) (some a.block) :=
  ⟨rfl, rfl, rfl, by simp [World.setCell], fun k _ hk => heap_setCell_other w a k v (fun e => hk (by rw [e]))⟩
theorem gtrans {a b c : World} {r : Option Nat} (h : a.grownBy b r) (k : b.grownBy c r) : a.grownBy c r :=
  ⟨k.os.trans h.os, k.tape.trans h.tape, k.output.trans h.output, Nat.le_trans h.size k.size, fun i hi hx => (k.block i (Nat.lt_of_lt_of_le hi h.size) hx).trans (h.block i hi hx)⟩
theorem gdrew (w : World) (r : Option Nat) : w.grownBy w.drew r := ⟨rfl, rfl, rfl, Nat.le_refl _, fun _ _ _ => rfl⟩
theorem set4 (w : World) (g a b c d : Nat) (va vb vc vd : Value) (cur : Array Value) {t : TypeId} (h : w.heap[g]? = some (.cells cur t (0, 0))) :
    ((((w.setCell ⟨g, a, none⟩ va).setCell ⟨g, b, none⟩ vb).setCell ⟨g, c, none⟩ vc).setCell ⟨g, d, none⟩ vd).drew.heap[g]? = some (.cells ((((cur.setIfInBounds a va).setIfInBounds b vb).setIfInBounds c vc).setIfInBounds d vd) t (0, 0)) ∧
    w.grownBy ((((w.setCell ⟨g, a, none⟩ va).setCell ⟨g, b, none⟩ vb).setCell ⟨g, c, none⟩ vc).setCell ⟨g, d, none⟩ vd).drew (some g) :=
  ⟨heap_setCell_same _ g d _ t _ (heap_setCell_same _ g c _ t _ (heap_setCell_same _ g b _ t _ (heap_setCell_same _ g a _ t _ h))),
   gtrans (gtrans (gtrans (gtrans (grown_set w ⟨g, a, none⟩ _) (grown_set _ ⟨g, b, none⟩ _)) (grown_set _ ⟨g, c, none⟩ _)) (grown_set _ ⟨g, d, none⟩ _)) (gdrew _ _)⟩

set_option maxHeartbeats 1600000 in
set_option maxRecDepth 20000 in
theorem swap_any (g n c i j : Nat) (t1 p1 t2 p2 : Int) (cur : Array Value) (w : World) (_hn : n ≤ 1000000) (hi : i < n) (hj : j < n) (h : w.heap[g]? = some (.cells cur 62 (0, 0)))
    (c0 : cur[i * 2]? = some (.int .i64 t1)) (c1 : cur[i * 2 + 1]? = some (.int .i64 p1)) (c2 : cur[j * 2]? = some (.int .i64 t2)) (c3 : cur[j * 2 + 1]? = some (.int .i64 p2)) :
    Calls Try.prog 46 #[.slice (some ⟨g, 0, none⟩) n c, .int .i64 (i : Int), .int .i64 (j : Int)] w fun e w' => e = .returned (.tuple #[]) ∧ w'.heap[g]? = some (.cells ((((cur.setIfInBounds (i * 2) (.int .i64 t2)).setIfInBounds (i * 2 + 1) (.int .i64 p2)).setIfInBounds (j * 2) (.int .i64 t1)).setIfInBounds (j * 2 + 1) (.int .i64 p1)) 62 (0, 0)) ∧ w.grownBy w' (some g) := by
  have H := Lib.hid h
  have d0 := (cell_of_row w g (i * 2) _ _ _ h).trans c0
  have d1 := (cell_of_row w g (i * 2 + 1) _ _ _ h).trans c1
  have d2 := (cell_of_row w g (j * 2) _ _ _ h).trans c2
  have d3 := (cell_of_row w g (j * 2 + 1) _ _ _ h).trans c3
  have f0 := frozen_of_row w g (i * 2) _ _ h
  have f1 := frozen_of_row w g (i * 2 + 1) _ _ h
  have f2 := frozen_of_row w g (j * 2) _ _ h
  have f3 := frozen_of_row w g (j * 2 + 1) _ _ h
  clear h c0 c1 c2 c3
  by_cases hne : i = j
  · subst hne
    have e1 : t1 = t2 := by rw [d0] at d2; injection d2 with d2; injection d2
    have e2 : p1 = p2 := by rw [d1] at d3; injection d3 with d3; injection d3
    subst e1 e2
    clear d2 d3 f2 f3
    go_enter Try.func46, Try.ntmps46
    go_wp2
    go_region
    go_wp2
    go_end0
    exact ⟨rfl, (set4 w g _ _ _ _ _ _ _ _ cur H.out).1, (set4 w g _ _ _ _ _ _ _ _ cur H.out).2⟩
  · have n0 : ¬ i * 2 = j * 2 := by omega
    have n1 : ¬ i * 2 = j * 2 + 1 := by omega
    have n2 : ¬ i * 2 + 1 = j * 2 := by omega
    have n3 : ¬ i * 2 + 1 = j * 2 + 1 := by omega
    clear hne
    go_enter Try.func46, Try.ntmps46
    go_wp2
    go_region
    go_wp2
    go_end0
    exact ⟨rfl, (set4 w g _ _ _ _ _ _ _ _ cur H.out).1, (set4 w g _ _ _ _ _ _ _ _ cur H.out).2⟩
end Go.Proofs.Ytncbaeephnahjaa
