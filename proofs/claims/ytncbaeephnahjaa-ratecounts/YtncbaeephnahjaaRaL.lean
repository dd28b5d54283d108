/- rate.newTable and table.on. -/
import Derived.Test.YtncbaeephnahjaaRaJ
import Derived.Test.YtncbaeephnahjaaRaK
import Derived.Deep.OwnRows
namespace Go.Proofs.Ytncbaeephnahjaa
open Go.RowKit Go.Maps Go.WideMaps Go.Shelf

/-- a table of bools in memory -/
def TableAt (W : World) (tb base n : Nat) (on : Nat → Nat → Bool) : Prop :=
  (∃ arr, W.heap[tb]? = some (.cells arr 31 (0, 0)) ∧ ∀ i, i < base → arr[i]? = some (.slice (some ⟨tb + 1 + i, 0, none⟩) n n)) ∧
  ∀ i, i < base → ∃ row, W.heap[tb + 1 + i]? = some (.cells row 4 (0, 0)) ∧ ∀ k, k < n → row[k]? = some (.bool (on i k))

theorem mk_bools (n : Nat) (hn : n ≤ 1000) (w : World) : (Instr.makeSlice 31 (.int .i64 (n : Int)) (.int .i64 (n : Int))).run Try.prog w = .ok (.slice (some ⟨w.heap.size, 0, none⟩) n n) (w.alloc (.cells (madeCells #[.bool false] n) 4)) :=
  run_make_row' 31 4 (.bool false) 1 Try.underlying31 (by kernel_rfl) rfl .i64 .i64 n (by omega) (by omega) w
theorem mk_rows (n : Nat) (hn : n ≤ 10000) (w : World) : (Instr.makeSlice 43 (.int .i64 (n : Int)) (.int .i64 (n : Int))).run Try.prog w = .ok (.slice (some ⟨w.heap.size, 0, none⟩) n n) (w.alloc (.cells (madeCells #[.slice none 0 0] n) 31)) :=
  run_make_row' 43 31 (.slice none 0 0) 24 Try.underlying43 (by kernel_rfl) rfl .i64 .i64 n (by omega) (by omega) w

def NT (w : World) (base n t : Nat) (V : World) : Prop :=
  (∃ arr, V.heap[w.heap.size]? = some (.cells arr 31 (0, 0)) ∧ arr.size = base ∧ ∀ i, i < t → arr[i]? = some (.slice (some ⟨w.heap.size + 1 + i, 0, none⟩) n n)) ∧
  (∀ i, i < t → ∃ row, V.heap[w.heap.size + 1 + i]? = some (.cells row 4 (0, 0)) ∧ ∀ k, k < n → row[k]? = some (.bool false)) ∧ V.heap.size = w.heap.size + 1 + t ∧ w.grownBy V none
theorem made_at (z : Value) (n k : Nat) (h : k < n) : (madeCells #[z] n)[k]? = some z := by
  have := toList_madeCells_one z n
  rw [← Array.getElem?_toList, this]
  simp [h]
theorem NT.step {w : World} {base n t : Nat} {V : World} (h : NT w base n t V) (ht : t < base) : NT w base n (t + 1) ((V.setCell ⟨w.heap.size, t, none⟩ (.slice (some ⟨V.heap.size, 0, none⟩) n n)).alloc (.cells (madeCells #[.bool false] n) 4)) := by
  obtain ⟨⟨arr, h1, h2, h3⟩, h4, h5, h6⟩ := h
  have hs := heap_setCell_same V w.heap.size t _ _ (.slice (some ⟨V.heap.size, 0, none⟩) n n) h1
  have ho := fun k (hk : k ≠ w.heap.size) => heap_setCell_other V ⟨w.heap.size, t, none⟩ k (.slice (some ⟨V.heap.size, 0, none⟩) n n) hk
  have hz : (V.setCell ⟨w.heap.size, t, none⟩ (.slice (some ⟨V.heap.size, 0, none⟩) n n)).heap.size = V.heap.size := by simp
  refine ⟨⟨arr.setIfInBounds t (.slice (some ⟨V.heap.size, 0, none⟩) n n), (heap_alloc_old _ _ (by rw [hz, h5]; omega)).trans hs, by simpa using h2, fun i hi => ?_⟩, fun i hi => ?_, by simp [h5]; omega, ?_⟩
  · rw [Array.getElem?_setIfInBounds]
    by_cases e : t = i
    · subst e; rw [if_pos rfl, if_pos (by omega), h5]
    · rw [if_neg e]; exact h3 i (by omega)
  · by_cases e : i = t
    · subst e
      refine ⟨madeCells #[.bool false] n, ?_, fun k hk => made_at _ n k hk⟩
      have := heap_alloc_new (V.setCell ⟨w.heap.size, i, none⟩ (.slice (some ⟨V.heap.size, 0, none⟩) n n)) (.cells (madeCells #[.bool false] n) 4)
      rw [hz, h5] at this
      rw [h5]
      exact this
    · obtain ⟨row, r1, r2⟩ := h4 i (by omega)
      exact ⟨row, (heap_alloc_old _ _ (by rw [hz, h5]; omega)).trans ((ho _ (by omega)).trans r1), r2⟩
  · have hb : Below w.heap.size w V := below_of h6 (Nat.le_refl _) (by simp)
    have := (hb.setCell (p := ⟨w.heap.size, t, none⟩) (Nat.le_refl _) (.slice (some ⟨V.heap.size, 0, none⟩) n n)).alloc (by rw [hz, h5]; omega) (.cells (madeCells #[.bool false] n) 4)
    exact ⟨this.os, this.tape, this.output, this.size, fun k hk _ => this.block k hk⟩

set_option maxRecDepth 20000 in
set_option maxHeartbeats 2000000 in
theorem newTable_any (base n : Nat) (hb : base ≤ 5000) (hn : n ≤ 64) (w : World) :
    Calls Try.prog 15 #[.int .i64 (base : Int), .int .i64 (n : Int)] w fun e w' => e = .returned (.slice (some ⟨w.heap.size, 0, none⟩) base base) ∧ TableAt w' w.heap.size base n (fun _ _ => false) ∧ w.grownBy w' none := by
  have h1 := mk_rows base (by omega)
  have h2 := mk_bools n (by omega)
  go_enter Try.func15, Try.ntmps15
  go_wp2
  go_loopw [10] (fun iv V => ∃ t : Nat, t ≤ base ∧ iv = .int .i64 (t : Int) ∧ Hid (NT w base n t V)) (fun iv _ => base - (intOf iv).toNat)
  case atStart => exact ⟨0, Nat.zero_le _, rfl, Lib.hid ⟨⟨_, heap_alloc_new w _, by simp [madeCells], by simp⟩, by simp, by simp, World.grownBy_alloc w _ none⟩⟩
  case round =>
    obtain ⟨t, ht, rfl, HG⟩ := hrel
    by_cases hlt : t < base
    · obtain ⟨⟨arr, a1, a2, a3⟩, a4, a5, a6⟩ := HG.out
      obtain ⟨u, hu⟩ : ∃ u, arr[t]? = some u := ⟨_, Array.getElem?_eq_getElem (by omega)⟩
      have hwl : w.heap.size < wr.heap.size := gl a1
      have c0 := (cell_of_row wr w.heap.size t _ _ _ a1).trans hu
      have f0 := frozen_of_row wr w.heap.size t _ _ a1
      clear a1 a2 a3 a4 a5 a6 hu
      go_wp2
      exact ⟨⟨t + 1, by omega, by go_num, Lib.hid (NT.step HG.out hlt)⟩, by simp [intOf]; omega⟩
    · have e : t = base := by omega
      subst e
      go_wp2
      go_ret
      obtain ⟨⟨arr, a1, a2, a3⟩, a4, a5, a6⟩ := HG.out
      exact ⟨rfl, ⟨⟨arr, a1, a3⟩, a4⟩, a6⟩

theorem tableOn_any (W : World) (tb base n : Nat) (on : Nat → Nat → Bool) (i k : Nat) (h : TableAt W tb base n on) (hi : i < base) (hk : k < n) (_hb : base ≤ 5000) (_hn : n ≤ 64) :
    Calls Try.prog 17 #[.slice (some ⟨tb, 0, none⟩) base base, .int .i64 (i : Int), .int .i64 (k : Int)] W fun e W' => (∃ u, e = .returned u) ∧ TableAt W' tb base n (fun a b => on a b || (a == i && b == k)) ∧ W.grownBy W' (some (tb + 1 + i)) := by
  obtain ⟨⟨arr, a1, a2⟩, a3⟩ := h
  obtain ⟨row, r1, r2⟩ := a3 i hi
  have c0 := (cell_of_row W tb i _ _ _ a1).trans (a2 i hi)
  have d0 := (cell_of_row W (tb + 1 + i) k _ _ _ r1).trans (r2 k hk)
  have f0 := frozen_of_row W (tb + 1 + i) k _ _ r1
  have HA := Lib.hid (And.intro a1 (And.intro a2 (And.intro a3 (And.intro r1 r2))))
  clear a1 a2 a3 r1 r2
  go_enter Try.func17, Try.ntmps17
  go_wp2
  go_end0
  obtain ⟨a1, a2, a3, r1, r2⟩ := HA.out
  have hg := grown_set W ⟨tb + 1 + i, k, none⟩ (.bool true)
  refine ⟨⟨_, rfl⟩, ⟨⟨arr, (hg.block tb (gl a1) (by simp; omega)).trans a1, a2⟩, fun j hj => ?_⟩, hg⟩
  by_cases e : j = i
  · subst e
    refine ⟨_, heap_setCell_same W (tb + 1 + j) k _ _ _ r1, fun m hm => ?_⟩
    rw [Array.getElem?_setIfInBounds]
    by_cases e2 : k = m
    · subst e2
      rw [if_pos rfl, if_pos]
      · simp
      · have := r2 k hk
        exact (Array.getElem?_eq_some_iff.1 this).1
    · rw [if_neg e2, r2 m hm]
      simp [Ne.symm e2]
  · obtain ⟨row', b1, b2⟩ := a3 j hj
    refine ⟨row', (hg.block _ (gl b1) (by simp; omega)).trans b1, fun m hm => ?_⟩
    rw [b2 m hm]
    simp [e]
theorem TableAt.kept {A B : World} {tb base n N : Nat} {on : Nat → Nat → Bool} (h : TableAt A tb base n on) (hb : Below N A B) (hN : tb + 1 + base ≤ N) : TableAt B tb base n on := by
  obtain ⟨⟨arr, a1, a2⟩, a3⟩ := h
  refine ⟨⟨arr, (hb.block tb (by omega)).trans a1, a2⟩, fun i hi => ?_⟩
  obtain ⟨row, r1, r2⟩ := a3 i hi
  exact ⟨row, (hb.block _ (by omega)).trans r1, r2⟩
theorem TableAt.eq {A : World} {tb base n : Nat} {on on' : Nat → Nat → Bool} (h : TableAt A tb base n on) (he : ∀ i k, i < base → k < n → on i k = on' i k) : TableAt A tb base n on' := by
  refine ⟨h.1, fun i hi => ?_⟩
  obtain ⟨row, r1, r2⟩ := h.2 i hi
  exact ⟨row, r1, fun k hk => by rw [r2 k hk, he i k hi hk]⟩
end Go.Proofs.Ytncbaeephnahjaa
