/- Bytes that came of a text, and grow: appends where the row may be marked behind its end. -/
import Derived.Test.YtdhgopcfjomjaaaDoorCqA
import Derived.Laws.IdiomStrings
namespace Go.Proofs.YtdhgopcfjomjaaaDoor
open Go.RowKit Go.Maps Go.WideMaps
open Go.Lib hiding intOf run_convert_string_bytes
open Cn (I64)

/-- bytes of one's own, whose row may be written -/
def OwX (w : World) (B : Nat) (v : Value) (T : List UInt8) : Prop := ∃ g cap, v = .slice (some ⟨g, 0, none⟩) T.length cap ∧ B ≤ g ∧ g < w.heap.size ∧ T.length ≤ cap ∧ cap ≤ maxLen ∧ (∀ j u, (byteCells T)[j]? = some u → w.cell? ⟨g, j, none⟩ = some u) ∧ (∀ j, j < cap → (w.cell? ⟨g, j, none⟩).isSome = true ∧ w.frozen? ⟨g, j, none⟩ = false)
theorem OwX.of {w : World} {B : Nat} {v : Value} {T : List UInt8} (h : w.ownsRow B 5 1 v T.length (byteCells T)) (h0 : 0 < T.length) : OwX w B v T := by
  rcases h.2 with ⟨_, e⟩ | ⟨g, cap, cur, rfl, hB, hh, h1, h2, h3, h4⟩
  · omega
  · refine ⟨g, cap, rfl, hB, gl hh, h1, h2, fun j u hu => ?_, fun j hj => ⟨?_, frozen_of_row w g j _ _ hh⟩⟩
    · have ht : cur.toList.take T.length = byteCells T := by rw [Nat.mul_one] at h4; exact h4
      rw [cell_of_row w g j _ _ _ hh, ← Array.getElem?_toList, get_of_take ht (by have := (List.getElem?_eq_some_iff.1 hu).1; rwa [byteCells_length] at this)]
      exact hu
    · rw [cell_of_row w g j _ _ _ hh, Array.getElem?_eq_getElem (by omega)]
      rfl
theorem OwX.block {w w' : World} {B : Nat} {v : Value} {T : List UInt8} (h : OwX w B v T) (hg : w.grownBy w' none) : OwX w' B v T := by
  obtain ⟨g, cap, e, hB, hl, h1, h2, h3, h4⟩ := h
  have hk := hg.block g hl (by simp)
  refine ⟨g, cap, e, hB, Nat.lt_of_lt_of_le hl hg.size, h1, h2, fun j u hu => (cell_of_block hk).trans (h3 j u hu), fun j hj => ?_⟩
  rw [cell_of_block hk, frozen_of_block hk]
  exact h4 j hj
theorem OwX.setCells {w : World} {B g cap : Nat} {T y : List UInt8} (hB : B ≤ g) (hl : g < w.heap.size) (h1 : T.length + y.length ≤ cap) (h2 : cap ≤ maxLen) (h3 : ∀ j u, (byteCells T)[j]? = some u → w.cell? ⟨g, j, none⟩ = some u) (h4 : ∀ j, j < cap → (w.cell? ⟨g, j, none⟩).isSome = true ∧ w.frozen? ⟨g, j, none⟩ = false) :
    OwX (w.setCells g T.length (byteCells y)) B (.slice (some ⟨g, 0, none⟩) (T.length + y.length) cap) (T ++ y) ∧ Below B w (w.setCells g T.length (byteCells y)) := by
  have hg : ∀ (vs : List Value) (o : Nat) (w : World), w.grownBy (w.setCells g o vs) (some g) := fun vs => by
    induction vs with
    | nil => exact fun o w => World.grownBy.refl _ _
    | cons v r ih => exact fun o w => gtrans (grown_set w ⟨g, o, none⟩ v) (ih (o + 1) _)
  have hgr := hg (byteCells y) T.length w
  have hin := World.cell?_setCells_in g (byteCells y) T.length w (fun j hj => (h4 _ (by rw [byteCells_length] at hj; omega)).1)
  have hout := fun j (hj : j < T.length ∨ T.length + y.length ≤ j) => World.cell?_setCells_out g (byteCells y) T.length w ⟨g, j, none⟩ (fun _ _ => by rw [byteCells_length]; exact hj)
  refine ⟨⟨g, cap, by rw [List.length_append], hB, Nat.lt_of_lt_of_le hl hgr.size, by rw [List.length_append]; exact h1, h2, fun j u hu => ?_, fun j hj => ⟨?_, ?_⟩⟩, ?_⟩
  · rw [byteCells_app] at hu
    by_cases hj : j < T.length
    · rw [List.getElem?_append_left (by rw [byteCells_length]; exact hj)] at hu
      rw [hout j (.inl hj)]
      exact h3 j u hu
    · rw [List.getElem?_append_right (by rw [byteCells_length]; omega), byteCells_length] at hu
      obtain ⟨hlt, rfl⟩ := List.getElem?_eq_some_iff.1 hu
      have := hin (j - T.length) hlt
      rw [show T.length + (j - T.length) = j by omega] at this
      exact this
  · by_cases hj1 : j < T.length ∨ T.length + y.length ≤ j
    · rw [hout j hj1]; exact (h4 j hj).1
    · have hlt : j - T.length < (byteCells y).length := by rw [byteCells_length]; omega
      have := hin (j - T.length) hlt
      rw [show T.length + (j - T.length) = j by omega] at this
      rw [this]; rfl
  · rw [World.frozen?_setCells]; exact (h4 j hj).2
  · exact ⟨hgr.os, hgr.tape, hgr.output, hgr.size, fun k hk => hgr.block k (by omega) (fun e => by cases e; omega)⟩
theorem byte_one (y : List UInt8) : ∀ u ∈ byteCells y, u.oneCell' = true := fun u hu => by
  unfold byteCells at hu
  obtain ⟨b, _, rfl⟩ := List.mem_map.1 hu
  rfl
/-- a text behind bytes -/
theorem owx_str {w : World} {B : Nat} {v : Value} {T : List UInt8} (h : OwX w B v T) (hB : B ≤ w.heap.size) (y : List UInt8) (hy0 : 0 < y.length) (hy : y.length ≤ 1000000) (hl : T.length ≤ 1000000000) (ty : TypeId) :
    ∃ v' w', (Builtin.append_ #[66, 9] ty #[v, .string ⟨y.toArray⟩]).run Tryd.prog w = .ok v' w' ∧ OwX w' B v' (T ++ y) ∧ Below B w w' := by
  obtain ⟨i0, hi, hz0, hzs, hzb⟩ := info_parts info_u8
  have e1 : (⟨y.toArray⟩ : ByteArray).size = y.length := by simp [ByteArray.size]
  obtain ⟨g, cap, rfl, hg, hlt, h1, h2, h3, h4⟩ := h
  by_cases hr : T.length + y.length ≤ cap
  · obtain ⟨k1, k2⟩ := OwX.setCells (y := y) hg hlt hr h2 h3 h4
    refine ⟨_, _, ?_, k1, k2⟩
    have hf := run_firstCells_string (P := Tryd.prog) w 1 ⟨y.toArray⟩
    have hst := run_storeCells_cells (P := Tryd.prog) g T.length (byteCells y) 0 w (fun j hj => (h4 _ (by rw [byteCells_length] at hj; omega)).1) (fun j hj => (h4 _ (by rw [byteCells_length] at hj; omega)).2) (byte_one y)
    rw [strCells_bytes, e1] at hf
    simp only [Nat.add_zero] at hst
    simp [Builtin.append_, run_underlying Tryd.underlying66, run_underlying Tryd.underlying9, sizeOf, typeInfo, hi, hzs, Builtin.lenOf, e1, hr, hf, Addr.add_lit, hst]
  · have hr2 := run_append_grow_string (P := Tryd.prog) w 66 9 ty 5 i0 _ Tryd.underlying66 Tryd.underlying9 hi hz0 ⟨g, 0, none⟩ T.length cap (byteCells T) (by rw [hzs, byteCells_length, Nat.mul_one]) (fun j u hj => by rw [addr_at, Nat.zero_add]; exact h3 j u hj) ⟨y.toArray⟩ (by omega) (by omega) (by rw [hzb]; exact growslice_fits (by omega) (by omega))
    rw [e1, strCells_bytes] at hr2
    have hge := grownCap_ge w (T.length + y.length) cap 5
    have hcm : grownCap w (T.length + y.length) cap 5 ≤ maxLen := grownCap_le_maxLen w _ cap 5 (by unfold maxLen; omega)
    refine ⟨_, _, hr2, OwX.of ⟨by rw [byteCells_length, Nat.mul_one], .inr ⟨w.heap.size, _, _, by rw [List.length_append], hB, heap_alloc_new w.drew _, by rw [List.length_append]; exact hge, hcm, ?_, ?_⟩⟩ (by rw [List.length_append]; omega), below_none ⟨rfl, rfl, rfl, by simp, fun k hk _ => heap_alloc_old w.drew _ hk⟩ hB⟩
    · have hz1 : (Value.int IntKind.u8 0).cells.size = 1 := rfl
      simp only [Array.size_append, List.size_toArray, size_zeroCells, hz1, byteCells_length]
      omega
    · simp only [Array.toList_append, List.append_assoc]
      rw [← List.append_assoc, ← byteCells_app, show (T ++ y).length * 1 = (byteCells (T ++ y)).length by rw [byteCells_length, Nat.mul_one]]
      exact List.take_left
/-- bytes behind bytes -/
theorem owx_bytes {w : World} {B : Nat} {v : Value} {T : List UInt8} (h : OwX w B v T) (hB : B ≤ w.heap.size) (a : Addr) (c : Nat) (y : List UInt8) (hya : ∀ j u, (byteCells y)[j]? = some u → w.cell? (a.add j) = some u) (hy0 : 0 < y.length) (hy : y.length ≤ 1000000) (hl : T.length ≤ 1000000000) (ty : TypeId) :
    ∃ v' w', (Builtin.append_ #[66, 66] ty #[v, .slice (some a) y.length c]).run Tryd.prog w = .ok v' w' ∧ OwX w' B v' (T ++ y) ∧ Below B w w' := by
  obtain ⟨i0, hi, hz0, hzs, hzb⟩ := info_parts info_u8
  obtain ⟨g, cap, rfl, hg, hlt, h1, h2, h3, h4⟩ := h
  by_cases hr : T.length + y.length ≤ cap
  · obtain ⟨k1, k2⟩ := OwX.setCells (y := y) hg hlt hr h2 h3 h4
    refine ⟨_, _, ?_, k1, k2⟩
    have := run_append_room_cells (P := Tryd.prog) w 66 ty 5 i0 Tryd.underlying66 hi g 0 T.length cap a y.length c (byteCells y) (by rw [byteCells_length, hzs, Nat.mul_one]) hya (byte_one y) hr (fun j hj => by rw [hzs, Nat.mul_one, Nat.zero_add]; exact (h4 _ (by rw [byteCells_length] at hj; omega)).1) (fun j hj => by rw [hzs, Nat.mul_one, Nat.zero_add]; exact (h4 _ (by rw [byteCells_length] at hj; omega)).2)
    rw [hzs, Nat.mul_one, Nat.zero_add] at this
    exact this
  · obtain ⟨v', w', hrun, r1, r2⟩ := run_append_arg_grows (P := Tryd.prog) w 66 ty 5 i0 _ 1 1 Tryd.underlying66 hi hz0 hzs hzb rfl (by decide) ⟨g, 0, none⟩ T.length cap (byteCells T) (by rw [byteCells_length, Nat.mul_one]) (fun j u hj => by rw [addr_at, Nat.zero_add]; exact h3 j u hj) a y.length c (byteCells y) (by rw [byteCells_length, Nat.mul_one]) hya (by omega) (by unfold maxLen; omega) (by omega)
    rw [← byteCells_app, ← List.length_append] at r1
    refine ⟨v', w', hrun, ?_, below_none r2 hB⟩
    obtain ⟨g', cap', e, q1, q2⟩ := OwX.of r1 (by rw [List.length_append]; omega)
    exact ⟨g', cap', e, Nat.le_trans hB q1, q2⟩
/-- the bytes of a text, written down anew -/
theorem owx_row (w : World) (T : List UInt8) (s : ByteArray) (n cap : Nat) (hs0 : s = ⟨T.toArray⟩) (hn0 : n = T.length) (h1 : T.length ≤ cap) (h2 : cap ≤ maxLen) :
    OwX (w.alloc (.cells (bytesRow s cap) 5 ((bytesRow s cap).size, (bytesRow s cap).size + 1))).drew.drew w.heap.size (.slice (some ⟨w.heap.size, 0, none⟩) n cap) T ∧ w.grownBy (w.alloc (.cells (bytesRow s cap) 5 ((bytesRow s cap).size, (bytesRow s cap).size + 1))).drew.drew none := by
  subst hs0 hn0
  obtain ⟨R, hR⟩ : ∃ R, R = bytesRow ⟨T.toArray⟩ cap := ⟨_, rfl⟩
  have e1 : (⟨T.toArray⟩ : ByteArray).size = T.length := by simp [ByteArray.size]
  have hRl : R.toList = byteCells T ++ List.replicate (cap - T.length) (.int .u8 0) := by rw [hR]; unfold bytesRow byteCells; simp [e1]
  rw [← hR]
  have hs : R.size = cap := by rw [← Array.length_toList, hRl, List.length_append, byteCells_length, List.length_replicate]; omega
  have hg0 := World.grownBy_alloc w (.cells R 5 (R.size, R.size + 1)) none
  have hg : w.grownBy (w.alloc (.cells R 5 (R.size, R.size + 1))).drew.drew none := hg0.trans ((gdrew _ none).trans (gdrew _ none))
  have hn : (w.alloc (.cells R 5 (R.size, R.size + 1))).heap[w.heap.size]? = some (.cells R 5 (R.size, R.size + 1)) := heap_alloc_new w _
  have hc : ∀ j, (w.alloc (.cells R 5 (R.size, R.size + 1))).cell? ⟨w.heap.size, j, none⟩ = R[j]? := fun j => by
    unfold World.cell?
    simp only [hn]
    rfl
  refine ⟨OwX.block (w := w.alloc (.cells R 5 (R.size, R.size + 1))) ⟨w.heap.size, cap, rfl, Nat.le_refl _, by simp, h1, h2, fun j u hu => ?_, fun j hj => ⟨?_, ?_⟩⟩ ((gdrew _ none).trans (gdrew _ none)), hg⟩
  · rw [hc, ← Array.getElem?_toList, hRl, List.getElem?_append_left (List.getElem?_eq_some_iff.1 hu).1]
    exact hu
  · rw [hc, Array.getElem?_eq_getElem (by omega)]
    rfl
  · unfold World.frozen?
    simp only [hn]
    simp
    omega
theorem owx_conv (w : World) (T : List UInt8) (hl : T.length ≤ 1000000000) : ∃ v w', (convert 9 66 (.string ⟨T.toArray⟩)).run Tryd.prog w = .ok v w' ∧ OwX w' w.heap.size v T ∧ w.grownBy w' none := by
  have e1 : (⟨T.toArray⟩ : ByteArray).size = T.length := by simp [ByteArray.size]
  have h := run_bytes_of_string (P := Tryd.prog) w 9 66 5 ⟨T.toArray⟩ Tryd.underlying9 Tryd.underlying66 Tryd.underlying5
  rw [e1] at h
  have hge := grownCap_ge w T.length 0 5
  have hcm : grownCap w T.length 0 5 ≤ maxLen := grownCap_le_maxLen w _ 0 5 (by unfold maxLen; omega)
  obtain ⟨cap, hcap⟩ : ∃ cap, cap = grownCap w T.length 0 5 := ⟨_, rfl⟩
  rw [← hcap] at h hge hcm
  obtain ⟨R, hR⟩ : ∃ R, R = bytesRow ⟨T.toArray⟩ cap := ⟨_, rfl⟩
  have hRl : R.toList = byteCells T ++ List.replicate (cap - T.length) (.int .u8 0) := by rw [hR]; unfold bytesRow byteCells; simp [e1]
  rw [← hR] at h
  have hs : R.size = cap := by rw [← Array.length_toList, hRl, List.length_append, byteCells_length, List.length_replicate]; omega
  have hn : (w.drew.alloc (.cells R 5 (R.size, R.size + 1))).heap[w.heap.size]? = some (.cells R 5 (R.size, R.size + 1)) := heap_alloc_new w.drew _
  have hc : ∀ j, (w.drew.alloc (.cells R 5 (R.size, R.size + 1))).cell? ⟨w.heap.size, j, none⟩ = R[j]? := fun j => by
    unfold World.cell?
    simp only [hn]
    rfl
  refine ⟨_, _, h, ⟨w.heap.size, cap, rfl, Nat.le_refl _, by simp, hge, hcm, fun j u hu => ?_, fun j hj => ⟨?_, ?_⟩⟩, ⟨rfl, rfl, rfl, by simp, fun k hk _ => heap_alloc_old w.drew _ hk⟩⟩
  · rw [hc, ← Array.getElem?_toList, hRl, List.getElem?_append_left (List.getElem?_eq_some_iff.1 hu).1]
    exact hu
  · rw [hc, Array.getElem?_eq_getElem (by omega)]
    rfl
  · unfold World.frozen?
    simp only [hn]
    simp
    omega
end Go.Proofs.YtdhgopcfjomjaaaDoor
