/- Chapters 22 and 23: lists of numbers, of clauses, of gates, of bools in memory. -/
import Derived.Test.YtdhgopcfjomjaaaDoorRaW
import Derived.Test.YtdhgopcfjomjaaaDoorCnM
import Derived.ArgAppend
import Derived.Deep.OwnRows
import Derived.Deep.CutRange
import Derived.BigQuiet
namespace Go.Proofs.YtdhgopcfjomjaaaDoor
open Go.RowKit Go.Maps Go.WideMaps
open Cn (I64)

/-- nothing of what was there has changed, but for the blocks X -/
structure Kp (X : List Nat) (w w' : World) : Prop where
  os : w'.os = w.os
  tape : w'.tape = w.tape
  output : w'.output = w.output
  size : w.heap.size ≤ w'.heap.size
  block : ∀ k, k < w.heap.size → k ∉ X → w'.heap[k]? = w.heap[k]?
theorem Kp.refl (X : List Nat) (w : World) : Kp X w w := ⟨rfl, rfl, rfl, Nat.le_refl _, fun _ _ _ => rfl⟩
theorem Kp.trans {X : List Nat} {a b c : World} (h : Kp X a b) (k : Kp X b c) : Kp X a c :=
  ⟨k.os.trans h.os, k.tape.trans h.tape, k.output.trans h.output, Nat.le_trans h.size k.size, fun i hi hx => (k.block i (Nat.lt_of_lt_of_le hi h.size) hx).trans (h.block i hi hx)⟩
theorem Kp.of {a b : World} {r : Option Nat} (h : a.grownBy b r) (X : List Nat) (hr : ∀ k, r = some k → k < a.heap.size → k ∈ X) : Kp X a b :=
  ⟨h.os, h.tape, h.output, h.size, fun i hi hx => h.block i hi (fun e => hx (hr i e.symm hi))⟩
theorem Kp.of0 {a b : World} (h : a.grownBy b none) (X : List Nat) : Kp X a b := Kp.of h X (fun k e => by cases e)
theorem Kp.mono {X Y : List Nat} {a b : World} (h : Kp X a b) (hs : ∀ k, k ∈ X → k < a.heap.size → k ∈ Y) : Kp Y a b :=
  ⟨h.os, h.tape, h.output, h.size, fun i hi hx => h.block i hi (fun e => hx (hs i e hi))⟩
/-- blocks that came later are no loss to the first world -/
theorem Kp.grown {X : List Nat} {w0 a b : World} (hg : w0.grownBy a none) (h : Kp X a b) (hX : ∀ k ∈ X, w0.heap.size ≤ k) : w0.grownBy b none :=
  ⟨h.os.trans hg.os, h.tape.trans hg.tape, h.output.trans hg.output, Nat.le_trans hg.size h.size, fun i hi _ => (h.block i (Nat.lt_of_lt_of_le hi hg.size) (fun e => by have := hX i e; omega)).trans (hg.block i hi (by simp))⟩
theorem cell_of_block {w w' : World} {k o : Nat} (h : w'.heap[k]? = w.heap[k]?) : w'.cell? ⟨k, o, none⟩ = w.cell? ⟨k, o, none⟩ := by
  unfold World.cell?
  rw [h]
theorem frozen_of_block {w w' : World} {k o : Nat} (h : w'.heap[k]? = w.heap[k]?) : w'.frozen? ⟨k, o, none⟩ = w.frozen? ⟨k, o, none⟩ := by
  unfold World.frozen?
  simp only [h]
theorem lt_of_some {w : World} {g o : Nat} {x : Value} (h : w.cell? ⟨g, o, none⟩ = some x) : g < w.heap.size := by
  rcases Nat.lt_or_ge g w.heap.size with h1 | h1
  · exact h1
  · unfold World.cell? at h
    rw [Array.getElem?_eq_none h1] at h
    cases h
theorem Kp.cell {X : List Nat} {w w' : World} (h : Kp X w w') {k o : Nat} {x : Value} (hc : w.cell? ⟨k, o, none⟩ = some x) (hk : k ∉ X) : w'.cell? ⟨k, o, none⟩ = some x := (cell_of_block (h.block k (lt_of_some hc) hk)).trans hc
theorem Kp.drew {X : List Nat} {w w' : World} (h : Kp X w w') : Kp X w w'.drew := ⟨h.os, h.tape, h.output, h.size, h.block⟩
theorem Kp.set {X : List Nat} {w w' : World} (h : Kp X w w') {k o : Nat} (hk : k ∈ X) (v : Value) : Kp X w (w'.setCell ⟨k, o, none⟩ v) :=
  ⟨h.os, h.tape, h.output, by simpa [World.setCell] using h.size, fun i hi hx => (heap_setCell_other w' ⟨k, o, none⟩ i v (fun e => hx (by rw [e]; exact hk))).trans (h.block i hi hx)⟩

/-- a list of numbers from an address on -/
def NumsAt (w : World) (a : Option Addr) (l : List Int) : Prop := ∀ i n, l[i]? = some n → ∃ b o, a = some ⟨b, o, none⟩ ∧ w.cell? ⟨b, o + i, none⟩ = some (.int .i64 n)
theorem NumsAt.on {w w' : World} {a : Option Addr} {l : List Int} (h : NumsAt w a l) (hg : w.grownBy w' none) : NumsAt w' a l := fun i n hi => by
  obtain ⟨b, o, e, hc⟩ := h i n hi
  exact ⟨b, o, e, hg.cell hc (by simp)⟩
theorem NumsAt.nil (w : World) (a : Option Addr) : NumsAt w a [] := fun i n h => by simp at h
theorem NumsAt.take {w : World} {a : Option Addr} {l : List Int} (h : NumsAt w a l) (k : Nat) : NumsAt w a (l.take k) := fun i n hi => by
  rw [List.getElem?_take] at hi
  split at hi
  · exact h i n hi
  · cases hi
/-- a list that was laid by appends -/
theorem NumsAt.own {w : World} {B : Nat} {v : Value} {l : List Int} (h : w.ownsRow B 3 1 v l.length (l.map (Value.int .i64))) : ∃ a c, v = .slice a l.length c ∧ NumsAt w a l := by
  rcases h.2 with ⟨rfl, h0⟩ | ⟨g, cap, cur, rfl, hB, hh, h1, h2, h3, h4⟩
  · refine ⟨none, 0, by rw [h0], ?_⟩
    have : l = [] := List.eq_nil_of_length_eq_zero h0
    rw [this]
    exact NumsAt.nil w _
  · refine ⟨_, cap, rfl, fun i n hi => ⟨g, 0, rfl, ?_⟩⟩
    have hl : i < l.length := (List.getElem?_eq_some_iff.1 hi).1
    have e : cur.toList[i]? = some (.int .i64 n) := by
      have : (cur.toList.take (l.length * 1))[i]? = some (.int .i64 n) := by rw [h4, List.getElem?_map, hi]; rfl
      rw [List.getElem?_take] at this
      split at this
      · exact this
      · cases this
    rw [Nat.zero_add]
    unfold World.cell?
    rw [hh]
    simpa using e
theorem row_cell {w : World} {g : Nat} {cs : List Value} {T : TypeId} (h : w.heap[g]? = some (.cells cs.toArray T (0, 0))) (i : Nat) : w.cell? ⟨g, i, none⟩ = cs[i]? := by
  unfold World.cell?
  rw [h]
  simp
theorem nums_row {w : World} {g : Nat} {l : List Int} {T : TypeId} (h : w.heap[g]? = some (.cells (l.map (Value.int .i64)).toArray T (0, 0))) : NumsAt w (some ⟨g, 0, none⟩) l := fun i n hi => ⟨g, 0, rfl, by rw [Nat.zero_add, row_cell h, List.getElem?_map, hi]; rfl⟩

theorem numC_one (l : List Int) : ∀ u ∈ l.map (Value.int .i64), u.oneCell' = true := fun u hu => by
  obtain ⟨n, -, rfl⟩ := List.mem_map.1 hu
  rfl
theorem addr_at (b o j : Nat) : (⟨b, o, none⟩ : Addr).add j = ⟨b, o + j, none⟩ := by unfold Addr.add; split <;> simp_all
theorem NumsAt.adds {w : World} {a : Addr} {l : List Int} (h : NumsAt w (some a) l) : ∀ j u, (l.map (Value.int .i64))[j]? = some u → w.cell? (a.add j) = some u := fun j u hu => by
  rw [List.getElem?_map, Option.map_eq_some_iff] at hu
  obtain ⟨n, hn, rfl⟩ := hu
  obtain ⟨b, o, e, hc⟩ := h j n hn
  cases e
  rw [addr_at]
  exact hc
theorem grown_ov {w w2 w3 : World} {row : Option Nat} (h : w.grownBy w2 none) (g : w2.grownBy w3 row) (hr : ∀ k, row = some k → w.heap.size ≤ k) : w.grownBy w3 none := by
  refine ⟨g.os.trans h.os, g.tape.trans h.tape, g.output.trans h.output, Nat.le_trans h.size g.size, fun j hj _ => ?_⟩
  rw [g.block j (Nat.lt_of_lt_of_le hj h.size) (fun e => by have := hr j e.symm; omega), h.block j hj (by simp)]
theorem owns_on {w w' : World} {B : Nat} {T : TypeId} {z n : Nat} {v : Value} {xs : List Value} (h : w.ownsRow B T z v n xs) (hb : ∀ k, v.ownBlock = some k → w'.heap[k]? = w.heap[k]?) : w'.ownsRow B T z v n xs := by
  refine ⟨h.1, h.2.imp id ?_⟩
  rintro ⟨g, cap, cur, rfl, h1, h2, h3⟩
  exact ⟨g, cap, cur, rfl, h1, (hb g rfl).trans h2, h3⟩
theorem grown_set (w : World) (a : Addr) (v : Value) : w.grownBy (w.setCell a v) (some a.block) :=
  ⟨rfl, rfl, rfl, by simp [World.setCell], fun k _ hk => heap_setCell_other w a k v (fun e => hk (by rw [e]))⟩
theorem gtrans {a b c : World} {r : Option Nat} (h : a.grownBy b r) (k : b.grownBy c r) : a.grownBy c r :=
  ⟨k.os.trans h.os, k.tape.trans h.tape, k.output.trans h.output, Nat.le_trans h.size k.size, fun i hi hx => (k.block i (Nat.lt_of_lt_of_le hi h.size) hx).trans (h.block i hi hx)⟩
theorem gdrew (w : World) (r : Option Nat) : w.grownBy w.drew r := ⟨rfl, rfl, rfl, Nat.le_refl _, fun _ _ _ => rfl⟩

/-- a list of rows of numbers from an address on -/
def RowsAt (w : World) (a : Option Addr) (L : List (List Int)) : Prop := ∀ i l, L[i]? = some l → ∃ b o ra rc, a = some ⟨b, o, none⟩ ∧ w.cell? ⟨b, o + i, none⟩ = some (.slice ra l.length rc) ∧ NumsAt w ra l ∧ l.length ≤ rc ∧ l.length ≤ 140737488351232 ∧ ∀ y ∈ l, I64 y
theorem RowsAt.on {w w' : World} {a : Option Addr} {L : List (List Int)} (h : RowsAt w a L) (hg : w.grownBy w' none) : RowsAt w' a L := fun i l hi => by
  obtain ⟨b, o, ra, rc, e, h1, h2, h3⟩ := h i l hi
  exact ⟨b, o, ra, rc, e, hg.cell h1 (by simp), h2.on hg, h3⟩
theorem RowsAt.nil (w : World) (a : Option Addr) : RowsAt w a [] := fun i n h => by simp at h
theorem RowsAt.i64 {w : World} {a : Option Addr} {L : List (List Int)} (h : RowsAt w a L) : ∀ l ∈ L, ∀ y ∈ l, I64 y := fun l hl => by
  obtain ⟨i, hi, rfl⟩ := List.getElem_of_mem hl
  obtain ⟨_, _, _, _, _, _, _, _, _, h1⟩ := h i L[i] (List.getElem?_eq_getElem hi)
  exact h1
theorem RowsAt.len {w : World} {a : Option Addr} {L : List (List Int)} (h : RowsAt w a L) : ∀ l ∈ L, l.length ≤ 140737488351232 := fun l hl => by
  obtain ⟨i, hi, rfl⟩ := List.getElem_of_mem hl
  obtain ⟨_, _, _, _, _, _, _, _, h1, _⟩ := h i L[i] (List.getElem?_eq_getElem hi)
  exact h1
/-- a list of bools from an address on -/
def BoolsAt (w : World) (a : Option Addr) (l : List Bool) : Prop := ∀ i n, l[i]? = some n → ∃ b o, a = some ⟨b, o, none⟩ ∧ w.cell? ⟨b, o + i, none⟩ = some (.bool n)
theorem BoolsAt.on {w w' : World} {a : Option Addr} {l : List Bool} (h : BoolsAt w a l) (hg : w.grownBy w' none) : BoolsAt w' a l := fun i n hi => by
  obtain ⟨b, o, e, hc⟩ := h i n hi
  exact ⟨b, o, e, hg.cell hc (by simp)⟩
/-- a list of gates from an address on -/
def GatesAt (w : World) (a : Option Addr) (l : List Cn.Gt) : Prop := ∀ i x, l[i]? = some x → ∃ b o, a = some ⟨b, o, none⟩ ∧ w.cell? ⟨b, o + i * 3, none⟩ = some (.int .i64 x.op) ∧ w.cell? ⟨b, o + i * 3 + 1, none⟩ = some (.int .i64 x.a) ∧ w.cell? ⟨b, o + i * 3 + 2, none⟩ = some (.int .i64 x.b) ∧ Cn.G64 x
theorem GatesAt.on {w w' : World} {a : Option Addr} {l : List Cn.Gt} (h : GatesAt w a l) (hg : w.grownBy w' none) : GatesAt w' a l := fun i x hi => by
  obtain ⟨b, o, e, h1, h2, h3, h4⟩ := h i x hi
  exact ⟨b, o, e, hg.cell h1 (by simp), hg.cell h2 (by simp), hg.cell h3 (by simp), h4⟩
theorem gdrewN (w : World) (n : Nat) (r : Option Nat) : w.grownBy (w.drewN n) r := ⟨rfl, rfl, rfl, Nat.le_refl _, fun _ _ _ => rfl⟩
theorem xT {p : Prop} [Decidable p] (h : p) : decide p = true := decide_eq_true h
theorem xF {p : Prop} [Decidable p] (h : ¬ p) : decide p = false := decide_eq_false h
theorem w64_small {x : Int} (h : I64 x) : wrap64 x = x := by unfold I64 at h; unfold wrap64; omega
theorem i64_small {x : Int} (h : I64 x) : IntKind.i64.wrap x = x := by rw [IntKind.wrap_i64]; unfold I64 at h; omega
end Go.Proofs.YtdhgopcfjomjaaaDoor
