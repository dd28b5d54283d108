/- Package code: the walker and its stacks in memory. -/
import Derived.Test.YtlppifnepckpiaaCeA
import Derived.Test.YtlppifnepckpiaaCdP
import Derived.ChangeKeysEq
namespace Go.Proofs.Ytlppifnepckpiaa
open Go.RowKit Go.Maps Go.WideMaps
open Cd (Kn)

/-- nothing of what was there has changed, but for the blocks X -/
structure Kp (X : List Nat) (w w' : World) : Prop where
  os : w'.os = w.os
  tape : w'.tape = w.tape
  output : w'.output = w.output
  size : w.heap.size ≤ w'.heap.size
  block : ∀ k, k < w.heap.size → k ∉ X → w'.heap[k]? = w.heap[k]?
theorem Kp.refl (X : List Nat) (w : World) : Kp X w w := ⟨rfl, rfl, rfl, Nat.le_refl _, fun _ _ _ => rfl⟩
theorem Kp.trans {X : List Nat} {a b c : World} (h : Kp X a b) (k : Kp X b c) : Kp X a c :=
  ⟨k.os.trans h.os, k.tape.trans h.tape, k.output.trans h.output, Nat.le_trans h.size k.size, fun i hi hx => (k.block i (Nat.lt_of_lt_of_le hi h.size) hx).trans (h.block i hi hx)⟩
theorem Kp.of {a b : World} {r : Option Nat} (h : a.grownBy b r) (X : List Nat) (hr : ∀ k, r = some k → k < a.heap.size → k ∈ X) : Kp X a b :=
  ⟨h.os, h.tape, h.output, h.size, fun i hi hx => h.block i hi (fun e => hx (hr i e.symm hi))⟩
theorem Kp.of0 {a b : World} (h : a.grownBy b none) (X : List Nat) : Kp X a b := Kp.of h X (fun k e => by cases e)
theorem Kp.mono {X Y : List Nat} {a b : World} (h : Kp X a b) (hs : ∀ k, k ∈ X → k < a.heap.size → k ∈ Y) : Kp Y a b :=
  ⟨h.os, h.tape, h.output, h.size, fun i hi hx => h.block i hi (fun e => hx (hs i e hi))⟩
/-- blocks that came later are no loss to the first world -/
theorem Kp.grown {X : List Nat} {w0 a b : World} (hg : w0.grownBy a none) (h : Kp X a b) (hX : ∀ k ∈ X, w0.heap.size ≤ k) : w0.grownBy b none :=
  ⟨h.os.trans hg.os, h.tape.trans hg.tape, h.output.trans hg.output, Nat.le_trans hg.size h.size, fun i hi _ => (h.block i (Nat.lt_of_lt_of_le hi hg.size) (fun e => by have := hX i e; omega)).trans (hg.block i hi (by simp))⟩
theorem cell_of_block {w w' : World} {k o : Nat} (h : w'.heap[k]? = w.heap[k]?) : w'.cell? ⟨k, o, none⟩ = w.cell? ⟨k, o, none⟩ := by
  unfold World.cell?
  rw [h]
theorem frozen_of_block {w w' : World} {k o : Nat} (h : w'.heap[k]? = w.heap[k]?) : w'.frozen? ⟨k, o, none⟩ = w.frozen? ⟨k, o, none⟩ := by
  unfold World.frozen?
  simp only [h]
theorem lt_of_some {w : World} {g o : Nat} {x : Value} (h : w.cell? ⟨g, o, none⟩ = some x) : g < w.heap.size := by
  rcases Nat.lt_or_ge g w.heap.size with h1 | h1
  · exact h1
  · unfold World.cell? at h
    rw [Array.getElem?_eq_none h1] at h
    cases h
theorem Kp.cell {X : List Nat} {w w' : World} (h : Kp X w w') {k o : Nat} {x : Value} (hc : w.cell? ⟨k, o, none⟩ = some x) (hk : k ∉ X) : w'.cell? ⟨k, o, none⟩ = some x := (cell_of_block (h.block k (lt_of_some hc) hk)).trans hc
theorem Kp.drew {X : List Nat} {w w' : World} (h : Kp X w w') : Kp X w w'.drew := ⟨h.os, h.tape, h.output, h.size, h.block⟩
theorem Kp.set {X : List Nat} {w w' : World} (h : Kp X w w') {k o : Nat} (hk : k ∈ X) (v : Value) : Kp X w (w'.setCell ⟨k, o, none⟩ v) :=
  ⟨h.os, h.tape, h.output, by simpa [World.setCell] using h.size, fun i hi hx => (heap_setCell_other w' ⟨k, o, none⟩ i v (fun e => hx (by rw [e]; exact hk))).trans (h.block i hi hx)⟩

/-- what the stack is at an instruction, as cells: is it reached, how high, the kinds from below, nought above them -/
def rowC (s : Option (List Int)) : List Value := .bool s.isSome :: .int .u8 ((s.getD []).length : Int) :: (List.range 64).map fun j => .int .u8 ((s.getD []).reverse.getD j 0)
theorem rowC_len (s : Option (List Int)) : (rowC s).length = 66 := by simp [rowC]
theorem row_parts {w : World} {b o : Nat} {s : Option (List Int)} : w.rangeAt b o (rowC s) ↔ w.cell? ⟨b, o, none⟩ = some (.bool s.isSome) ∧ w.cell? ⟨b, o + 1, none⟩ = some (.int .u8 ((s.getD []).length : Int)) ∧ ∀ j, j < 64 → w.cell? ⟨b, o + 2 + j, none⟩ = some (.int .u8 ((s.getD []).reverse.getD j 0)) := by
  constructor
  · intro h
    refine ⟨by simpa using h 0 _ rfl, h 1 _ rfl, fun j hj => ?_⟩
    have := h (j + 2) (.int .u8 ((s.getD []).reverse.getD j 0)) (by simp [rowC, hj])
    rw [show o + 2 + j = o + (j + 2) by omega]
    exact this
  · rintro ⟨h0, h1, h2⟩ j v hv
    match j, hv with
    | 0, hv => simp [rowC] at hv; subst hv; simpa using h0
    | 1, hv => simp [rowC] at hv; subst hv; exact h1
    | j + 2, hv =>
      simp only [rowC, List.getElem?_cons_succ, List.getElem?_map] at hv
      have hj : j < 64 := by
        rcases Nat.lt_or_ge j 64 with h | h
        · exact h
        · rw [List.getElem?_eq_none (by simpa using h)] at hv
          cases hv
      rw [List.getElem?_range hj] at hv
      simp at hv
      subst hv
      have := h2 j hj
      simp at this
      rw [show o + (j + 2) = o + 2 + j by omega]
      exact this
theorem getD_up (k : Int) (l : List Int) (j : Nat) : (k :: l).reverse.getD j 0 = if j = l.length then k else l.reverse.getD j 0 := by
  rw [List.reverse_cons, List.getD_eq_getElem?_getD, List.getD_eq_getElem?_getD, List.getElem?_append]
  by_cases h : j < l.length
  · rw [if_pos (by simpa using h), if_neg (by omega)]
  · rw [if_neg (by simpa using h)]
    by_cases h2 : j = l.length
    · subst h2; simp
    · rw [if_neg h2, List.getElem?_eq_none (l := [k]) (by simp; omega), List.getElem?_eq_none (l := l.reverse) (by simp; omega)]
theorem row_inj {l m : List Int} (hl : l.length ≤ 64) (_hm : m.length ≤ 64) (h : rowC (some l) = rowC (some m)) : l = m := by
  simp only [rowC, Option.getD_some, List.cons.injEq, Value.int.injEq, true_and] at h
  obtain ⟨-, h1, h2⟩ := h
  have e : l.length = m.length := by omega
  have : l.reverse = m.reverse := by
    apply List.ext_getElem? 
    intro j
    by_cases hj : j < l.length
    · have h3 := congrArg (fun x : List Value => x[j]?) h2
      simp only [List.getElem?_map, List.getElem?_range (show j < 64 by omega), Option.map_some, Option.some.injEq, Value.int.injEq, true_and, List.getD_eq_getElem?_getD] at h3
      rw [List.getElem?_eq_getElem (by simpa using hj), List.getElem?_eq_getElem (by simp; omega)] at h3 ⊢
      simpa using h3
    · rw [List.getElem?_eq_none (by simpa using hj), List.getElem?_eq_none (by simp; omega)]
  exact List.reverse_inj.1 this

/-- the walker in block b, what it knows of all instructions in block g -/
structure Wk (W w : World) (b g : Nat) (cs : Array Value) (at_ : Nat) (s : Option (List Int)) (qs : Kn) : Prop where
  grown : W.grownBy w none
  hb : W.heap.size ≤ b
  hg : W.heap.size ≤ g
  ne : b ≠ g
  n7 : cs.size = 7
  code : w.rangeAt b 0 cs.toList
  place : w.cell? ⟨b, 7, none⟩ = some (.int .i64 (at_ : Int))
  now : w.rangeAt b 8 (rowC s)
  ways : w.cell? ⟨b, 74, none⟩ = some (.slice (some ⟨g, 0, none⟩) qs.length qs.length)
  tb : w.there b 0 75
  rows : ∀ i q, qs[i]? = some q → w.rangeAt g (i * 66) (rowC q)
  tg : w.there g 0 (qs.length * 66)

section
variable {W w w' : World} {b g : Nat} {cs : Array Value} {at_ : Nat} {s : Option (List Int)} {qs : Kn}
theorem Wk.bl (h : Wk W w b g cs at_ s qs) : b < w.heap.size := lt_of_some h.place
theorem Wk.fr (h : Wk W w b g cs at_ s qs) {o : Nat} (ho : o < 75) : w.frozen? ⟨b, o, none⟩ = false := by
  have := (h.tb o ho).2
  rwa [Nat.zero_add] at this
theorem rangeAt.of {w w' : World} {b o : Nat} {cs : List Value} (h : w.rangeAt b o cs) (hb : w'.heap[b]? = w.heap[b]?) : w'.rangeAt b o cs := fun j v hv => (cell_of_block hb).trans (h j v hv)
theorem there.of {w w' : World} {b o n : Nat} (h : w.there b o n) (hb : w'.heap[b]? = w.heap[b]?) : w'.there b o n := fun j hj => by
  obtain ⟨h1, h2⟩ := h j hj
  exact ⟨by rw [cell_of_block hb]; exact h1, (frozen_of_block hb).trans h2⟩
theorem Wk.gl (h : Wk W w b g cs at_ s qs) (hq : 0 < qs.length) : g < w.heap.size := by
  obtain ⟨x, hx⟩ := Option.isSome_iff_exists.1 (h.tg 0 (by omega)).1
  exact lt_of_some hx
/-- what neither turns b nor g leaves the walker -/
theorem Wk.on (h : Wk W w b g cs at_ s qs) (hq : 0 < qs.length) (hk : w.grownBy w' none) : Wk W w' b g cs at_ s qs :=
  have e1 := hk.block b h.bl (by simp)
  have e2 := hk.block g (h.gl hq) (by simp)
  ⟨h.grown.trans hk, h.hb, h.hg, h.ne, h.n7, rangeAt.of h.code e1, (cell_of_block e1).trans h.place, rangeAt.of h.now e1, (cell_of_block e1).trans h.ways, there.of h.tb e1, fun i q hi => rangeAt.of (h.rows i q hi) e2, there.of h.tg e2⟩
/-- a cell of the walker's own stack is set -/
theorem Wk.kpb (h : Wk W w b g cs at_ s qs) {o : Nat} (v : Value) : W.grownBy (w.setCell ⟨b, o, none⟩ v) none :=
  Kp.grown h.grown (Kp.set (Kp.refl [b, g] w) (by simp) v) (fun k hk => by
    simp at hk
    rcases hk with rfl | rfl
    · exact h.hb
    · exact h.hg)
end
end Go.Proofs.Ytlppifnepckpiaa
