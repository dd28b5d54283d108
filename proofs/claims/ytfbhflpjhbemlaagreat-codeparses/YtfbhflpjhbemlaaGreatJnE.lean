/- Texts joined: CfA, CfB, CfC, CfD, CfE, CfF, CfG, CfH, CfI, CfJ, CfK. -/
import Derived.Test.YtfbhflpjhbemlaaGreatJnD
import Derived.ChangeKeysEq
import Derived.Test.YtfbhflpjhbemlaaGreatJnA
/- Package code: the walker and its stacks in memory. -/
namespace Go.Proofs.YtfbhflpjhbemlaaGreat
open Go.RowKit Go.Maps Go.WideMaps
open Cd (Kn)

/-- nothing of what was there has changed, but for the blocks X -/
structure Kp (X : List Nat) (w w' : World) : Prop where
  os : w'.os = w.os
  tape : w'.tape = w.tape
  output : w'.output = w.output
  size : w.heap.size ≤ w'.heap.size
  block : ∀ k, k < w.heap.size → k ∉ X → w'.heap[k]? = w.heap[k]?
theorem Kp.refl (X : List Nat) (w : World) : Kp X w w := ⟨rfl, rfl, rfl, Nat.le_refl _, fun _ _ _ => rfl⟩
theorem Kp.trans {X : List Nat} {a b c : World} (h : Kp X a b) (k : Kp X b c) : Kp X a c :=
  ⟨k.os.trans h.os, k.tape.trans h.tape, k.output.trans h.output, Nat.le_trans h.size k.size, fun i hi hx => (k.block i (Nat.lt_of_lt_of_le hi h.size) hx).trans (h.block i hi hx)⟩
theorem Kp.of {a b : World} {r : Option Nat} (h : a.grownBy b r) (X : List Nat) (hr : ∀ k, r = some k → k < a.heap.size → k ∈ X) : Kp X a b :=
  ⟨h.os, h.tape, h.output, h.size, fun i hi hx => h.block i hi (fun e => hx (hr i e.symm hi))⟩
theorem Kp.of0 {a b : World} (h : a.grownBy b none) (X : List Nat) : Kp X a b := Kp.of h X (fun k e => by cases e)
theorem Kp.mono {X Y : List Nat} {a b : World} (h : Kp X a b) (hs : ∀ k, k ∈ X → k < a.heap.size → k ∈ Y) : Kp Y a b :=
  ⟨h.os, h.tape, h.output, h.size, fun i hi hx => h.block i hi (fun e => hx (hs i e hi))⟩
/-- blocks that came later are no loss to the first world -/
theorem Kp.grown {X : List Nat} {w0 a b : World} (hg : w0.grownBy a none) (h : Kp X a b) (hX : ∀ k ∈ X, w0.heap.size ≤ k) : w0.grownBy b none :=
  ⟨h.os.trans hg.os, h.tape.trans hg.tape, h.output.trans hg.output, Nat.le_trans hg.size h.size, fun i hi _ => (h.block i (Nat.lt_of_lt_of_le hi hg.size) (fun e => by have := hX i e; omega)).trans (hg.block i hi (by simp))⟩
theorem cell_of_block {w w' : World} {k o : Nat} (h : w'.heap[k]? = w.heap[k]?) : w'.cell? ⟨k, o, none⟩ = w.cell? ⟨k, o, none⟩ := by
  unfold World.cell?
  rw [h]
theorem frozen_of_block {w w' : World} {k o : Nat} (h : w'.heap[k]? = w.heap[k]?) : w'.frozen? ⟨k, o, none⟩ = w.frozen? ⟨k, o, none⟩ := by
  unfold World.frozen?
  simp only [h]
theorem lt_of_some {w : World} {g o : Nat} {x : Value} (h : w.cell? ⟨g, o, none⟩ = some x) : g < w.heap.size := by
  rcases Nat.lt_or_ge g w.heap.size with h1 | h1
  · exact h1
  · unfold World.cell? at h
    rw [Array.getElem?_eq_none h1] at h
    cases h
theorem Kp.cell {X : List Nat} {w w' : World} (h : Kp X w w') {k o : Nat} {x : Value} (hc : w.cell? ⟨k, o, none⟩ = some x) (hk : k ∉ X) : w'.cell? ⟨k, o, none⟩ = some x := (cell_of_block (h.block k (lt_of_some hc) hk)).trans hc
theorem Kp.drew {X : List Nat} {w w' : World} (h : Kp X w w') : Kp X w w'.drew := ⟨h.os, h.tape, h.output, h.size, h.block⟩
theorem Kp.set {X : List Nat} {w w' : World} (h : Kp X w w') {k o : Nat} (hk : k ∈ X) (v : Value) : Kp X w (w'.setCell ⟨k, o, none⟩ v) :=
  ⟨h.os, h.tape, h.output, by simpa [World.setCell] using h.size, fun i hi hx => (heap_setCell_other w' ⟨k, o, none⟩ i v (fun e => hx (by rw [e]; exact hk))).trans (h.block i hi hx)⟩

/-- what the stack is at an instruction, as cells: is it reached, how high, the kinds from below, nought above them -/
def rowC (s : Option (List Int)) : List Value := .bool s.isSome :: .int .u8 ((s.getD []).length : Int) :: (List.range 64).map fun j => .int .u8 ((s.getD []).reverse.getD j 0)
theorem rowC_len (s : Option (List Int)) : (rowC s).length = 66 := by simp [rowC]
theorem row_parts {w : World} {b o : Nat} {s : Option (List Int)} : w.rangeAt b o (rowC s) ↔ w.cell? ⟨b, o, none⟩ = some (.bool s.isSome) ∧ w.cell? ⟨b, o + 1, none⟩ = some (.int .u8 ((s.getD []).length : Int)) ∧ ∀ j, j < 64 → w.cell? ⟨b, o + 2 + j, none⟩ = some (.int .u8 ((s.getD []).reverse.getD j 0)) := by
  constructor
  · intro h
    refine ⟨by simpa using h 0 _ rfl, h 1 _ rfl, fun j hj => ?_⟩
    have := h (j + 2) (.int .u8 ((s.getD []).reverse.getD j 0)) (by simp [rowC, hj])
    rw [show o + 2 + j = o + (j + 2) by omega]
    exact this
  · rintro ⟨h0, h1, h2⟩ j v hv
    match j, hv with
    | 0, hv => simp [rowC] at hv; subst hv; simpa using h0
    | 1, hv => simp [rowC] at hv; subst hv; exact h1
    | j + 2, hv =>
      simp only [rowC, List.getElem?_cons_succ, List.getElem?_map] at hv
      have hj : j < 64 := by
        rcases Nat.lt_or_ge j 64 with h | h
        · exact h
        · rw [List.getElem?_eq_none (by simpa using h)] at hv
          cases hv
      rw [List.getElem?_range hj] at hv
      simp at hv
      subst hv
      have := h2 j hj
      simp at this
      rw [show o + (j + 2) = o + 2 + j by omega]
      exact this
theorem getD_up (k : Int) (l : List Int) (j : Nat) : (k :: l).reverse.getD j 0 = if j = l.length then k else l.reverse.getD j 0 := by
  rw [List.reverse_cons, List.getD_eq_getElem?_getD, List.getD_eq_getElem?_getD, List.getElem?_append]
  by_cases h : j < l.length
  · rw [if_pos (by simpa using h), if_neg (by omega)]
  · rw [if_neg (by simpa using h)]
    by_cases h2 : j = l.length
    · subst h2; simp
    · rw [if_neg h2, List.getElem?_eq_none (l := [k]) (by simp; omega), List.getElem?_eq_none (l := l.reverse) (by simp; omega)]
theorem row_inj {l m : List Int} (hl : l.length ≤ 64) (_hm : m.length ≤ 64) (h : rowC (some l) = rowC (some m)) : l = m := by
  simp only [rowC, Option.getD_some, List.cons.injEq, Value.int.injEq, true_and] at h
  obtain ⟨-, h1, h2⟩ := h
  have e : l.length = m.length := by omega
  have : l.reverse = m.reverse := by
    apply List.ext_getElem? 
    intro j
    by_cases hj : j < l.length
    · have h3 := congrArg (fun x : List Value => x[j]?) h2
      simp only [List.getElem?_map, List.getElem?_range (show j < 64 by omega), Option.map_some, Option.some.injEq, Value.int.injEq, true_and, List.getD_eq_getElem?_getD] at h3
      rw [List.getElem?_eq_getElem (by simpa using hj), List.getElem?_eq_getElem (by simp; omega)] at h3 ⊢
      simpa using h3
    · rw [List.getElem?_eq_none (by simpa using hj), List.getElem?_eq_none (by simp; omega)]
  exact List.reverse_inj.1 this

/-- the walker in block b, what it knows of all instructions in block g -/
structure Wk (W w : World) (b g : Nat) (cs : Array Value) (at_ : Nat) (s : Option (List Int)) (qs : Kn) : Prop where
  grown : W.grownBy w none
  hb : W.heap.size ≤ b
  hg : W.heap.size ≤ g
  ne : b ≠ g
  n7 : cs.size = 7
  code : w.rangeAt b 0 cs.toList
  place : w.cell? ⟨b, 7, none⟩ = some (.int .i64 (at_ : Int))
  now : w.rangeAt b 8 (rowC s)
  ways : w.cell? ⟨b, 74, none⟩ = some (.slice (some ⟨g, 0, none⟩) qs.length qs.length)
  tb : w.there b 0 75
  rows : ∀ i q, qs[i]? = some q → w.rangeAt g (i * 66) (rowC q)
  tg : w.there g 0 (qs.length * 66)

section
variable {W w w' : World} {b g : Nat} {cs : Array Value} {at_ : Nat} {s : Option (List Int)} {qs : Kn}
theorem Wk.bl (h : Wk W w b g cs at_ s qs) : b < w.heap.size := lt_of_some h.place
theorem Wk.fr (h : Wk W w b g cs at_ s qs) {o : Nat} (ho : o < 75) : w.frozen? ⟨b, o, none⟩ = false := by
  have := (h.tb o ho).2
  rwa [Nat.zero_add] at this
theorem rangeAt.of {w w' : World} {b o : Nat} {cs : List Value} (h : w.rangeAt b o cs) (hb : w'.heap[b]? = w.heap[b]?) : w'.rangeAt b o cs := fun j v hv => (cell_of_block hb).trans (h j v hv)
theorem there.of {w w' : World} {b o n : Nat} (h : w.there b o n) (hb : w'.heap[b]? = w.heap[b]?) : w'.there b o n := fun j hj => by
  obtain ⟨h1, h2⟩ := h j hj
  exact ⟨by rw [cell_of_block hb]; exact h1, (frozen_of_block hb).trans h2⟩
theorem Wk.gl (h : Wk W w b g cs at_ s qs) (hq : 0 < qs.length) : g < w.heap.size := by
  obtain ⟨x, hx⟩ := Option.isSome_iff_exists.1 (h.tg 0 (by omega)).1
  exact lt_of_some hx
/-- what neither turns b nor g leaves the walker -/
theorem Wk.on (h : Wk W w b g cs at_ s qs) (hq : 0 < qs.length) (hk : w.grownBy w' none) : Wk W w' b g cs at_ s qs :=
  have e1 := hk.block b h.bl (by simp)
  have e2 := hk.block g (h.gl hq) (by simp)
  ⟨h.grown.trans hk, h.hb, h.hg, h.ne, h.n7, rangeAt.of h.code e1, (cell_of_block e1).trans h.place, rangeAt.of h.now e1, (cell_of_block e1).trans h.ways, there.of h.tb e1, fun i q hi => rangeAt.of (h.rows i q hi) e2, there.of h.tg e2⟩
/-- a cell of the walker's own stack is set -/
theorem Wk.kpb (h : Wk W w b g cs at_ s qs) {o : Nat} (v : Value) : W.grownBy (w.setCell ⟨b, o, none⟩ v) none :=
  Kp.grown h.grown (Kp.set (Kp.refl [b, g] w) (by simp) v) (fun k hk => by
    simp at hk
    rcases hk with rfl | rfl
    · exact h.hb
    · exact h.hg)
end
end Go.Proofs.YtfbhflpjhbemlaaGreat

/- Package code: a stack's put and take. -/
namespace Go.Proofs.YtfbhflpjhbemlaaGreat
open Go.RowKit Go.Maps Go.WideMaps
open Cd (Kn)

theorem there_set {w : World} {b o n : Nat} (h : w.there b o n) (a : Addr) (v : Value) : (w.setCell a v).there b o n := fun j hj => by
  obtain ⟨h1, h2⟩ := h j hj
  obtain ⟨x, hx⟩ := Option.isSome_iff_exists.1 h1
  obtain ⟨y, hy⟩ := cell?_setCell_some (p := a) (x := v) hx
  exact ⟨by rw [hy]; rfl, (World.frozen?_setCell ..).trans h2⟩
theorem cell_set_ne {w : World} {b o p : Nat} (v : Value) (h : o ≠ p) : (w.setCell ⟨b, o, none⟩ v).cell? ⟨b, p, none⟩ = w.cell? ⟨b, p, none⟩ := by
  apply World.cell?_setCell_other
  intro e
  cases e
  exact h rfl
theorem cell_set_same {w : World} {a : Addr} {u : Value} (v : Value) (h : w.cell? a = some u) : (w.setCell a v).cell? a = some v := World.cell?_setCell_same' _ _ _ (by rw [h]; rfl)
section
variable {W w w' : World} {l : List Int} {b g : Nat} {cs : Array Value} {at_ : Nat} {s s' : Option (List Int)} {qs : Kn}
/-- another stack -/
theorem Wk.renow (h : Wk W w b g cs at_ s qs) (hk : Kp [b] w w') (hc : ∀ o, o < 8 ∨ o = 74 → w'.cell? ⟨b, o, none⟩ = w.cell? ⟨b, o, none⟩) (ht : w'.there b 0 75) (hn : w'.rangeAt b 8 (rowC s')) : Wk W w' b g cs at_ s' qs := by
  have hgk : 0 < qs.length → w'.heap[g]? = w.heap[g]? := fun hq => hk.block g (h.gl hq) (by simp; exact fun e => h.ne e.symm)
  refine ⟨Kp.grown h.grown hk (fun k hx => by simp at hx; subst hx; exact h.hb), h.hb, h.hg, h.ne, h.n7, fun j v hv => ?_, (hc 7 (by omega)).trans h.place, hn, (hc 74 (by omega)).trans h.ways, ht, fun i q hi => ?_, ?_⟩
  · have hj : j < 7 := by
      have := (List.getElem?_eq_some_iff.1 hv).1
      rwa [Array.length_toList, h.n7] at this
    rw [hc (0 + j) (by omega)]
    exact h.code j v hv
  · exact rangeAt.of (h.rows i q hi) (hgk (by have := (List.getElem?_eq_some_iff.1 hi).1; omega))
  · by_cases hq : 0 < qs.length
    · exact there.of h.tg (hgk hq)
    · exact fun j hj => by omega
theorem Wk.put (h : Wk W w b g cs at_ (some l) qs) (hl : l.length < 64) (k : Int) : Wk W ((w.setCell ⟨b, 10 + l.length, none⟩ (.int .u8 k)).drew.setCell ⟨b, 9, none⟩ (.int .u8 ((l.length : Int) + 1))) b g cs at_ (some (k :: l)) qs ∧ Kp [b, g] w ((w.setCell ⟨b, 10 + l.length, none⟩ (.int .u8 k)).drew.setCell ⟨b, 9, none⟩ (.int .u8 ((l.length : Int) + 1))) := by
  obtain ⟨c0, c1, c2⟩ := row_parts.1 h.now
  simp only [Option.getD_some, Nat.reduceAdd] at c0 c1 c2
  have hk : ∀ X, b ∈ X → Kp X w ((w.setCell ⟨b, 10 + l.length, none⟩ (.int .u8 k)).drew.setCell ⟨b, 9, none⟩ (.int .u8 ((l.length : Int) + 1))) := fun X hX => ((Kp.refl X w).set hX _).drew.set hX _
  refine ⟨h.renow (hk [b] (by simp)) (fun o ho => ?_) (there_set (w := (w.setCell ⟨b, 10 + l.length, none⟩ (.int .u8 k)).drew) (there_set h.tb _ _) _ _) (row_parts.2 ⟨?_, ?_, fun j hj => ?_⟩), hk _ (by simp)⟩
  · rw [cell_set_ne _ (by omega)]
    exact cell_set_ne _ (by omega)
  · rw [cell_set_ne _ (by omega)]
    exact (cell_set_ne _ (by omega)).trans c0
  · have : (w.setCell ⟨b, 10 + l.length, none⟩ (.int .u8 k)).drew.cell? ⟨b, 9, none⟩ = some (.int .u8 (l.length : Int)) := (cell_set_ne _ (by omega)).trans c1
    rw [cell_set_same _ this]
    simp
  · rw [cell_set_ne _ (by omega)]
    simp only [Option.getD_some, Nat.reduceAdd]
    rw [getD_up]
    by_cases e : j = l.length
    · subst e
      rw [if_pos rfl]
      exact cell_set_same _ (c2 _ hj)
    · rw [if_neg e]
      exact (cell_set_ne _ (by omega)).trans (c2 j hj)
theorem Wk.take {k : Int} {r : List Int} (h : Wk W w b g cs at_ (some (k :: r)) qs) (hl : r.length < 64) : Wk W ((w.setCell ⟨b, 9, none⟩ (.int .u8 (r.length : Int))).setCell ⟨b, 10 + r.length, none⟩ (.int .u8 0)).drew b g cs at_ (some r) qs ∧ Kp [b, g] w ((w.setCell ⟨b, 9, none⟩ (.int .u8 (r.length : Int))).setCell ⟨b, 10 + r.length, none⟩ (.int .u8 0)).drew := by
  obtain ⟨c0, c1, c2⟩ := row_parts.1 h.now
  simp only [Option.getD_some, Nat.reduceAdd] at c0 c1 c2
  have hk : ∀ X, b ∈ X → Kp X w ((w.setCell ⟨b, 9, none⟩ (.int .u8 (r.length : Int))).setCell ⟨b, 10 + r.length, none⟩ (.int .u8 0)).drew := fun X hX => (((Kp.refl X w).set hX _).set hX _).drew
  refine ⟨h.renow (hk [b] (by simp)) (fun o ho => ?_) (there_set (w := (w.setCell ⟨b, 9, none⟩ (.int .u8 (r.length : Int)))) (there_set h.tb _ _) _ _) (row_parts.2 ⟨?_, ?_, fun j hj => ?_⟩), hk _ (by simp)⟩
  · exact (cell_set_ne _ (by omega)).trans (cell_set_ne _ (by omega))
  · exact (cell_set_ne _ (by omega)).trans ((cell_set_ne _ (by omega)).trans c0)
  · exact (cell_set_ne _ (by omega)).trans (cell_set_same _ c1)
  · simp only [Option.getD_some, Nat.reduceAdd]
    have h2 := c2 j hj
    rw [getD_up] at h2
    have h3 : (w.setCell ⟨b, 9, none⟩ (.int .u8 (r.length : Int))).cell? ⟨b, 10 + j, none⟩ = w.cell? ⟨b, 10 + j, none⟩ := cell_set_ne _ (by omega)
    by_cases e : j = r.length
    · subst e
      rw [List.getD_eq_getElem?_getD, List.getElem?_eq_none (by simp)]
      exact cell_set_same _ (h3.trans h2)
    · rw [if_neg e] at h2
      exact (cell_set_ne _ (by omega)).trans (h3.trans h2)
end

set_option maxHeartbeats 1000000 in
theorem sput_any (W : World) (b g : Nat) (cs : Array Value) (at_ : Nat) (l : List Int) (qs : Kn) (k : Int) (hl : l.length < 64) (hk : 1 ≤ k ∧ k ≤ 9) (w : World) (h : Wk W w b g cs at_ (some l) qs) :
    Calls Tryz.prog 78 #[.pointer (some ⟨b, 8, none⟩), .int .i64 k] w fun e w' => e = .returned (.tuple #[]) ∧ Wk W w' b g cs at_ (some (k :: l)) qs ∧ Kp [b, g] w w' := by
  obtain ⟨c0, c1, c2⟩ := row_parts.1 h.now
  simp only [Option.getD_some, Nat.reduceAdd] at c0 c1 c2
  have ck := c2 l.length hl
  have f1 := h.fr (o := 9) (by omega)
  have f2 := h.fr (o := 10 + l.length) (by omega)
  have HP := Lib.hid (h.put hl k)
  clear c0 c2 h
  go_enter Tryz.func78, Tryz.ntmps78
  go_wp2
  go_region
  obtain ⟨W1, hW1⟩ : ∃ W1, W1 = (w.setCell ⟨b, 10 + l.length, none⟩ (.int .u8 k)).drew := ⟨_, rfl⟩
  have c1' : W1.cell? ⟨b, 9, none⟩ = some (.int .u8 (l.length : Int)) := by rw [hW1]; exact (cell_set_ne _ (by omega)).trans c1
  have f1' : W1.frozen? ⟨b, 9, none⟩ = false := by rw [hW1]; exact (World.frozen?_setCell ..).trans f1
  rw [← hW1] at HP ⊢
  clear hW1 c1 f1 f2 ck
  go_wp2
  go_end0
  exact ⟨rfl, HP.out⟩

theorem u8w (n : Int) : IntKind.u8.wrap n = n % 256 := by rfl
set_option maxHeartbeats 1000000 in
theorem take_none (W : World) (b g : Nat) (cs : Array Value) (at_ : Nat) (l : List Int) (qs : Kn) (k : Int) (hl : l.length ≤ 64) (hall : ∀ x ∈ l, 1 ≤ x ∧ x ≤ 9) (hno : l.head? ≠ some k) (w : World) (h : Wk W w b g cs at_ (some l) qs) :
    Calls Tryz.prog 64 #[.pointer (some ⟨b, 8, none⟩), .int .i64 k] w fun e w' => e = .returned (.bool false) ∧ w.grownBy w' none := by
  obtain ⟨c0, c1, c2⟩ := row_parts.1 h.now
  simp only [Option.getD_some, Nat.reduceAdd] at c0 c1 c2
  cases l with
  | nil =>
    clear c0 c2 h
    simp only [List.length_nil] at c1
    go_enter Tryz.func64, Tryz.ntmps64
    go_wp2
    go_quiet (fail)
    go_wp2
    go_ret
    exact ⟨rfl, rfl, rfl, rfl, Nat.le_refl _, fun _ _ _ => rfl⟩
  | cons a r =>
    have hl' : r.length < 64 := hl
    have ck := c2 r.length hl'
    rw [getD_up, if_pos rfl] at ck
    obtain ⟨a1, a2⟩ := hall a (by simp)
    have ea : (a == k) = false := by
      rw [beq_eq_false_iff_ne]
      rintro rfl
      exact hno rfl
    have e1 : (((r.length : Int) + 1) == 0) = false := by rw [beq_eq_false_iff_ne]; omega
    have ew : IntKind.u8.wrap ((r.length : Int) + 1 - 1) = (r.length : Int) := by rw [u8w]; omega
    simp only [List.length_cons, Int.natCast_add, Int.natCast_one] at c1
    clear c0 c2 h hall hno hl
    generalize r.length = n at *
    go_enter Tryz.func64, Tryz.ntmps64
    go_wp2
    go_quiet (fail)
    go_wp2
    go_ret
    exact ⟨rfl, rfl, rfl, rfl, Nat.le_refl _, fun _ _ _ => rfl⟩

set_option maxHeartbeats 1000000 in
theorem take_some (W : World) (b g : Nat) (cs : Array Value) (at_ : Nat) (r : List Int) (qs : Kn) (k : Int) (hl : r.length < 64) (hk : 1 ≤ k ∧ k ≤ 9) (w : World) (h : Wk W w b g cs at_ (some (k :: r)) qs) :
    Calls Tryz.prog 64 #[.pointer (some ⟨b, 8, none⟩), .int .i64 k] w fun e w' => e = .returned (.bool true) ∧ Wk W w' b g cs at_ (some r) qs ∧ Kp [b, g] w w' := by
  obtain ⟨c0, c1, c2⟩ := row_parts.1 h.now
  simp only [Option.getD_some, Nat.reduceAdd] at c0 c1 c2
  have ck := c2 r.length hl
  rw [getD_up, if_pos rfl] at ck
  have e1 : (((r.length : Int) + 1) == 0) = false := by rw [beq_eq_false_iff_ne]; omega
  have ew : IntKind.u8.wrap ((r.length : Int) + 1 - 1) = (r.length : Int) := by rw [u8w]; omega
  simp only [List.length_cons, Int.natCast_add, Int.natCast_one] at c1
  have f1 := h.fr (o := 9) (by omega)
  have f2 := h.fr (o := 10 + r.length) (by omega)
  have HP : ∀ m, Hid (Wk W ((((w.drewN m).setCell ⟨b, 9, none⟩ (.int .u8 (r.length : Int))).setCell ⟨b, 10 + r.length, none⟩ (.int .u8 0)).drew) b g cs at_ (some r) qs ∧ Kp [b, g] w ((((w.drewN m).setCell ⟨b, 9, none⟩ (.int .u8 (r.length : Int))).setCell ⟨b, 10 + r.length, none⟩ (.int .u8 0)).drew)) := fun m => Lib.hid (by
    have h' : Wk W (w.drewN m) b g cs at_ (some (k :: r)) qs := ⟨⟨h.grown.os, h.grown.tape, h.grown.output, h.grown.size, h.grown.block⟩, h.hb, h.hg, h.ne, h.n7, h.code, h.place, h.now, h.ways, h.tb, h.rows, h.tg⟩
    have := h'.take hl
    exact ⟨this.1, ⟨this.2.os, this.2.tape, this.2.output, this.2.size, this.2.block⟩⟩)
  clear c0 c2 h
  generalize r.length = n at *
  go_enter Tryz.func64, Tryz.ntmps64
  go_wp2
  go_quiet (fail)
  go_wp2
  have HQ := HP nq
  obtain ⟨W1, hW1⟩ : ∃ W1, W1 = (w.drewN nq).setCell ⟨b, 9, none⟩ (.int .u8 (n : Int)) := ⟨_, rfl⟩
  have c1' : W1.cell? ⟨b, 9, none⟩ = some (.int .u8 (n : Int)) := by rw [hW1]; exact cell_set_same (w := w.drewN nq) _ c1
  have ck' : W1.cell? ⟨b, 10 + n, none⟩ = some (.int .u8 k) := by rw [hW1]; exact (cell_set_ne (w := w.drewN nq) _ (by omega)).trans ck
  have f2' : W1.frozen? ⟨b, 10 + n, none⟩ = false := by rw [hW1]; exact (World.frozen?_setCell ..).trans f2
  rw [← hW1] at HQ ⊢
  clear hW1 c1 f1 f2 ck HP e1 ew
  go_region
  go_wp2
  go_ret
  exact ⟨rfl, HQ.out⟩
end Go.Proofs.YtfbhflpjhbemlaaGreat

/- Package code: two stacks are compared. -/
namespace Go.Proofs.YtfbhflpjhbemlaaGreat
open Go.RowKit Go.Maps Go.WideMaps
open Cd (Kn)

theorem eq_items {P : Program} (w : World) (d : Nat) {e : TypeId} (he : P.underlying e = some (.int .u8)) (hp : P.plainKey e = true) (xs ys : Array Value) : ∀ is : List Nat, (∀ i ∈ is, ∃ a b, xs[i]? = some (.int .u8 a) ∧ ys[i]? = some (.int .u8 b)) →
    ∃ r : Bool, (Op.eqItems (d + 1) e 1 xs ys is).run P w = .ok r w ∧ (r = true ↔ ∀ i ∈ is, xs[i]? = ys[i]?)
  | [], _ => ⟨true, by simp [Op.eqItems], by simp⟩
  | i :: is, h => by
    obtain ⟨a, b, ha, hb⟩ := h i (by simp)
    obtain ⟨r, hr, hi⟩ := eq_items w d he hp xs ys is (fun j hj => h j (by simp [hj]))
    have h1 := run_part_plain (P := P) w hp ha
    have h2 := run_part_plain (P := P) w hp hb
    have h3 := run_equalIn_int (P := P) w d e .u8 .u8 a b he
    simp only [Op.eqItems, Sem.run_bind, Nat.mul_one, h1, h2, h3, Result.andThen_ok]
    by_cases hab : a = b
    · refine ⟨r, by simpa [hab] using hr, ?_⟩
      rw [hi]
      simp [ha, hb, hab]
    · refine ⟨false, by simp [hab], ?_⟩
      simp [ha, hb, hab]
def kindsC (s : Option (List Int)) : List Value := (List.range 64).map fun j => .int .u8 ((s.getD []).reverse.getD j 0)
theorem row_is (s : Option (List Int)) : rowC s = .bool s.isSome :: .int .u8 ((s.getD []).length : Int) :: kindsC s := rfl
theorem part_kinds (s : Option (List Int)) (w : World) : (part 72 (rowC s).toArray 2).run Tryz.prog w = .ok (.agg (kindsC s).toArray) w := by
  have h1 : (isAgg 72).run Tryz.prog w = .ok true w := by kernel_rfl
  have h2 : (sizeOf 72).run Tryz.prog w = .ok 64 w := by kernel_rfl
  have h3 : (rowC s).toArray.extract 2 66 = (kindsC s).toArray := by
    rw [List.extract_toArray, row_is, List.extract_eq_take_drop]
    congr 1
  simp only [part, Sem.run_bind, h1, h2, Result.andThen_ok, if_true, Sem.run_pure, h3]
theorem row_eq (s t : Option (List Int)) (w : World) : ∃ r : Bool, (binOp .eql 74 (.agg (rowC s).toArray) (.agg (rowC t).toArray)).run Tryz.prog w = .ok (.bool r) w ∧ (r = true ↔ rowC s = rowC t) := by
  rw [run_eql_struct]
  have h0 := run_equalIn_struct (P := Tryz.prog) w 9999 74 (rowC s).toArray (rowC t).toArray (by kernel_rfl) (by kernel_rfl)
  obtain ⟨r, hr, hi⟩ := eq_items (P := Tryz.prog) w 9997 (e := 5) (by kernel_rfl) (by kernel_rfl) (kindsC s).toArray (kindsC t).toArray (List.range 64) (fun i hi => by
    have hi' : i < 64 := by simpa using hi
    exact ⟨_, _, by simp [kindsC, hi']; rfl, by simp [kindsC, hi']; rfl⟩)
  obtain ⟨ti, hti⟩ := info_of_underlying (P := Tryz.prog) (t := 5) Tryz.underlying5
  have ha := run_equalIn_array (P := Tryz.prog) w 9998 (t := 72) (e := 5) (n := 64) (kindsC s).toArray (kindsC t).toArray (by kernel_rfl) hti
  rw [show Tryz.prog.cellsOf 5 = 1 by kernel_rfl] at ha
  have hf : (Tryz.prog.fieldsOf 74).toList = [⟨"reached", 4, 0, false, "", "metronome/code", 0⟩, ⟨"high", 5, 1, false, "", "metronome/code", 1⟩, ⟨"kinds", 72, 2, false, "", "metronome/code", 2⟩] := by kernel_rfl
  have p0 : ∀ s, (part 4 (rowC s).toArray 0).run Tryz.prog w = .ok (.bool s.isSome) w := fun s => run_part_plain w (by kernel_rfl) (by simp [row_is])
  have p1 : ∀ s, (part 5 (rowC s).toArray 1).run Tryz.prog w = .ok (.int .u8 ((s.getD []).length : Int)) w := fun s => run_part_plain w (by kernel_rfl) (by simp [row_is])
  have q0 := run_equalIn_bool' (P := Tryz.prog) w 9998 4 s.isSome t.isSome (by kernel_rfl)
  have q1 := run_equalIn_int (P := Tryz.prog) w 9998 5 .u8 .u8 ((s.getD []).length : Int) ((t.getD []).length : Int) (by kernel_rfl)
  have n0 : ("reached" : String) ≠ "_" := by decide
  have n1 : ("high" : String) ≠ "_" := by decide
  have n2 : ("kinds" : String) ≠ "_" := by decide
  have hk : r = true ↔ kindsC s = kindsC t := by
    rw [hi]
    constructor
    · intro h
      apply List.ext_getElem?
      intro j
      by_cases hj : j < 64
      · simpa using h j (by simpa using hj)
      · rw [List.getElem?_eq_none (by simp [kindsC]; omega), List.getElem?_eq_none (by simp [kindsC]; omega)]
    · intro h j _
      rw [h]
  refine ⟨(s.isSome == t.isSome) && ((((s.getD []).length : Int) == ((t.getD []).length : Int)) && r), ?_, ?_⟩
  · rw [h0, hf]
    simp only [Op.eqFields, n0, n1, n2, ne_eq, not_false_eq_true, if_true, Sem.run_bind, p0, p1, part_kinds, q0, q1, ha, hr, Result.andThen_ok, Sem.run_ite, Sem.run_pure]
    generalize (s.isSome == t.isSome) = x0
    generalize (((s.getD []).length : Int) == ((t.getD []).length : Int)) = x1
    clear ha hr h0 hi hk
    cases x0 <;> cases x1 <;> cases r <;> simp only [Bool.not_true, Bool.not_false, Bool.false_eq_true, if_true, if_false, Result.andThen_ok, Bool.and_true, Bool.and_false]
  · rw [row_is, row_is]
    simp only [Bool.and_eq_true, beq_iff_eq, hk, List.cons.injEq, Value.bool.injEq, Value.int.injEq, true_and]
end Go.Proofs.YtfbhflpjhbemlaaGreat

/- Package code: the walker's lead, next, isSlot, put. -/
namespace Go.Proofs.YtfbhflpjhbemlaaGreat
open Go.RowKit Go.Maps Go.WideMaps
open Cd (Kn)

theorem row_eqs (s t : Option (List Int)) : ∃ r : Bool, (∀ w, (binOp .eql 74 (.agg (rowC s).toArray) (.agg (rowC t).toArray)).run Tryz.prog w = .ok (.bool r) w) ∧ (r = true ↔ rowC s = rowC t) := by
  refine ⟨@decide (rowC s = rowC t) (Classical.propDecidable _), fun w => ?_, by simp⟩
  obtain ⟨r, h, hi⟩ := row_eq s t w
  have hr : r = @decide (rowC s = rowC t) (Classical.propDecidable _) := by
    by_cases hp : rowC s = rowC t
    · rw [hi.2 hp, @decide_eq_true _ (Classical.propDecidable _) hp]
    · rw [@decide_eq_false _ (Classical.propDecidable _) hp]
      cases r
      · rfl
      · exact absurd (hi.1 rfl) hp
  rw [h, hr]
theorem exec_load_mid {P : Program} {op : Oper} {a : Act} {w : World} (ty : TypeId) (x : Operand) (ho : op.op = .load ty x) (b o : Nat) (hx : a.eval x = .pointer (some ⟨b, o, none⟩)) (cs : List Value) (d : TypeDesc) (hc : w.rangeAt b o cs)
    (hu : P.underlying ty = some d) (hd : d.isRow = true) (hi : (P.info? ty).map (·.size) = some cs.length) : (execOp a.eval op).run P w = .ok (.value (.agg cs.toArray)) w := by
  unfold execOp
  simp only [ho, hx, Instr.loadAt, Instr.sureAddr, Sem.run_bind, Sem.run_pure, Result.andThen_ok, run_loadVar_mid w b o ty cs d hc hu hd hi]
theorem hold_ldS {P : Program} {ops : Array Oper} {rest : List Oper} {d : Option Tmp} {p : Operand} {ty : TypeId} {s : String} {af : Array Edge} {g : Option (Nat × Bool)} {a : Act} {w : World} {Q : Exit → Act → World → Prop}
    (hK : Hid (wpList P ops Q ({ dst := d, op := Op.load 74 p, type := ty, pos := s, after := af, guard := g } :: rest) a w)) :
    wpList P ops Q ({ dst := d, op := Op.load 74 p, type := ty, pos := s, after := af, guard := g } :: rest) a w := hK
theorem hold_stS {P : Program} {ops : Array Oper} {rest : List Oper} {d : Option Tmp} {p v : Operand} {ty : TypeId} {s : String} {af : Array Edge} {g : Option (Nat × Bool)} {a : Act} {w : World} {Q : Exit → Act → World → Prop}
    (hK : Hid (wpList P ops Q ({ dst := d, op := Op.store 74 p v, type := ty, pos := s, after := af, guard := g } :: rest) a w)) :
    wpList P ops Q ({ dst := d, op := Op.store 74 p v, type := ty, pos := s, after := af, guard := g } :: rest) a w := hK
theorem grown_drewN (w : World) (k : Nat) (row : Option Nat) : w.grownBy (w.drewN k) row := ⟨rfl, rfl, rfl, Nat.le_refl _, fun _ _ _ => rfl⟩

set_option maxHeartbeats 1000000 in
theorem lead_neg (b : Nat) (n : Int) (hn : n < 0) (w : World) :
    Calls Tryz.prog 68 #[.pointer (some ⟨b, 0, none⟩), .int .i64 n] w fun e w' => e = .returned (.bool false) ∧ w.grownBy w' none := by
  have hd : decide (n < 0) = true := by simpa using hn
  go_enter Tryz.func68, Tryz.ntmps68
  go_wp2
  go_quiet (fail)
  go_wp2
  go_ret
  exact ⟨rfl, grown_drewN _ _ _⟩

set_option maxHeartbeats 1000000 in
theorem lead_far (W : World) (b g : Nat) (cs : Array Value) (at_ : Nat) (s : Option (List Int)) (qs : Kn) (n : Int) (h0 : 0 ≤ n) (hq : qs.length ≤ 60000) (ha : at_ < qs.length) (hn : (qs.length : Int) - 1 - at_ ≤ n) (w : World) (h : Wk W w b g cs at_ s qs) :
    Calls Tryz.prog 68 #[.pointer (some ⟨b, 0, none⟩), .int .i64 n] w fun e w' => e = .returned (.bool false) ∧ w.grownBy w' none := by
  have hd : decide (n < 0) = false := by simpa using h0
  have c7 := h.place
  have c74 := h.ways
  have e1 : IntKind.i64.wrap ((qs.length : Int) - 1) = (qs.length : Int) - 1 := by rw [IntKind.wrap_i64]; omega
  have e2 : IntKind.i64.wrap ((qs.length : Int) - 1 - at_) = (qs.length : Int) - 1 - at_ := by rw [IntKind.wrap_i64]; omega
  have hf : decide ((qs.length : Int) - 1 - at_ ≤ n) = true := by simpa using hn
  clear h
  generalize qs.length = N at *
  go_enter Tryz.func68, Tryz.ntmps68
  go_wp2
  go_quiet (fail)
  go_wp2
  go_ret
  exact ⟨rfl, grown_drewN _ _ _⟩

theorem kp_setCells {X : List Nat} {b : Nat} (hb : b ∈ X) {w0 : World} : ∀ (vs : List Value) (o : Nat) (w : World), Kp X w0 w → Kp X w0 (w.setCells b o vs)
  | [], _, _, h => h
  | v :: r, o, _, h => kp_setCells hb r (o + 1) _ (h.set hb v)
theorem row_one (s : Option (List Int)) : (rowC s).toArray.all (·.oneCell') = true := all_oneCell_toArray (fun v hv => by
  simp only [rowC, List.mem_cons, List.mem_map] at hv
  rcases hv with rfl | rfl | ⟨_, _, rfl⟩ <;> rfl)
section
variable {W w : World} {b g : Nat} {cs : Array Value} {at_ : Nat} {s : Option (List Int)} {qs : Kn}
theorem Wk.tgi (h : Wk W w b g cs at_ s qs) {i : Nat} (hi : i < qs.length) : w.there g (i * 66) 66 := fun j hj => by
  have := h.tg (i * 66 + j) (by omega)
  rwa [Nat.zero_add] at this
theorem Wk.lay (h : Wk W w b g cs at_ s qs) {i : Nat} (hi : i < qs.length) (t : Option (List Int)) : Wk W (w.setCells g (i * 66) (rowC t)) b g cs at_ s (qs.set i t) ∧ Kp [b, g] w (w.setCells g (i * 66) (rowC t)) := by
  have hk : ∀ X, g ∈ X → Kp X w (w.setCells g (i * 66) (rowC t)) := fun X hX => kp_setCells hX _ _ _ (Kp.refl X w)
  have e1 : (w.setCells g (i * 66) (rowC t)).heap[b]? = w.heap[b]? := (hk [g] (by simp)).block b h.bl (by simp; exact h.ne)
  refine ⟨⟨Kp.grown h.grown (hk [g] (by simp)) (fun k hx => by simp at hx; subst hx; exact h.hg), h.hb, h.hg, h.ne, h.n7, rangeAt.of h.code e1, (cell_of_block e1).trans h.place, rangeAt.of h.now e1, ?_, there.of h.tb e1, fun j q hj => ?_, ?_⟩, hk _ (by simp)⟩
  · rw [List.length_set]
    exact (cell_of_block e1).trans h.ways
  · rw [List.getElem?_set] at hj
    by_cases hij : i = j
    · subst hij
      rw [if_pos rfl, if_pos hi] at hj
      obtain rfl := Option.some.inj hj
      exact World.rangeAt_setCells_same w g (i * 66) (rowC t) (by rw [rowC_len]; exact h.tgi hi)
    · rw [if_neg hij] at hj
      exact World.rangeAt_setCells_apart (h.rows j q hj) g (i * 66) (rowC t) (.inr (by rw [rowC_len, rowC_len]; omega))
  · rw [List.length_set]
    exact World.there_setCells h.tg g (i * 66) (rowC t)
theorem Wk.drewN (h : Wk W w b g cs at_ s qs) (m : Nat) : Wk W (w.drewN m) b g cs at_ s qs := ⟨⟨h.grown.os, h.grown.tape, h.grown.output, h.grown.size, h.grown.block⟩, h.hb, h.hg, h.ne, h.n7, h.code, h.place, h.now, h.ways, h.tb, h.rows, h.tg⟩
theorem Wk.drew (h : Wk W w b g cs at_ s qs) : Wk W w.drew b g cs at_ s qs := ⟨⟨h.grown.os, h.grown.tape, h.grown.output, h.grown.size, h.grown.block⟩, h.hb, h.hg, h.ne, h.n7, h.code, h.place, h.now, h.ways, h.tb, h.rows, h.tg⟩
end

def LdP (W w : World) (b g : Nat) (cs : Array Value) (at_ : Nat) (m : List Int) (qs : Kn) (n : Nat) (q : Option (List Int)) (e : Ending) (w' : World) : Prop := ∃ r : Bool, e = .returned (.bool r) ∧ (r = true ↔ rowC (some (q.getD m)) = rowC (some m)) ∧ Kp [b, g] w w' ∧ Wk W w' b g cs at_ (some m) (qs.set (at_ + 1 + n) (some (q.getD m)))
set_option maxHeartbeats 1000000 in
set_option maxRecDepth 100000 in
theorem lead_in (W : World) (b g : Nat) (cs : Array Value) (at_ : Nat) (m : List Int) (qs : Kn) (n : Nat) (hq : qs.length ≤ 60000) (ha : at_ < qs.length) (hn : at_ + 1 + n < qs.length) (q : Option (List Int)) (hqi : qs[at_ + 1 + n]? = some q) (w : World) (h : Wk W w b g cs at_ (some m) qs) :
    Calls Tryz.prog 68 #[.pointer (some ⟨b, 0, none⟩), .int .i64 (n : Int)] w (LdP W w b g cs at_ m qs n q) := by
  have hd : decide ((n : Int) < 0) = false := by simp
  have c7 := h.place
  have c74 := h.ways
  have e1 : IntKind.i64.wrap ((qs.length : Int) - 1) = (qs.length : Int) - 1 := by rw [IntKind.wrap_i64]; omega
  have e2 : IntKind.i64.wrap ((qs.length : Int) - 1 - at_) = (qs.length : Int) - 1 - at_ := by rw [IntKind.wrap_i64]; omega
  have e3 : IntKind.i64.wrap ((at_ : Int) + 1) = (at_ : Int) + 1 := by rw [IntKind.wrap_i64]; omega
  have e4 : IntKind.i64.wrap ((at_ : Int) + 1 + n) = (at_ : Int) + 1 + n := by rw [IntKind.wrap_i64]; omega
  have hf : decide ((qs.length : Int) - 1 - at_ ≤ n) = false := by rw [decide_eq_false_iff_not]; omega
  obtain ⟨r0, -, -⟩ := row_parts.1 (h.rows _ _ hqi)
  have HI := Lib.hid hqi
  have HL := Lib.hid hn
  have HW := Lib.hid h
  clear h hqi
  generalize hN : qs.length = N at c74 e1 e2 hf hq ha hn
  clear hN
  go_enter Tryz.func68, Tryz.ntmps68
  go_wp2
  go_quiet (fail)
  generalize nq = n1
  go_wp2
  go_quiet (fail)
  cases q with
  | none =>
    simp only [Option.isSome_none] at r0
    go_wp2_with (with_reducible refine hold_ldS ?_)
    refine Lib.hid ?_
    refine wpList_load_mid rfl 74 _ rfl b 8 rfl (rowC (some m)) _ HW.out.now Tryz.underlying74 rfl (by rw [rowC_len]; kernel_rfl) ?_
    go_wp2_with (with_reducible refine hold_stS ?_)
    refine Lib.hid ?_
    refine wpList_store_mid rfl 74 _ _ rfl g ((at_ + 1 + n) * 66) (rowC (some m)).toArray rfl rfl (by rw [List.size_toArray, rowC_len]; exact HW.out.tgi HL.out) (by rw [List.size_toArray, rowC_len]; kernel_rfl) (row_one _) ?_
    have HQ := Lib.hid ((HW.out.drewN (n1 + nq)).lay HL.out (some m))
    rw [List.toList_toArray]
    generalize hW2 : (w.drewN (n1 + nq)).setCells g ((at_ + 1 + n) * 66) (rowC (some m)) = W2 at HQ ⊢
    clear hW2
    go_wp2
    obtain ⟨rr, HE, HX⟩ := row_eqs (some m) (some m)
    have hS : W2.drew.rangeAt g ((at_ + 1 + n) * 66) (rowC (some m)) ∧ W2.drew.rangeAt b 8 (rowC (some m)) := ⟨HQ.out.1.rows _ _ (by rw [List.getElem?_set, if_pos rfl, if_pos HL.out]), HQ.out.1.now⟩
    refine wp_region_L (S := fun V => V.rangeAt g ((at_ + 1 + n) * 66) (rowC (some m)) ∧ V.rangeAt b 8 (rowC (some m))) (Z := []) (by kernel_rfl) ?_
    refine t1 0 46 (.pointer (some ⟨g, (at_ + 1 + n) * 66, none⟩)) hS ?_
    (try simp only [Act.put, sA, sB, sC])
    refine t1 1 47 (.pointer (some ⟨g, (at_ + 1 + n) * 66, none⟩)) hS ?_
    (try simp only [Act.put, sA, sB, sC])
    refine t2 2 48 (.agg (rowC (some m)).toArray) (fun w' hw' => ?_) hS ?_
    · exact exec_load_mid 74 _ rfl g ((at_ + 1 + n) * 66) rfl _ _ hw'.1 Tryz.underlying74 rfl (by rw [rowC_len]; kernel_rfl)
    (try simp only [Act.put, sA, sB, sC])
    refine t1 3 49 (.pointer (some ⟨b, 0, none⟩)) hS ?_
    (try simp only [Act.put, sA, sB, sC])
    refine t1 4 50 (.pointer (some ⟨b, 0, none⟩)) hS ?_
    (try simp only [Act.put, sA, sB, sC])
    refine t1 5 51 (.pointer (some ⟨b, 8, none⟩)) hS ?_
    (try simp only [Act.put, sA, sB, sC])
    refine t2 6 52 (.agg (rowC (some m)).toArray) (fun w' hw' => ?_) hS ?_
    · exact exec_load_mid 74 _ rfl b 8 rfl _ _ hw'.2 Tryz.underlying74 rfl (by rw [rowC_len]; kernel_rfl)
    (try simp only [Act.put, sA, sB, sC])
    refine t2 7 53 (.bool rr) (fun w' hw' => ?_) hS ?_
    · clear hw'
      have := HE w'
      have h3 := run_eqGuard_agg (P := Tryz.prog) w' .eql 74 (.tmp 48) (.tmp 52) (rowC (some m)).toArray (rowC (some m)).toArray (by kernel_rfl)
      go_simp
    (try simp only [Act.put, sA, sB, sC])
    refine t1 8 4 (.bool rr) hS ?_
    (try simp only [Act.put, sA, sB, sC])
    refine wpL_done (by kernel_rfl) ?_ _
    go_wp2
    go_ret
    exact ⟨rr, rfl, ⟨fun _ => rfl, fun _ => HX.2 trivial⟩, ⟨HQ.out.2.os, HQ.out.2.tape, HQ.out.2.output, HQ.out.2.size, HQ.out.2.block⟩, HQ.out.1.drew⟩
  | some k =>
    simp only [Option.isSome_some] at r0
    go_wp2
    obtain ⟨rr, HE, HX⟩ := row_eqs (some k) (some m)
    have hS : (w.drewN (n1 + nq)).drew.rangeAt g ((at_ + 1 + n) * 66) (rowC (some k)) ∧ (w.drewN (n1 + nq)).drew.rangeAt b 8 (rowC (some m)) := ⟨HW.out.rows _ _ HI.out, HW.out.now⟩
    refine wp_region_L (S := fun V => V.rangeAt g ((at_ + 1 + n) * 66) (rowC (some k)) ∧ V.rangeAt b 8 (rowC (some m))) (Z := []) (by kernel_rfl) ?_
    refine t1 0 46 (.pointer (some ⟨g, (at_ + 1 + n) * 66, none⟩)) hS ?_
    (try simp only [Act.put, sA, sB, sC])
    refine t1 1 47 (.pointer (some ⟨g, (at_ + 1 + n) * 66, none⟩)) hS ?_
    (try simp only [Act.put, sA, sB, sC])
    refine t2 2 48 (.agg (rowC (some k)).toArray) (fun w' hw' => ?_) hS ?_
    · exact exec_load_mid 74 _ rfl g ((at_ + 1 + n) * 66) rfl _ _ hw'.1 Tryz.underlying74 rfl (by rw [rowC_len]; kernel_rfl)
    (try simp only [Act.put, sA, sB, sC])
    refine t1 3 49 (.pointer (some ⟨b, 0, none⟩)) hS ?_
    (try simp only [Act.put, sA, sB, sC])
    refine t1 4 50 (.pointer (some ⟨b, 0, none⟩)) hS ?_
    (try simp only [Act.put, sA, sB, sC])
    refine t1 5 51 (.pointer (some ⟨b, 8, none⟩)) hS ?_
    (try simp only [Act.put, sA, sB, sC])
    refine t2 6 52 (.agg (rowC (some m)).toArray) (fun w' hw' => ?_) hS ?_
    · exact exec_load_mid 74 _ rfl b 8 rfl _ _ hw'.2 Tryz.underlying74 rfl (by rw [rowC_len]; kernel_rfl)
    (try simp only [Act.put, sA, sB, sC])
    refine t2 7 53 (.bool rr) (fun w' hw' => ?_) hS ?_
    · clear hw'
      have := HE w'
      have h3 := run_eqGuard_agg (P := Tryz.prog) w' .eql 74 (.tmp 48) (.tmp 52) (rowC (some k)).toArray (rowC (some m)).toArray (by kernel_rfl)
      go_simp
    (try simp only [Act.put, sA, sB, sC])
    refine t1 8 4 (.bool rr) hS ?_
    (try simp only [Act.put, sA, sB, sC])
    refine wpL_done (by kernel_rfl) ?_ _
    go_wp2
    go_ret
    exact ⟨rr, rfl, HX, (Kp.of0 (grown_drewN w (n1 + nq) none) [b, g]).drew, by
      simp only [Option.getD_some]
      rw [Cd.set_same _ _ _ HI.out]
      exact (HW.out.drewN (n1 + nq)).drew⟩

/-- what lead leaves -/
def LeP (W w : World) (b g : Nat) (cs : Array Value) (at_ : Nat) (m : List Int) (qs : Kn) (n : Int) (e : Ending) (w' : World) : Prop := e = .returned (.bool (Cd.lead m at_ n qs).isSome) ∧ Kp [b, g] w w' ∧ ∃ q', q'.length = qs.length ∧ Wk W w' b g cs at_ (some m) q' ∧ ∀ q, Cd.lead m at_ n qs = some q → q' = q
/-- the walker goes on to the place n and 1 behind -/
theorem lead_any (W : World) (b g : Nat) (cs : Array Value) (at_ : Nat) (m : List Int) (qs : Kn) (n : Int) (hm : m.length ≤ 64) (hls : ∀ l, some l ∈ qs → l.length ≤ 64) (hq : qs.length ≤ 60000) (ha : at_ < qs.length) (w : World) (h : Wk W w b g cs at_ (some m) qs) :
    Calls Tryz.prog 68 #[.pointer (some ⟨b, 0, none⟩), .int .i64 n] w fun e w' => LeP W w b g cs at_ m qs n e w' := by
  by_cases h0 : n < 0
  · refine (lead_neg b n h0 w).mono ?_
    rintro e w' ⟨rfl, hg⟩
    unfold LeP
    rw [Cd.lead_neg _ _ _ _ h0]
    exact ⟨rfl, Kp.of0 hg _, qs, rfl, h.on (by omega) hg, fun q hq => by cases hq⟩
  by_cases h1 : (qs.length : Int) - 1 - at_ ≤ n
  · refine (lead_far W b g cs at_ _ qs n (by omega) hq ha h1 w h).mono ?_
    rintro e w' ⟨rfl, hg⟩
    have e : Cd.lead m at_ n qs = none := by
      rw [Cd.lead, if_neg h0, List.getElem?_eq_none (by omega)]
    unfold LeP
    rw [e]
    exact ⟨rfl, Kp.of0 hg _, qs, rfl, h.on (by omega) hg, fun q hq => by cases hq⟩
  obtain ⟨k, rfl⟩ : ∃ k : Nat, n = k := ⟨n.toNat, by omega⟩
  have hlt : at_ + 1 + k < qs.length := by omega
  obtain ⟨q, hqi⟩ : ∃ q, qs[at_ + 1 + k]? = some q := ⟨_, List.getElem?_eq_getElem hlt⟩
  refine (lead_in W b g cs at_ m qs k hq ha hlt q hqi w h).mono ?_
  rintro e w' ⟨r, rfl, hr, hk, hw⟩
  cases q with
  | none =>
    have e : Cd.lead m at_ (k : Int) qs = some (qs.set (at_ + 1 + k) (some m)) := by
      rw [Cd.lead, if_neg h0, Int.toNat_natCast, hqi]
    unfold LeP
    rw [e, hr.2 rfl]
    exact ⟨rfl, hk, _, by simp, hw, fun q hq => Option.some.inj hq⟩
  | some l =>
    have hl : l.length ≤ 64 := hls l (List.mem_iff_getElem?.2 ⟨_, hqi⟩)
    simp only [Option.getD_some] at hr hw
    rw [Cd.set_same _ _ _ hqi] at hw
    by_cases hlm : l = m
    · have e : Cd.lead m at_ (k : Int) qs = some qs := by
        rw [Cd.lead, if_neg h0, Int.toNat_natCast, hqi]
        simp only
        rw [if_pos hlm]
      unfold LeP
      rw [e, hr.2 (by rw [hlm])]
      exact ⟨rfl, hk, _, rfl, hw, fun q hq => Option.some.inj hq⟩
    · have e : Cd.lead m at_ (k : Int) qs = none := by
        rw [Cd.lead, if_neg h0, Int.toNat_natCast, hqi]
        simp only
        rw [if_neg hlm]
      have hrf : r = false := by
        cases r
        · rfl
        · exact absurd (row_inj hl hm (hr.1 rfl)) hlm
      unfold LeP
      rw [e, hrf]
      exact ⟨rfl, hk, _, rfl, hw, fun q hq => by cases hq⟩
theorem next_any (W : World) (b g : Nat) (cs : Array Value) (at_ : Nat) (m : List Int) (qs : Kn) (hm : m.length ≤ 64) (hls : ∀ l, some l ∈ qs → l.length ≤ 64) (hq : qs.length ≤ 60000) (ha : at_ < qs.length) (w : World) (h : Wk W w b g cs at_ (some m) qs) :
    Calls Tryz.prog 62 #[.pointer (some ⟨b, 0, none⟩)] w fun e w' => LeP W w b g cs at_ m qs 0 e w' := by
  have hl := lead_any W b g cs at_ m qs 0 hm hls hq ha w h
  clear h
  go_enter Tryz.func62, Tryz.ntmps62
  go_wp2_with (go_at_call 68; refine hl.mono ?_; rintro e w' ⟨rfl, H⟩; have H := Lib.hid H)
  go_ret
  exact ⟨rfl, H.out⟩
end Go.Proofs.YtfbhflpjhbemlaaGreat

/- Package code: the walker's put and isSlot; the rules push, jump, branch, end. -/
namespace Go.Proofs.YtfbhflpjhbemlaaGreat
open Go.RowKit Go.Maps Go.WideMaps
open Cd (Kn)

theorem cell_code {W w : World} {b g : Nat} {cs : Array Value} {at_ : Nat} {s : Option (List Int)} {qs : Kn} (h : Wk W w b g cs at_ s qs) (j : Nat) {v : Value} (hv : cs[j]? = some v) : w.cell? ⟨b, j, none⟩ = some v := by
  have := h.code j v (by simpa using hv)
  rwa [Nat.zero_add] at this
/-- what the walker has of the code -/
structure Co (cs : Array Value) (c : Cd.Code) : Prop where
  kinds : ∃ ka kc, cs[0]? = some (.slice ka c.kinds.length kc)
  ins : cs[1]? = some (.int .i64 c.ins)
  stack : cs[4]? = some (.int .i64 c.stack)

set_option maxHeartbeats 1000000 in
theorem wput_no (W : World) (b g : Nat) (cs : Array Value) (at_ : Nat) (c : Cd.Code) (hc : Co cs c) (l : List Int) (qs : Kn) (k : Int) (hl : l.length ≤ 64) (hno : c.stack ≤ l.length) (w : World) (h : Wk W w b g cs at_ (some l) qs) :
    Calls Tryz.prog 61 #[.pointer (some ⟨b, 0, none⟩), .int .i64 k] w fun e w' => e = .returned (.bool false) ∧ w.grownBy w' none := by
  obtain ⟨-, c1, -⟩ := row_parts.1 h.now
  simp only [Option.getD_some, Nat.reduceAdd] at c1
  have c4 := cell_code h 4 hc.stack
  have hd : decide (c.stack ≤ (l.length : Int)) = true := by simpa using hno
  clear h hc
  generalize l.length = n at *
  go_enter Tryz.func61, Tryz.ntmps61
  go_wp2
  go_quiet (fail)
  go_wp2
  go_ret
  exact ⟨rfl, grown_drewN _ _ _⟩

set_option maxHeartbeats 1000000 in
theorem wput_yes (W : World) (b g : Nat) (cs : Array Value) (at_ : Nat) (c : Cd.Code) (hc : Co cs c) (l : List Int) (qs : Kn) (k : Int) (hk : 1 ≤ k ∧ k ≤ 9) (hl : l.length < 64) (hlt : (l.length : Int) < c.stack) (w : World) (h : Wk W w b g cs at_ (some l) qs) :
    Calls Tryz.prog 61 #[.pointer (some ⟨b, 0, none⟩), .int .i64 k] w fun e w' => e = .returned (.bool true) ∧ Wk W w' b g cs at_ (some (k :: l)) qs ∧ Kp [b, g] w w' := by
  obtain ⟨-, c1, -⟩ := row_parts.1 h.now
  simp only [Option.getD_some, Nat.reduceAdd] at c1
  have c4 := cell_code h 4 hc.stack
  have hd : decide (c.stack ≤ (l.length : Int)) = false := by rw [decide_eq_false_iff_not]; omega
  have hp := fun m => sput_any W b g cs at_ l qs k hl hk (w.drewN m) (h.drewN m)
  have HK := fun (m : Nat) (V : World) (hv : Kp [b, g] (w.drewN m) V) => Lib.hid (show Kp [b, g] w V from ⟨hv.os, hv.tape, hv.output, hv.size, hv.block⟩)
  clear h hc
  generalize l.length = n at *
  go_enter Tryz.func61, Tryz.ntmps61
  go_wp2
  go_quiet (fail)
  go_wp2_with (go_at_call 78; refine (hp _).mono ?_; rintro e w' ⟨rfl, H1, H2⟩; have H2 := HK _ _ H2; have H1 := Lib.hid H1)
  go_ret
  exact ⟨rfl, H1.out, H2.out⟩

theorem isSlot_any (W : World) (b g : Nat) (cs : Array Value) (at_ : Nat) (c : Cd.Code) (hc : Co cs c) (s : Option (List Int)) (qs : Kn) (n : Int) (w : World) (h : Wk W w b g cs at_ s qs) :
    Calls Tryz.prog 63 #[.pointer (some ⟨b, 0, none⟩), .int .i64 n] w fun e w' => e = .returned (.bool (decide (0 ≤ n ∧ n < c.kinds.length))) ∧ w' = w := by
  obtain ⟨ka, kc, c0⟩ := hc.kinds
  have c0 := cell_code h 0 c0
  clear h hc
  generalize c.kinds.length = N at *
  by_cases h0 : 0 ≤ n
  · have hd : decide (0 ≤ n) = true := by simpa using h0
    go_enter Tryz.func63, Tryz.ntmps63
    go_wp2
    go_ret
    exact ⟨by simp [h0], rfl⟩
  · have hd : decide (0 ≤ n) = false := by simpa using h0
    go_enter Tryz.func63, Tryz.ntmps63
    go_wp2
    go_ret
    exact ⟨by simp, rfl⟩

/-- what a rule leaves -/
def RuP (W w : World) (b g : Nat) (cs : Array Value) (at_ : Nat) (R : Option Kn) (e : Ending) (w' : World) : Prop := e = .returned (.bool R.isSome) ∧ Kp [b, g] w w' ∧ ∀ q, R = some q → ∃ s, Wk W w' b g cs at_ s q
theorem RuP.no {W w w' : World} {b g : Nat} {cs : Array Value} {at_ : Nat} (h : Kp [b, g] w w') : RuP W w b g cs at_ none (.returned (.bool false)) w' := ⟨rfl, h, fun _ h => by cases h⟩
theorem LeP.ru {W w0 w w' : World} {b g : Nat} {cs : Array Value} {at_ : Nat} {m : List Int} {qs : Kn} {n : Int} {e : Ending} (hk : Kp [b, g] w0 w) (h : LeP W w b g cs at_ m qs n e w') : RuP W w0 b g cs at_ (Cd.lead m at_ n qs) e w' := by
  obtain ⟨h1, h2, q', -, h3, h4⟩ := h
  exact ⟨h1, hk.trans h2, fun q hq => ⟨some m, by rw [← h4 q hq]; exact h3⟩⟩

/-- where a rule is asked -/
structure At (W w : World) (b g : Nat) (cs : Array Value) (at_ : Nat) (c : Cd.Code) (l : List Int) (qs : Kn) : Prop where
  co : Co cs c
  wk : Wk W w b g cs at_ (some l) qs
  sk : Cd.Sk c l
  s64 : c.stack ≤ 64
  sks : ∀ l, some l ∈ qs → l.length ≤ 64
  q6 : qs.length ≤ 60000
  ha : at_ < qs.length
  nums : ∃ ka kc, cs[0]? = some (.slice ka c.kinds.length kc) ∧ NumsAt W ka c.kinds
  kk : ∀ k ∈ c.kinds, 1 ≤ k ∧ k ≤ 9
theorem At.l64 {W w : World} {b g : Nat} {cs : Array Value} {at_ : Nat} {c : Cd.Code} {l : List Int} {qs : Kn} (h : At W w b g cs at_ c l qs) : l.length ≤ 64 := by
  have := h.sk.1
  have := h.s64
  omega

set_option maxHeartbeats 1000000 in
theorem push_any (W : World) (b g : Nat) (cs : Array Value) (at_ : Nat) (c : Cd.Code) (l : List Int) (qs : Kn) (op n k : Int) (w : World) (h : At W w b g cs at_ c l qs) :
    Calls Tryz.prog 45 #[.pointer (some ⟨b, 0, none⟩), .agg #[.int .i64 op, .int .i64 n, .int .i64 k]] w (RuP W w b g cs at_ (if Bv.isv k n then (if (l.length : Int) < c.stack then Cd.lead (k :: l) at_ 0 qs else none) else none)) := by
  have hi := fun V => is_any k n V
  obtain ⟨w1, hw1⟩ : ∃ w1, w1 = w.alloc (.cells #[.int .i64 op, .int .i64 n, .int .i64 k] 32) := ⟨_, rfl⟩
  have hk1 : Kp [b, g] w w1 := by rw [hw1]; exact Kp.of0 (World.grownBy_alloc w _ none) _
  have hwk1 : Wk W w1 b g cs at_ (some l) qs := by rw [hw1]; exact h.wk.on (by have := h.ha; omega) (World.grownBy_alloc w _ none)
  have hr1 : w1.heap[w.heap.size]? = some (.cells #[.int .i64 op, .int .i64 n, .int .i64 k] 32 (0, 0)) := by rw [hw1]; exact heap_alloc_new w _
  cases hv : Bv.isv k n with
  | false =>
    simp only [Bool.false_eq_true, if_false]
    have HK := Lib.hid hk1
    rw [hw1] at HK
    clear h hwk1 hr1 hk1 hw1
    simp only [hv] at hi
    go_enter Tryz.func45, Tryz.ntmps45
    go_wp2_with (go_at_call 44; refine (hi _).mono ?_; rintro e w' ⟨rfl, hw⟩; obtain rfl := hw.symm)
    go_ret
    exact RuP.no HK.out
  | true =>
    simp only [if_true]
    have hkk : 1 ≤ k ∧ k ≤ 9 := Cd.wid_k (by simp [Bv.isv] at hv; exact hv.1)
    simp only [hv] at hi
    by_cases hs : (l.length : Int) < c.stack
    · rw [if_pos hs]
      have hl : l.length < 64 := by have := h.s64; omega
      have hp := wput_yes W b g cs at_ c h.co l qs k hkk hl hs w1 hwk1
      have hn := fun V hV => next_any W b g cs at_ (k :: l) qs hl h.sks h.q6 h.ha V hV
      have HK := Lib.hid hk1
      rw [hw1] at hp HK hr1
      clear h hwk1 hk1 hw1
      go_enter Tryz.func45, Tryz.ntmps45
      go_wp2_with (first | (go_at_call 44; refine (hi _).mono ?_; rintro e w' ⟨rfl, hw⟩; obtain rfl := hw.symm) | (go_at_call 61; with_reducible refine hp.mono ?_; rintro e w2 ⟨rfl, H1, H2⟩; have H2 := Lib.hid (HK.out.trans H2); have H1 := Lib.hid H1) | (go_at_call 62; refine (hn _ H1.out).mono ?_; rintro e w3 H3; have H4 := LeP.ru H2.out H3; obtain rfl := H3.1; have H4 := Lib.hid H4; clear H3))
      go_ret
      exact H4.out
    · rw [if_neg hs]
      have hp := wput_no W b g cs at_ c h.co l qs k h.l64 (by omega) w1 hwk1
      have HK := Lib.hid hk1
      rw [hw1] at hp HK
      clear h hwk1 hk1 hw1 hr1
      go_enter Tryz.func45, Tryz.ntmps45
      go_wp2_with (first | (go_at_call 44; refine (hi _).mono ?_; rintro e w' ⟨rfl, hw⟩; obtain rfl := hw.symm) | (go_at_call 61; with_reducible refine hp.mono ?_; rintro e w2 ⟨rfl, H2⟩; have H2 := Lib.hid (HK.out.trans (Kp.of0 H2 _))))
      go_ret
      exact RuP.no H2.out

set_option maxHeartbeats 1000000 in
theorem jump_any (W : World) (b g : Nat) (cs : Array Value) (at_ : Nat) (c : Cd.Code) (l : List Int) (qs : Kn) (op n k : Int) (w : World) (h : At W w b g cs at_ c l qs) :
    Calls Tryz.prog 51 #[.pointer (some ⟨b, 0, none⟩), .agg #[.int .i64 op, .int .i64 n, .int .i64 k]] w (RuP W w b g cs at_ (Cd.lead l at_ n qs)) := by
  have hg1 := World.grownBy_alloc w (.cells #[.int .i64 op, .int .i64 n, .int .i64 k] 32) none
  have hn := lead_any W b g cs at_ l qs n h.l64 h.sks h.q6 h.ha _ (h.wk.on (by have := h.ha; omega) hg1)
  have HK := Lib.hid (Kp.of0 hg1 [b, g])
  clear h hg1
  go_enter Tryz.func51, Tryz.ntmps51
  go_wp2_with (go_at_call 68; refine hn.mono ?_; rintro e w3 H3; have H4 := LeP.ru HK.out H3; obtain rfl := H3.1; have H4 := Lib.hid H4; clear H3)
  go_ret
  exact H4.out

set_option maxHeartbeats 1000000 in
theorem end_any (W : World) (b g : Nat) (cs : Array Value) (at_ : Nat) (c : Cd.Code) (l : List Int) (qs : Kn) (op n k : Int) (w : World) (h : At W w b g cs at_ c l qs) :
    Calls Tryz.prog 53 #[.pointer (some ⟨b, 0, none⟩), .agg #[.int .i64 op, .int .i64 n, .int .i64 k]] w (RuP W w b g cs at_ (if l = [] then some qs else none)) := by
  have hg1 := World.grownBy_alloc w (.cells #[.int .i64 op, .int .i64 n, .int .i64 k] 32) none
  have HW := Lib.hid (h.wk.on (by have := h.ha; omega) hg1)
  obtain ⟨-, c1, -⟩ := row_parts.1 HW.out.now
  simp only [Option.getD_some, Nat.reduceAdd] at c1
  have HK := Lib.hid (Kp.of0 hg1 [b, g])
  clear h hg1
  cases l with
  | nil =>
    simp only [List.length_nil] at c1
    rw [if_pos rfl]
    go_enter Tryz.func53, Tryz.ntmps53
    go_wp2
    go_ret
    refine ⟨rfl, HK.out, fun q hq => ⟨some [], ?_⟩⟩
    obtain rfl := Option.some.inj hq
    exact HW.out
  | cons a r =>
    have e1 : (((r.length : Int) + 1) == 0) = false := by rw [beq_eq_false_iff_ne]; omega
    simp only [List.length_cons, Int.natCast_add, Int.natCast_one] at c1
    generalize hn : r.length = n at *
    clear hn
    rw [if_neg (by simp)]
    go_enter Tryz.func53, Tryz.ntmps53
    go_wp2
    go_ret
    exact RuP.no HK.out

set_option maxHeartbeats 1000000 in
theorem branch_any (W : World) (b g : Nat) (cs : Array Value) (at_ : Nat) (c : Cd.Code) (l : List Int) (qs : Kn) (op n k : Int) (w : World) (h : At W w b g cs at_ c l qs) :
    Calls Tryz.prog 52 #[.pointer (some ⟨b, 0, none⟩), .agg #[.int .i64 op, .int .i64 n, .int .i64 k]] w (RuP W w b g cs at_ (Cd.onTop l 1 (fun r => (Cd.lead r at_ 0 qs).bind fun q => Cd.lead r at_ n q))) := by
  have hg1 := World.grownBy_alloc w (.cells #[.int .i64 op, .int .i64 n, .int .i64 k] 32) none
  have hwk := h.wk.on (by have := h.ha; omega) hg1
  have hr1 := heap_alloc_new w (.cells #[.int .i64 op, .int .i64 n, .int .i64 k] 32)
  have HK := Lib.hid (Kp.of0 hg1 [b, g])
  by_cases hno : l.head? = some 1
  · obtain ⟨r, rfl⟩ : ∃ r, l = 1 :: r := by
      cases l with
      | nil => cases hno
      | cons a r => simp at hno; exact ⟨r, by rw [hno]⟩
    have hl : r.length < 64 := h.l64
    have ht := take_some W b g cs at_ r qs 1 hl (by omega) _ hwk
    have hn := fun V hV => next_any W b g cs at_ r qs (by omega) h.sks h.q6 h.ha V hV
    have hbne : w.heap.size ≠ b ∧ w.heap.size ≠ g := ⟨by have := h.wk.bl; omega, by have := h.wk.gl (by have := h.ha; omega); omega⟩
    rw [Cd.onTop_yes]
    cases hl0 : Cd.lead r at_ 0 qs with
    | none =>
      rw [Option.bind_none]
      have hn' : ∀ V, Wk W V b g cs at_ (some r) qs → Calls Tryz.prog 62 #[.pointer (some ⟨b, 0, none⟩)] V fun e w' => e = .returned (.bool false) ∧ Kp [b, g] V w' := fun V hV => (hn V hV).mono fun e w' H => ⟨by rw [H.1, hl0]; rfl, H.2.1⟩
      clear h hg1 hwk hno hn hr1
      go_enter Tryz.func52, Tryz.ntmps52
      go_wp2_with (first | (go_at_call 64; with_reducible refine ht.mono ?_; rintro e w2 ⟨rfl, H1, H2⟩; have H2 := Lib.hid (HK.out.trans H2); have H1 := Lib.hid H1) | (go_at_call 62; refine (hn' _ H1.out).mono ?_; rintro e w3 ⟨rfl, H3⟩; have H4 := Lib.hid (H2.out.trans H3); clear H3))
      go_ret
      exact RuP.no H4.out
    | some q =>
      rw [Option.bind_some]
      have hq := Cd.lead_sks (c := ⟨[], 0, 0, 0, [], 64, []⟩) (m := r) (at_ := at_) (n := 0) (qs := qs) (q := q)
      have hq6 : q.length = qs.length ∧ ∀ l, some l ∈ q → l.length ≤ 64 := by
        have hl1 := hl0
        unfold Cd.lead at hl1
        rw [if_neg (by decide)] at hl1
        split at hl1
        · cases hl1
        · obtain rfl := Option.some.inj hl1
          refine ⟨by simp, fun l hl2 => ?_⟩
          rcases List.mem_or_eq_of_mem_set hl2 with h3 | h3
          · exact h.sks l h3
          · obtain rfl := Option.some.inj h3
            omega
        · split at hl1
          · obtain rfl := Option.some.inj hl1
            exact ⟨rfl, h.sks⟩
          · cases hl1
      have hn' : ∀ V, Wk W V b g cs at_ (some r) qs → Calls Tryz.prog 62 #[.pointer (some ⟨b, 0, none⟩)] V fun e w' => e = .returned (.bool true) ∧ Kp [b, g] V w' ∧ Wk W w' b g cs at_ (some r) q := fun V hV => (hn V hV).mono fun e w' H => by
        obtain ⟨e1, k1, q', -, w1, e2⟩ := H
        rw [e1, hl0]
        have := e2 q hl0
        subst this
        exact ⟨rfl, k1, w1⟩
      have hld := fun V hV => lead_any W b g cs at_ r q n (by omega) hq6.2 (by rw [hq6.1]; exact h.q6) (by rw [hq6.1]; exact h.ha) V hV
      have hcell : ∀ V, Kp [b, g] (w.alloc (.cells #[.int .i64 op, .int .i64 n, .int .i64 k] 32)) V → V.cell? ⟨w.heap.size, 1, none⟩ = some (.int .i64 n) := fun V hV => hV.cell (cell_of_row _ _ 1 _ _ _ hr1) (by simp; exact hbne)
      clear h hg1 hwk hno hn hq hr1
      go_enter Tryz.func52, Tryz.ntmps52
      go_wp2_with (first | (go_at_call 64; with_reducible refine ht.mono ?_; rintro e w2 ⟨rfl, H1, H2⟩; have H2 := Lib.hid H2; have H1 := Lib.hid H1) | (go_at_call 62; refine (hn' _ H1.out).mono ?_; rintro e w3 ⟨rfl, H3, H4⟩; have H3 := Lib.hid (H2.out.trans H3); have H4 := Lib.hid H4; have hcn := hcell _ H3.out) | (go_at_call 68; refine (hld _ H4.out).mono ?_; rintro e w4 H5; have H6 := LeP.ru (HK.out.trans H3.out) H5; obtain rfl := H5.1; have H6 := Lib.hid H6; clear H5))
      go_ret
      exact H6.out
  · have ht := take_none W b g cs at_ l qs 1 h.l64 h.sk.2 hno _ hwk
    rw [Cd.onTop_no hno]
    clear h hg1 hwk hno hr1
    go_enter Tryz.func52, Tryz.ntmps52
    go_wp2_with (go_at_call 64; with_reducible refine ht.mono ?_; rintro e w2 ⟨rfl, H2⟩; have H2 := Lib.hid (HK.out.trans (Kp.of0 H2 _)))
    go_ret
    exact RuP.no H2.out
end Go.Proofs.YtfbhflpjhbemlaaGreat

/- Package code: a rule's region: the walker, and the instruction's own box. -/
namespace Go.Proofs.YtfbhflpjhbemlaaGreat
open Go.RowKit Go.Maps Go.WideMaps
open Cd (Kn)

/-- a world within a rule -/
structure Bx (W w : World) (b g : Nat) (cs : Array Value) (at_ : Nat) (op n k : Int) (s : Option (List Int)) (qs : Kn) (V : World) : Prop where
  wk : Wk W V b g cs at_ s qs
  kp : Kp [b, g] w V
  box : V.heap[w.heap.size]? = some (.cells #[.int .i64 op, .int .i64 n, .int .i64 k] 32 (0, 0))
  nb : w.heap.size ≠ b ∧ w.heap.size ≠ g
/-- .. with some stack -/
def Sb (W w : World) (b g : Nat) (cs : Array Value) (at_ : Nat) (op n k : Int) (V : World) : Prop := ∃ s qs, Bx W w b g cs at_ op n k s qs V

section
variable {W w V : World} {b g : Nat} {cs : Array Value} {at_ : Nat} {op n k : Int} {s : Option (List Int)} {qs : Kn}
theorem Bx.new (h : Wk W w b g cs at_ s qs) (hq : 0 < qs.length) : Bx W w b g cs at_ op n k s qs (w.alloc (.cells #[.int .i64 op, .int .i64 n, .int .i64 k] 32)).drew :=
  ⟨(h.on hq (World.grownBy_alloc w _ none)).drew, (Kp.of0 (World.grownBy_alloc w _ none) _).drew, heap_alloc_new w _, ⟨by have := h.bl; omega, by have := h.gl hq; omega⟩⟩
theorem Bx.c (h : Bx W w b g cs at_ op n k s qs V) (j : Nat) {v : Value} (hv : #[Value.int .i64 op, .int .i64 n, .int .i64 k][j]? = some v) : V.cell? ⟨w.heap.size, j, none⟩ = some v := by
  unfold World.cell?
  rw [h.box]
  simpa using hv
theorem Sb.c (h : Sb W w b g cs at_ op n k V) (j : Nat) {v : Value} (hv : #[Value.int .i64 op, .int .i64 n, .int .i64 k][j]? = some v) : V.cell? ⟨w.heap.size, j, none⟩ = some v := by
  obtain ⟨s, qs, h⟩ := h
  exact h.c j hv
theorem Sb.code (h : Sb W w b g cs at_ op n k V) (j : Nat) {v : Value} (hv : cs[j]? = some v) : V.cell? ⟨b, j, none⟩ = some v := by
  obtain ⟨s, qs, h⟩ := h
  exact cell_code h.wk j hv
theorem Sb.old (h : Sb W w b g cs at_ op n k V) {a : Addr} {v : Value} (hv : W.cell? a = some v) : V.cell? a = some v := by
  obtain ⟨s, qs, h⟩ := h
  exact h.wk.grown.cell hv (by simp)
/-- what is kept by what turns the walker alone -/
theorem Bx.step {V' : World} {s' : Option (List Int)} {q' : Kn} (h : Bx W w b g cs at_ op n k s qs V) (hk : Kp [b, g] V V') (hw : Wk W V' b g cs at_ s' q') : Bx W w b g cs at_ op n k s' q' V' :=
  ⟨hw, h.kp.trans hk, (hk.block _ (Array.getElem?_eq_some_iff.1 h.box).1 (by simp; exact h.nb)).trans h.box, h.nb⟩
theorem Bx.still {V' : World} (h : Bx W w b g cs at_ op n k s qs V) (hq : 0 < qs.length) (hk : V.grownBy V' none) : Bx W w b g cs at_ op n k s qs V' := h.step (Kp.of0 hk _) (h.wk.on hq hk)
theorem Bx.drew (h : Bx W w b g cs at_ op n k s qs V) : Bx W w b g cs at_ op n k s qs V.drew := ⟨h.wk.drew, h.kp.drew, h.box, h.nb⟩
theorem below_grown {w w' : World} (h : Below w.heap.size w w') : w.grownBy w' none := ⟨h.os, h.tape, h.output, h.size, fun k hk _ => h.block k hk⟩
end
section
variable {W w : World} {b g : Nat} {cs : Array Value} {at_ : Nat} {op n k : Int} {c : Cd.Code} {qs : Kn}
theorem Bx.put_yes (hc : Co cs c) {l : List Int} {x : Int} (hx : 1 ≤ x ∧ x ≤ 9) (hl : l.length < 64) (hlt : (l.length : Int) < c.stack) {V : World} (h : Bx W w b g cs at_ op n k (some l) qs V) :
    Calls Tryz.prog 61 #[.pointer (some ⟨b, 0, none⟩), .int .i64 x] V fun e w' => e = .returned (.bool true) ∧ Bx W w b g cs at_ op n k (some (x :: l)) qs w' :=
  (wput_yes W b g cs at_ c hc l qs x hx hl hlt V h.wk).mono fun _ _ H => ⟨H.1, h.step H.2.2 H.2.1⟩
theorem Bx.put_no (hc : Co cs c) (hq : 0 < qs.length) {l : List Int} {x : Int} (hl : l.length ≤ 64) (hno : c.stack ≤ l.length) {V : World} (h : Bx W w b g cs at_ op n k (some l) qs V) :
    Calls Tryz.prog 61 #[.pointer (some ⟨b, 0, none⟩), .int .i64 x] V fun e w' => e = .returned (.bool false) ∧ Bx W w b g cs at_ op n k (some l) qs w' :=
  (wput_no W b g cs at_ c hc l qs x hl hno V h.wk).mono fun _ _ H => ⟨H.1, h.still hq H.2⟩
theorem Bx.take_yes {r : List Int} {x : Int} (hx : 1 ≤ x ∧ x ≤ 9) (hl : r.length < 64) {V : World} (h : Bx W w b g cs at_ op n k (some (x :: r)) qs V) :
    Calls Tryz.prog 64 #[.pointer (some ⟨b, 8, none⟩), .int .i64 x] V fun e w' => e = .returned (.bool true) ∧ Bx W w b g cs at_ op n k (some r) qs w' :=
  (take_some W b g cs at_ r qs x hl hx V h.wk).mono fun _ _ H => ⟨H.1, h.step H.2.2 H.2.1⟩
theorem Bx.take_no (hq : 0 < qs.length) {l : List Int} {x : Int} (hl : l.length ≤ 64) (hall : ∀ x ∈ l, 1 ≤ x ∧ x ≤ 9) (hno : l.head? ≠ some x) {V : World} (h : Bx W w b g cs at_ op n k (some l) qs V) :
    Calls Tryz.prog 64 #[.pointer (some ⟨b, 8, none⟩), .int .i64 x] V fun e w' => e = .returned (.bool false) ∧ Bx W w b g cs at_ op n k (some l) qs w' :=
  (take_none W b g cs at_ l qs x hl hall hno V h.wk).mono fun _ _ H => ⟨H.1, h.still hq H.2⟩
theorem Bx.slot (hc : Co cs c) {s : Option (List Int)} (x : Int) {r : Bool} (hr : decide (0 ≤ x ∧ x < c.kinds.length) = r) {V : World} (h : Bx W w b g cs at_ op n k s qs V) :
    Calls Tryz.prog 63 #[.pointer (some ⟨b, 0, none⟩), .int .i64 x] V fun e w' => e = .returned (.bool r) ∧ Bx W w b g cs at_ op n k s qs w' :=
  (isSlot_any W b g cs at_ c hc s qs x V h.wk).mono fun _ _ H => ⟨by rw [H.1, hr], by rw [H.2]; exact h⟩
theorem Bx.next (ha : at_ < qs.length) (hls : ∀ l, some l ∈ qs → l.length ≤ 64) (hq : qs.length ≤ 60000) {m : List Int} (hm : m.length ≤ 64) {V : World} (h : Bx W w b g cs at_ op n k (some m) qs V) :
    Calls Tryz.prog 62 #[.pointer (some ⟨b, 0, none⟩)] V fun e w' => e = .returned (.bool (Cd.lead m at_ 0 qs).isSome) ∧ ∃ q', Bx W w b g cs at_ op n k (some m) q' w' ∧ ∀ q, Cd.lead m at_ 0 qs = some q → q' = q :=
  (next_any W b g cs at_ m qs hm hls hq ha V h.wk).mono fun _ _ H => by
    obtain ⟨h1, h2, q', -, h3, h4⟩ := H
    exact ⟨h1, q', h.step h2 h3, h4⟩
theorem Bx.ru {m : List Int} {w' : World} (h : ∃ q', Bx W w b g cs at_ op n k (some m) q' w' ∧ ∀ q, Cd.lead m at_ 0 qs = some q → q' = q) : RuP W w b g cs at_ (Cd.lead m at_ 0 qs) (.returned (.bool (Cd.lead m at_ 0 qs).isSome)) w' := by
  obtain ⟨q', h1, h2⟩ := h
  exact ⟨rfl, h1.kp, fun q hq => ⟨some m, by rw [← h2 q hq]; exact h1.wk⟩⟩
theorem zero_any (x : Int) (w : World) : Calls Tryz.prog 66 #[.int .i64 x] w fun e w' => e = .returned (.int .i64 0) ∧ w' = w := by
  go_enter Tryz.func66, Tryz.ntmps66
  go_wp2
  go_ret
  exact ⟨rfl, rfl⟩
theorem isKind_any (x : Int) (w : World) : Calls Tryz.prog 43 #[.int .i64 x] w fun e w' => e = .returned (.bool (decide (0 < Bv.wid x))) ∧ w' = w := by
  have hw := fun V => width_any x V
  go_enter Tryz.func43, Tryz.ntmps43
  go_wp2_with (go_at_call 59; refine (hw _).mono ?_; rintro e w' ⟨rfl, hw'⟩; obtain rfl := hw'.symm)
  go_ret
  exact ⟨rfl, rfl⟩
theorem Bx.zero {s : Option (List Int)} (x : Int) {V : World} (h : Bx W w b g cs at_ op n k s qs V) :
    Calls Tryz.prog 66 #[.int .i64 x] V fun e w' => e = .returned (.int .i64 0) ∧ Bx W w b g cs at_ op n k s qs w' := (zero_any x V).mono fun _ _ H => ⟨H.1, by rw [H.2]; exact h⟩
theorem Bx.kind {s : Option (List Int)} (x : Int) {r : Bool} (hr : decide (0 < Bv.wid x) = r) {V : World} (h : Bx W w b g cs at_ op n k s qs V) :
    Calls Tryz.prog 43 #[.int .i64 x] V fun e w' => e = .returned (.bool r) ∧ Bx W w b g cs at_ op n k s qs w' := (isKind_any x V).mono fun _ _ H => ⟨by rw [H.1, hr], by rw [H.2]; exact h⟩
theorem Bx.un (hq : 0 < qs.length) {s : Option (List Int)} (o x a : Int) {r : Bool} (hr : Bv.unB o x a = r) {V : World} (h : Bx W w b g cs at_ op n k s qs V) :
    Calls Tryz.prog 65 #[.int .i64 o, .int .i64 x, .int .i64 a] V fun e w' => e = .returned (.tuple #[.int .i64 (Bv.unN o x a), .bool r]) ∧ Bx W w b g cs at_ op n k s qs w' := (un_any o x a V).mono fun _ _ H => ⟨by rw [H.1, hr], h.still hq (below_grown H.2)⟩
theorem Bx.bin (hq : 0 < qs.length) {s : Option (List Int)} (o x : Int) {r : Bool} (hr : Bv.binB o x 0 0 = r) {V : World} (h : Bx W w b g cs at_ op n k s qs V) :
    Calls Tryz.prog 67 #[.int .i64 o, .int .i64 x, .int .i64 0, .int .i64 0] V fun e w' => e = .returned (.tuple #[.int .i64 (Bv.binN o x 0 0), .int .i64 (Bv.binK o x 0 0), .bool r]) ∧ Bx W w b g cs at_ op n k s qs w' := (bin_any o x 0 0 (by unfold Bv.I64; omega) V).mono fun _ _ H => ⟨by rw [H.1, hr], h.still hq (below_grown H.2)⟩
end
end Go.Proofs.YtfbhflpjhbemlaaGreat

/- Package code: the rules load and save (written by mkcf.py). -/
namespace Go.Proofs.YtfbhflpjhbemlaaGreat
open Go.RowKit Go.Maps Go.WideMaps
open Cd (Kn)

set_option maxHeartbeats 2000000 in
set_option maxRecDepth 100000 in
theorem load_any (W : World) (b g : Nat) (cs : Array Value) (at_ : Nat) (c : Cd.Code) (l : List Int) (qs : Kn) (op n k : Int) (w : World) (h : At W w b g cs at_ c l qs) :
    Calls Tryz.prog 46 #[.pointer (some ⟨b, 0, none⟩), .agg #[.int .i64 op, .int .i64 n, .int .i64 k]] w (RuP W w b g cs at_ (if 0 ≤ n ∧ n < c.kinds.length then (if (l.length : Int) < c.stack then Cd.lead (c.kinds.getD n.toNat 0 :: l) at_ 0 qs else none) else none)) := by
  have ha := h.ha
  have hls := h.sks
  have hq6 := h.q6
  have hco := h.co
  have hl64 := h.l64
  have hsk := h.sk
  have hs64 := h.s64
  have hq : 0 < qs.length := by omega
  have hB0 : Bx W w b g cs at_ op n k (some l) qs _ := Bx.new h.wk hq
  obtain ⟨ka, kc, hcs0, hnums⟩ := h.nums
  have hkk := h.kk
  by_cases hn : 0 ≤ n ∧ n < c.kinds.length
  · rw [if_pos hn]
    have hsl : decide (0 ≤ n ∧ n < c.kinds.length) = true := by simpa using hn
    clear h
    obtain ⟨i, rfl⟩ : ∃ i : Nat, n = i := ⟨n.toNat, by omega⟩
    have hi : i < c.kinds.length := by omega
    obtain ⟨kd, hkdi⟩ : ∃ kd, c.kinds[i]? = some kd := ⟨_, List.getElem?_eq_getElem hi⟩
    obtain ⟨kb, ko, rfl, hkd⟩ := hnums i kd hkdi
    have e : c.kinds.getD ((i : Nat) : Int).toNat 0 = kd := by rw [Int.toNat_natCast, List.getD_eq_getElem?_getD, hkdi]; rfl
    rw [e]
    have hkd9 := hkk kd (List.mem_iff_getElem?.2 ⟨_, hkdi⟩)
    generalize hN : c.kinds.length = N at hcs0 hi
    by_cases hs : (l.length : Int) < c.stack
    · rw [if_pos hs]
      have hl : l.length < 64 := by omega
      have hS0 : Sb W w b g cs at_ op (i : Int) k _ := ⟨_, _, hB0⟩
      have HB0 := Lib.hid hB0
      go_enter Tryz.func46, Tryz.ntmps46
      go_wp2
      refine wp_region_L (S := Sb W w b g cs at_ op (i : Int) k) (Z := []) (by kernel_rfl) ?_
      refine t1 0 5 (.pointer (some ⟨b, 0, none⟩)) hS0 ?_
      (try simp only [Act.put, sA, sB, sC])
      refine t1 1 6 (.pointer (some ⟨w.heap.size, 1, none⟩)) hS0 ?_
      (try simp only [Act.put, sA, sB, sC])
      refine t2 2 7 (.int .i64 (i : Int)) (fun w' hw' => ?_) hS0 ?_
      · have hc0 := hw'.c 1 rfl; clear hw'; go_simp
      (try simp only [Act.put, sA, sB, sC])
      refine wpL_call (i := 3) (d := 8) (R := fun v w' => v = .bool true ∧ Bx W w b g cs at_ op (i : Int) k (some l) qs w') (by kernel_rfl) rfl rfl (by kernel_rfl) (by kernel_rfl) ((hB0.slot hco _ hsl).mono fun e w' he => ⟨_, he.1, rfl, he.2⟩) (fun v w' hR => ⟨_, _, hR.2⟩) (fun v w' hR => ?_)
      obtain ⟨rfl, hB0a⟩ := hR
      have hS0a : Sb W w b g cs at_ op (i : Int) k w' := ⟨_, _, hB0a⟩
      (try simp only [Act.put, sA, sB, sC])
      refine t1 4 9 (.bool true) hS0a ?_
      (try simp only [Act.put, sA, sB, sC])
      refine t1 5 10 (.pointer (some ⟨b, 0, none⟩)) hS0a ?_
      (try simp only [Act.put, sA, sB, sC])
      refine t1 6 11 (.pointer (some ⟨b, 0, none⟩)) hS0a ?_
      (try simp only [Act.put, sA, sB, sC])
      refine t1 7 12 (.pointer (some ⟨b, 0, none⟩)) hS0a ?_
      (try simp only [Act.put, sA, sB, sC])
      refine t1 8 13 (.pointer (some ⟨b, 0, none⟩)) hS0a ?_
      (try simp only [Act.put, sA, sB, sC])
      refine t1 9 14 (.pointer (some ⟨b, 0, none⟩)) hS0a ?_
      (try simp only [Act.put, sA, sB, sC])
      refine t2 10 15 (.slice (some ⟨kb, ko, none⟩) N kc) (fun w' hw' => ?_) hS0a ?_
      · have hc0 := hw'.code 0 hcs0; clear hw'; go_simp
      (try simp only [Act.put, sA, sB, sC])
      refine t1 11 16 (.pointer (some ⟨w.heap.size, 1, none⟩)) hS0a ?_
      (try simp only [Act.put, sA, sB, sC])
      refine t2 12 17 (.int .i64 (i : Int)) (fun w' hw' => ?_) hS0a ?_
      · have hc0 := hw'.c 1 rfl; clear hw'; go_simp
      (try simp only [Act.put, sA, sB, sC])
      refine t2 13 18 (.pointer (some ⟨kb, ko + i, none⟩)) (fun w' hw' => ?_) hS0a ?_
      · clear hw'; go_simp
      (try simp only [Act.put, sA, sB, sC])
      refine t2 14 19 (.int .i64 kd) (fun w' hw' => ?_) hS0a ?_
      · have hc0 := hw'.old hkd; clear hw'; go_simp
      (try simp only [Act.put, sA, sB, sC])
      refine wpL_call (i := 15) (d := 20) (R := fun v w' => v = .bool true ∧ Bx W w b g cs at_ op (i : Int) k (some (kd :: l)) qs w') (by kernel_rfl) rfl rfl (by kernel_rfl) (by kernel_rfl) ((hB0a.put_yes hco hkd9 hl hs).mono fun e w' he => ⟨_, he.1, rfl, he.2⟩) (fun v w' hR => ⟨_, _, hR.2⟩) (fun v w' hR => ?_)
      obtain ⟨rfl, hB1a⟩ := hR
      have hS1a : Sb W w b g cs at_ op (i : Int) k w' := ⟨_, _, hB1a⟩
      (try simp only [Act.put, sA, sB, sC])
      refine t1 16 21 (.bool true) hS1a ?_
      (try simp only [Act.put, sA, sB, sC])
      refine t1 17 22 (.bool true) hS1a ?_
      (try simp only [Act.put, sA, sB, sC])
      refine t1 18 23 (.pointer (some ⟨b, 0, none⟩)) hS1a ?_
      (try simp only [Act.put, sA, sB, sC])
      refine wpL_call (i := 19) (d := 24) (R := fun v w' => v = .bool (Cd.lead (kd :: l) at_ 0 qs).isSome ∧ ∃ q', Bx W w b g cs at_ op (i : Int) k (some (kd :: l)) q' w' ∧ ∀ q, Cd.lead (kd :: l) at_ 0 qs = some q → q' = q) (by kernel_rfl) rfl rfl (by kernel_rfl) (by kernel_rfl) ((hB1a.next ha hls hq6 (by (try simp only [List.length_cons]); omega)).mono fun e w' he => ⟨_, he.1, rfl, he.2⟩) (fun v w' hR => let ⟨q', h, _⟩ := hR.2; ⟨_, q', h⟩) (fun v w' hR => ?_)
      obtain ⟨rfl, hB2a⟩ := hR
      have hS2a : Sb W w b g cs at_ op (i : Int) k w' := let ⟨q', h, _⟩ := hB2a; ⟨_, q', h⟩
      (try simp only [Act.put, sA, sB, sC])
      refine t1 20 25 (.bool (Cd.lead (kd :: l) at_ 0 qs).isSome) hS2a ?_
      (try simp only [Act.put, sA, sB, sC])
      refine t1 21 4 (.bool (Cd.lead (kd :: l) at_ 0 qs).isSome) hS2a ?_
      (try simp only [Act.put, sA, sB, sC])
      refine wpL_done (by kernel_rfl) ?_ _
      go_wp2
      go_ret
      exact Bx.ru hB2a
    · rw [if_neg hs]
      have hS0 : Sb W w b g cs at_ op (i : Int) k _ := ⟨_, _, hB0⟩
      have HB0 := Lib.hid hB0
      go_enter Tryz.func46, Tryz.ntmps46
      go_wp2
      refine wp_region_L (S := Sb W w b g cs at_ op (i : Int) k) (Z := []) (by kernel_rfl) ?_
      refine t1 0 5 (.pointer (some ⟨b, 0, none⟩)) hS0 ?_
      (try simp only [Act.put, sA, sB, sC])
      refine t1 1 6 (.pointer (some ⟨w.heap.size, 1, none⟩)) hS0 ?_
      (try simp only [Act.put, sA, sB, sC])
      refine t2 2 7 (.int .i64 (i : Int)) (fun w' hw' => ?_) hS0 ?_
      · have hc0 := hw'.c 1 rfl; clear hw'; go_simp
      (try simp only [Act.put, sA, sB, sC])
      refine wpL_call (i := 3) (d := 8) (R := fun v w' => v = .bool true ∧ Bx W w b g cs at_ op (i : Int) k (some l) qs w') (by kernel_rfl) rfl rfl (by kernel_rfl) (by kernel_rfl) ((hB0.slot hco _ hsl).mono fun e w' he => ⟨_, he.1, rfl, he.2⟩) (fun v w' hR => ⟨_, _, hR.2⟩) (fun v w' hR => ?_)
      obtain ⟨rfl, hB0a⟩ := hR
      have hS0a : Sb W w b g cs at_ op (i : Int) k w' := ⟨_, _, hB0a⟩
      (try simp only [Act.put, sA, sB, sC])
      refine t1 4 9 (.bool true) hS0a ?_
      (try simp only [Act.put, sA, sB, sC])
      refine t1 5 10 (.pointer (some ⟨b, 0, none⟩)) hS0a ?_
      (try simp only [Act.put, sA, sB, sC])
      refine t1 6 11 (.pointer (some ⟨b, 0, none⟩)) hS0a ?_
      (try simp only [Act.put, sA, sB, sC])
      refine t1 7 12 (.pointer (some ⟨b, 0, none⟩)) hS0a ?_
      (try simp only [Act.put, sA, sB, sC])
      refine t1 8 13 (.pointer (some ⟨b, 0, none⟩)) hS0a ?_
      (try simp only [Act.put, sA, sB, sC])
      refine t1 9 14 (.pointer (some ⟨b, 0, none⟩)) hS0a ?_
      (try simp only [Act.put, sA, sB, sC])
      refine t2 10 15 (.slice (some ⟨kb, ko, none⟩) N kc) (fun w' hw' => ?_) hS0a ?_
      · have hc0 := hw'.code 0 hcs0; clear hw'; go_simp
      (try simp only [Act.put, sA, sB, sC])
      refine t1 11 16 (.pointer (some ⟨w.heap.size, 1, none⟩)) hS0a ?_
      (try simp only [Act.put, sA, sB, sC])
      refine t2 12 17 (.int .i64 (i : Int)) (fun w' hw' => ?_) hS0a ?_
      · have hc0 := hw'.c 1 rfl; clear hw'; go_simp
      (try simp only [Act.put, sA, sB, sC])
      refine t2 13 18 (.pointer (some ⟨kb, ko + i, none⟩)) (fun w' hw' => ?_) hS0a ?_
      · clear hw'; go_simp
      (try simp only [Act.put, sA, sB, sC])
      refine t2 14 19 (.int .i64 kd) (fun w' hw' => ?_) hS0a ?_
      · have hc0 := hw'.old hkd; clear hw'; go_simp
      (try simp only [Act.put, sA, sB, sC])
      refine wpL_call (i := 15) (d := 20) (R := fun v w' => v = .bool false ∧ Bx W w b g cs at_ op (i : Int) k (some l) qs w') (by kernel_rfl) rfl rfl (by kernel_rfl) (by kernel_rfl) ((hB0a.put_no (x := kd) hco hq hl64 (by omega)).mono fun e w' he => ⟨_, he.1, rfl, he.2⟩) (fun v w' hR => ⟨_, _, hR.2⟩) (fun v w' hR => ?_)
      obtain ⟨rfl, hB1a⟩ := hR
      have hS1a : Sb W w b g cs at_ op (i : Int) k w' := ⟨_, _, hB1a⟩
      (try simp only [Act.put, sA, sB, sC])
      refine t1 16 21 (.bool false) hS1a ?_
      (try simp only [Act.put, sA, sB, sC])
      refine t1 17 22 (.bool false) hS1a ?_
      (try simp only [Act.put, sA, sB, sC])
      refine t3 18 23 hS1a ?_
      (try simp only [Act.put, sA, sB, sC])
      refine t3 19 24 hS1a ?_
      (try simp only [Act.put, sA, sB, sC])
      refine t1 20 25 (.bool false) hS1a ?_
      (try simp only [Act.put, sA, sB, sC])
      refine t1 21 4 (.bool false) hS1a ?_
      (try simp only [Act.put, sA, sB, sC])
      refine wpL_done (by kernel_rfl) ?_ _
      go_wp2
      go_ret
      exact RuP.no hB1a.kp
  · rw [if_neg hn]
    have hsl : decide (0 ≤ n ∧ n < c.kinds.length) = false := by simpa using hn
    clear h
    have hS0 : Sb W w b g cs at_ op n k _ := ⟨_, _, hB0⟩
    have HB0 := Lib.hid hB0
    go_enter Tryz.func46, Tryz.ntmps46
    go_wp2
    refine wp_region_L (S := Sb W w b g cs at_ op n k) (Z := []) (by kernel_rfl) ?_
    refine t1 0 5 (.pointer (some ⟨b, 0, none⟩)) hS0 ?_
    (try simp only [Act.put, sA, sB, sC])
    refine t1 1 6 (.pointer (some ⟨w.heap.size, 1, none⟩)) hS0 ?_
    (try simp only [Act.put, sA, sB, sC])
    refine t2 2 7 (.int .i64 n) (fun w' hw' => ?_) hS0 ?_
    · have hc0 := hw'.c 1 rfl; clear hw'; go_simp
    (try simp only [Act.put, sA, sB, sC])
    refine wpL_call (i := 3) (d := 8) (R := fun v w' => v = .bool false ∧ Bx W w b g cs at_ op n k (some l) qs w') (by kernel_rfl) rfl rfl (by kernel_rfl) (by kernel_rfl) ((hB0.slot hco _ hsl).mono fun e w' he => ⟨_, he.1, rfl, he.2⟩) (fun v w' hR => ⟨_, _, hR.2⟩) (fun v w' hR => ?_)
    obtain ⟨rfl, hB0a⟩ := hR
    have hS0a : Sb W w b g cs at_ op n k w' := ⟨_, _, hB0a⟩
    (try simp only [Act.put, sA, sB, sC])
    refine t1 4 9 (.bool false) hS0a ?_
    (try simp only [Act.put, sA, sB, sC])
    refine t3 5 10 hS0a ?_
    (try simp only [Act.put, sA, sB, sC])
    refine t3 6 11 hS0a ?_
    (try simp only [Act.put, sA, sB, sC])
    refine t3 7 12 hS0a ?_
    (try simp only [Act.put, sA, sB, sC])
    refine t3 8 13 hS0a ?_
    (try simp only [Act.put, sA, sB, sC])
    refine t3 9 14 hS0a ?_
    (try simp only [Act.put, sA, sB, sC])
    refine t3 10 15 hS0a ?_
    (try simp only [Act.put, sA, sB, sC])
    refine t3 11 16 hS0a ?_
    (try simp only [Act.put, sA, sB, sC])
    refine t3 12 17 hS0a ?_
    (try simp only [Act.put, sA, sB, sC])
    refine t3 13 18 hS0a ?_
    (try simp only [Act.put, sA, sB, sC])
    refine t3 14 19 hS0a ?_
    (try simp only [Act.put, sA, sB, sC])
    refine t3 15 20 hS0a ?_
    (try simp only [Act.put, sA, sB, sC])
    refine t1 16 21 (.bool false) hS0a ?_
    (try simp only [Act.put, sA, sB, sC])
    refine t1 17 22 (.bool false) hS0a ?_
    (try simp only [Act.put, sA, sB, sC])
    refine t3 18 23 hS0a ?_
    (try simp only [Act.put, sA, sB, sC])
    refine t3 19 24 hS0a ?_
    (try simp only [Act.put, sA, sB, sC])
    refine t1 20 25 (.bool false) hS0a ?_
    (try simp only [Act.put, sA, sB, sC])
    refine t1 21 4 (.bool false) hS0a ?_
    (try simp only [Act.put, sA, sB, sC])
    refine wpL_done (by kernel_rfl) ?_ _
    go_wp2
    go_ret
    exact RuP.no hB0a.kp
end Go.Proofs.YtfbhflpjhbemlaaGreat

/- Package code: the rules save (written by mkcf.py). -/
namespace Go.Proofs.YtfbhflpjhbemlaaGreat
open Go.RowKit Go.Maps Go.WideMaps
open Cd (Kn)

set_option maxHeartbeats 2000000 in
set_option maxRecDepth 100000 in
theorem save_any (W : World) (b g : Nat) (cs : Array Value) (at_ : Nat) (c : Cd.Code) (l : List Int) (qs : Kn) (op n k : Int) (w : World) (h : At W w b g cs at_ c l qs) :
    Calls Tryz.prog 47 #[.pointer (some ⟨b, 0, none⟩), .agg #[.int .i64 op, .int .i64 n, .int .i64 k]] w (RuP W w b g cs at_ (if 0 ≤ n ∧ n < c.kinds.length then (if c.ins ≤ n then Cd.onTop l (c.kinds.getD n.toNat 0) (fun r => Cd.lead r at_ 0 qs) else none) else none)) := by
  have ha := h.ha
  have hls := h.sks
  have hq6 := h.q6
  have hco := h.co
  have hl64 := h.l64
  have hsk := h.sk
  have hs64 := h.s64
  have hq : 0 < qs.length := by omega
  have hB0 : Bx W w b g cs at_ op n k (some l) qs _ := Bx.new h.wk hq
  obtain ⟨ka, kc, hcs0, hnums⟩ := h.nums
  have hkk := h.kk
  have hcs1 := hco.ins
  by_cases hn : 0 ≤ n ∧ n < c.kinds.length
  · rw [if_pos hn]
    have hsl : decide (0 ≤ n ∧ n < c.kinds.length) = true := by simpa using hn
    clear h
    obtain ⟨i, rfl⟩ : ∃ i : Nat, n = i := ⟨n.toNat, by omega⟩
    have hi : i < c.kinds.length := by omega
    obtain ⟨kd, hkdi⟩ : ∃ kd, c.kinds[i]? = some kd := ⟨_, List.getElem?_eq_getElem hi⟩
    obtain ⟨kb, ko, rfl, hkd⟩ := hnums i kd hkdi
    have e : c.kinds.getD ((i : Nat) : Int).toNat 0 = kd := by rw [Int.toNat_natCast, List.getD_eq_getElem?_getD, hkdi]; rfl
    rw [e]
    have hkd9 := hkk kd (List.mem_iff_getElem?.2 ⟨_, hkdi⟩)
    generalize hN : c.kinds.length = N at hcs0 hi
    by_cases hs : c.ins ≤ (i : Int)
    · rw [if_pos hs]
      have hd : decide (c.ins ≤ (i : Int)) = true := by simpa using hs
      rcases Cd.top_or l kd with ⟨r, rfl⟩ | hno
      · rw [Cd.onTop_yes]
        have hl : r.length < 64 := hl64
        have hS0 : Sb W w b g cs at_ op (i : Int) k _ := ⟨_, _, hB0⟩
        have HB0 := Lib.hid hB0
        go_enter Tryz.func47, Tryz.ntmps47
        go_wp2
        refine wp_region_L (S := Sb W w b g cs at_ op (i : Int) k) (Z := []) (by kernel_rfl) ?_
        refine t1 0 5 (.pointer (some ⟨b, 0, none⟩)) hS0 ?_
        (try simp only [Act.put, sA, sB, sC])
        refine t1 1 6 (.pointer (some ⟨w.heap.size, 1, none⟩)) hS0 ?_
        (try simp only [Act.put, sA, sB, sC])
        refine t2 2 7 (.int .i64 (i : Int)) (fun w' hw' => ?_) hS0 ?_
        · have hc0 := hw'.c 1 rfl; clear hw'; go_simp
        (try simp only [Act.put, sA, sB, sC])
        refine wpL_call (i := 3) (d := 8) (R := fun v w' => v = .bool true ∧ Bx W w b g cs at_ op (i : Int) k (some (kd :: r)) qs w') (by kernel_rfl) rfl rfl (by kernel_rfl) (by kernel_rfl) ((hB0.slot hco _ hsl).mono fun e w' he => ⟨_, he.1, rfl, he.2⟩) (fun v w' hR => ⟨_, _, hR.2⟩) (fun v w' hR => ?_)
        obtain ⟨rfl, hB0a⟩ := hR
        have hS0a : Sb W w b g cs at_ op (i : Int) k w' := ⟨_, _, hB0a⟩
        (try simp only [Act.put, sA, sB, sC])
        refine t1 4 9 (.bool true) hS0a ?_
        (try simp only [Act.put, sA, sB, sC])
        refine t1 5 10 (.pointer (some ⟨w.heap.size, 1, none⟩)) hS0a ?_
        (try simp only [Act.put, sA, sB, sC])
        refine t2 6 11 (.int .i64 (i : Int)) (fun w' hw' => ?_) hS0a ?_
        · have hc0 := hw'.c 1 rfl; clear hw'; go_simp
        (try simp only [Act.put, sA, sB, sC])
        refine t1 7 12 (.pointer (some ⟨b, 0, none⟩)) hS0a ?_
        (try simp only [Act.put, sA, sB, sC])
        refine t1 8 13 (.pointer (some ⟨b, 0, none⟩)) hS0a ?_
        (try simp only [Act.put, sA, sB, sC])
        refine t1 9 14 (.pointer (some ⟨b, 0, none⟩)) hS0a ?_
        (try simp only [Act.put, sA, sB, sC])
        refine t1 10 15 (.pointer (some ⟨b, 1, none⟩)) hS0a ?_
        (try simp only [Act.put, sA, sB, sC])
        refine t2 11 16 (.int .i64 c.ins) (fun w' hw' => ?_) hS0a ?_
        · have hc0 := hw'.code 1 hcs1; clear hw'; go_simp
        (try simp only [Act.put, sA, sB, sC])
        refine t2 12 17 (.bool true) (fun w' hw' => ?_) hS0a ?_
        · clear hw'; go_simp
        (try simp only [Act.put, sA, sB, sC])
        refine t1 13 18 (.bool true) hS0a ?_
        (try simp only [Act.put, sA, sB, sC])
        refine t1 14 19 (.bool true) hS0a ?_
        (try simp only [Act.put, sA, sB, sC])
        refine t1 15 20 (.pointer (some ⟨b, 0, none⟩)) hS0a ?_
        (try simp only [Act.put, sA, sB, sC])
        refine t1 16 21 (.pointer (some ⟨b, 0, none⟩)) hS0a ?_
        (try simp only [Act.put, sA, sB, sC])
        refine t1 17 22 (.pointer (some ⟨b, 8, none⟩)) hS0a ?_
        (try simp only [Act.put, sA, sB, sC])
        refine t1 18 23 (.pointer (some ⟨b, 0, none⟩)) hS0a ?_
        (try simp only [Act.put, sA, sB, sC])
        refine t1 19 24 (.pointer (some ⟨b, 0, none⟩)) hS0a ?_
        (try simp only [Act.put, sA, sB, sC])
        refine t1 20 25 (.pointer (some ⟨b, 0, none⟩)) hS0a ?_
        (try simp only [Act.put, sA, sB, sC])
        refine t1 21 26 (.pointer (some ⟨b, 0, none⟩)) hS0a ?_
        (try simp only [Act.put, sA, sB, sC])
        refine t2 22 27 (.slice (some ⟨kb, ko, none⟩) N kc) (fun w' hw' => ?_) hS0a ?_
        · have hc0 := hw'.code 0 hcs0; clear hw'; go_simp
        (try simp only [Act.put, sA, sB, sC])
        refine t1 23 28 (.pointer (some ⟨w.heap.size, 1, none⟩)) hS0a ?_
        (try simp only [Act.put, sA, sB, sC])
        refine t2 24 29 (.int .i64 (i : Int)) (fun w' hw' => ?_) hS0a ?_
        · have hc0 := hw'.c 1 rfl; clear hw'; go_simp
        (try simp only [Act.put, sA, sB, sC])
        refine t2 25 30 (.pointer (some ⟨kb, ko + i, none⟩)) (fun w' hw' => ?_) hS0a ?_
        · clear hw'; go_simp
        (try simp only [Act.put, sA, sB, sC])
        refine t2 26 31 (.int .i64 kd) (fun w' hw' => ?_) hS0a ?_
        · have hc0 := hw'.old hkd; clear hw'; go_simp
        (try simp only [Act.put, sA, sB, sC])
        refine wpL_call (i := 27) (d := 32) (R := fun v w' => v = .bool true ∧ Bx W w b g cs at_ op (i : Int) k (some r) qs w') (by kernel_rfl) rfl rfl (by kernel_rfl) (by kernel_rfl) ((hB0a.take_yes hkd9 hl).mono fun e w' he => ⟨_, he.1, rfl, he.2⟩) (fun v w' hR => ⟨_, _, hR.2⟩) (fun v w' hR => ?_)
        obtain ⟨rfl, hB1a⟩ := hR
        have hS1a : Sb W w b g cs at_ op (i : Int) k w' := ⟨_, _, hB1a⟩
        (try simp only [Act.put, sA, sB, sC])
        refine t1 28 33 (.bool true) hS1a ?_
        (try simp only [Act.put, sA, sB, sC])
        refine t1 29 34 (.bool true) hS1a ?_
        (try simp only [Act.put, sA, sB, sC])
        refine t1 30 35 (.pointer (some ⟨b, 0, none⟩)) hS1a ?_
        (try simp only [Act.put, sA, sB, sC])
        refine wpL_call (i := 31) (d := 36) (R := fun v w' => v = .bool (Cd.lead r at_ 0 qs).isSome ∧ ∃ q', Bx W w b g cs at_ op (i : Int) k (some r) q' w' ∧ ∀ q, Cd.lead r at_ 0 qs = some q → q' = q) (by kernel_rfl) rfl rfl (by kernel_rfl) (by kernel_rfl) ((hB1a.next ha hls hq6 (by (try simp only [List.length_cons]); omega)).mono fun e w' he => ⟨_, he.1, rfl, he.2⟩) (fun v w' hR => let ⟨q', h, _⟩ := hR.2; ⟨_, q', h⟩) (fun v w' hR => ?_)
        obtain ⟨rfl, hB2a⟩ := hR
        have hS2a : Sb W w b g cs at_ op (i : Int) k w' := let ⟨q', h, _⟩ := hB2a; ⟨_, q', h⟩
        (try simp only [Act.put, sA, sB, sC])
        refine t1 32 37 (.bool (Cd.lead r at_ 0 qs).isSome) hS2a ?_
        (try simp only [Act.put, sA, sB, sC])
        refine t1 33 4 (.bool (Cd.lead r at_ 0 qs).isSome) hS2a ?_
        (try simp only [Act.put, sA, sB, sC])
        refine wpL_done (by kernel_rfl) ?_ _
        go_wp2
        go_ret
        exact Bx.ru hB2a
      · rw [Cd.onTop_no hno]
        have hS0 : Sb W w b g cs at_ op (i : Int) k _ := ⟨_, _, hB0⟩
        have HB0 := Lib.hid hB0
        go_enter Tryz.func47, Tryz.ntmps47
        go_wp2
        refine wp_region_L (S := Sb W w b g cs at_ op (i : Int) k) (Z := []) (by kernel_rfl) ?_
        refine t1 0 5 (.pointer (some ⟨b, 0, none⟩)) hS0 ?_
        (try simp only [Act.put, sA, sB, sC])
        refine t1 1 6 (.pointer (some ⟨w.heap.size, 1, none⟩)) hS0 ?_
        (try simp only [Act.put, sA, sB, sC])
        refine t2 2 7 (.int .i64 (i : Int)) (fun w' hw' => ?_) hS0 ?_
        · have hc0 := hw'.c 1 rfl; clear hw'; go_simp
        (try simp only [Act.put, sA, sB, sC])
        refine wpL_call (i := 3) (d := 8) (R := fun v w' => v = .bool true ∧ Bx W w b g cs at_ op (i : Int) k (some l) qs w') (by kernel_rfl) rfl rfl (by kernel_rfl) (by kernel_rfl) ((hB0.slot hco _ hsl).mono fun e w' he => ⟨_, he.1, rfl, he.2⟩) (fun v w' hR => ⟨_, _, hR.2⟩) (fun v w' hR => ?_)
        obtain ⟨rfl, hB0a⟩ := hR
        have hS0a : Sb W w b g cs at_ op (i : Int) k w' := ⟨_, _, hB0a⟩
        (try simp only [Act.put, sA, sB, sC])
        refine t1 4 9 (.bool true) hS0a ?_
        (try simp only [Act.put, sA, sB, sC])
        refine t1 5 10 (.pointer (some ⟨w.heap.size, 1, none⟩)) hS0a ?_
        (try simp only [Act.put, sA, sB, sC])
        refine t2 6 11 (.int .i64 (i : Int)) (fun w' hw' => ?_) hS0a ?_
        · have hc0 := hw'.c 1 rfl; clear hw'; go_simp
        (try simp only [Act.put, sA, sB, sC])
        refine t1 7 12 (.pointer (some ⟨b, 0, none⟩)) hS0a ?_
        (try simp only [Act.put, sA, sB, sC])
        refine t1 8 13 (.pointer (some ⟨b, 0, none⟩)) hS0a ?_
        (try simp only [Act.put, sA, sB, sC])
        refine t1 9 14 (.pointer (some ⟨b, 0, none⟩)) hS0a ?_
        (try simp only [Act.put, sA, sB, sC])
        refine t1 10 15 (.pointer (some ⟨b, 1, none⟩)) hS0a ?_
        (try simp only [Act.put, sA, sB, sC])
        refine t2 11 16 (.int .i64 c.ins) (fun w' hw' => ?_) hS0a ?_
        · have hc0 := hw'.code 1 hcs1; clear hw'; go_simp
        (try simp only [Act.put, sA, sB, sC])
        refine t2 12 17 (.bool true) (fun w' hw' => ?_) hS0a ?_
        · clear hw'; go_simp
        (try simp only [Act.put, sA, sB, sC])
        refine t1 13 18 (.bool true) hS0a ?_
        (try simp only [Act.put, sA, sB, sC])
        refine t1 14 19 (.bool true) hS0a ?_
        (try simp only [Act.put, sA, sB, sC])
        refine t1 15 20 (.pointer (some ⟨b, 0, none⟩)) hS0a ?_
        (try simp only [Act.put, sA, sB, sC])
        refine t1 16 21 (.pointer (some ⟨b, 0, none⟩)) hS0a ?_
        (try simp only [Act.put, sA, sB, sC])
        refine t1 17 22 (.pointer (some ⟨b, 8, none⟩)) hS0a ?_
        (try simp only [Act.put, sA, sB, sC])
        refine t1 18 23 (.pointer (some ⟨b, 0, none⟩)) hS0a ?_
        (try simp only [Act.put, sA, sB, sC])
        refine t1 19 24 (.pointer (some ⟨b, 0, none⟩)) hS0a ?_
        (try simp only [Act.put, sA, sB, sC])
        refine t1 20 25 (.pointer (some ⟨b, 0, none⟩)) hS0a ?_
        (try simp only [Act.put, sA, sB, sC])
        refine t1 21 26 (.pointer (some ⟨b, 0, none⟩)) hS0a ?_
        (try simp only [Act.put, sA, sB, sC])
        refine t2 22 27 (.slice (some ⟨kb, ko, none⟩) N kc) (fun w' hw' => ?_) hS0a ?_
        · have hc0 := hw'.code 0 hcs0; clear hw'; go_simp
        (try simp only [Act.put, sA, sB, sC])
        refine t1 23 28 (.pointer (some ⟨w.heap.size, 1, none⟩)) hS0a ?_
        (try simp only [Act.put, sA, sB, sC])
        refine t2 24 29 (.int .i64 (i : Int)) (fun w' hw' => ?_) hS0a ?_
        · have hc0 := hw'.c 1 rfl; clear hw'; go_simp
        (try simp only [Act.put, sA, sB, sC])
        refine t2 25 30 (.pointer (some ⟨kb, ko + i, none⟩)) (fun w' hw' => ?_) hS0a ?_
        · clear hw'; go_simp
        (try simp only [Act.put, sA, sB, sC])
        refine t2 26 31 (.int .i64 kd) (fun w' hw' => ?_) hS0a ?_
        · have hc0 := hw'.old hkd; clear hw'; go_simp
        (try simp only [Act.put, sA, sB, sC])
        refine wpL_call (i := 27) (d := 32) (R := fun v w' => v = .bool false ∧ Bx W w b g cs at_ op (i : Int) k (some l) qs w') (by kernel_rfl) rfl rfl (by kernel_rfl) (by kernel_rfl) ((hB0a.take_no (x := kd) hq hl64 hsk.2 hno).mono fun e w' he => ⟨_, he.1, rfl, he.2⟩) (fun v w' hR => ⟨_, _, hR.2⟩) (fun v w' hR => ?_)
        obtain ⟨rfl, hB1a⟩ := hR
        have hS1a : Sb W w b g cs at_ op (i : Int) k w' := ⟨_, _, hB1a⟩
        (try simp only [Act.put, sA, sB, sC])
        refine t1 28 33 (.bool false) hS1a ?_
        (try simp only [Act.put, sA, sB, sC])
        refine t1 29 34 (.bool false) hS1a ?_
        (try simp only [Act.put, sA, sB, sC])
        refine t3 30 35 hS1a ?_
        (try simp only [Act.put, sA, sB, sC])
        refine t3 31 36 hS1a ?_
        (try simp only [Act.put, sA, sB, sC])
        refine t1 32 37 (.bool false) hS1a ?_
        (try simp only [Act.put, sA, sB, sC])
        refine t1 33 4 (.bool false) hS1a ?_
        (try simp only [Act.put, sA, sB, sC])
        refine wpL_done (by kernel_rfl) ?_ _
        go_wp2
        go_ret
        exact RuP.no hB1a.kp
    · rw [if_neg hs]
      have hd : decide (c.ins ≤ (i : Int)) = false := by simpa using hs
      have hS0 : Sb W w b g cs at_ op (i : Int) k _ := ⟨_, _, hB0⟩
      have HB0 := Lib.hid hB0
      go_enter Tryz.func47, Tryz.ntmps47
      go_wp2
      refine wp_region_L (S := Sb W w b g cs at_ op (i : Int) k) (Z := []) (by kernel_rfl) ?_
      refine t1 0 5 (.pointer (some ⟨b, 0, none⟩)) hS0 ?_
      (try simp only [Act.put, sA, sB, sC])
      refine t1 1 6 (.pointer (some ⟨w.heap.size, 1, none⟩)) hS0 ?_
      (try simp only [Act.put, sA, sB, sC])
      refine t2 2 7 (.int .i64 (i : Int)) (fun w' hw' => ?_) hS0 ?_
      · have hc0 := hw'.c 1 rfl; clear hw'; go_simp
      (try simp only [Act.put, sA, sB, sC])
      refine wpL_call (i := 3) (d := 8) (R := fun v w' => v = .bool true ∧ Bx W w b g cs at_ op (i : Int) k (some l) qs w') (by kernel_rfl) rfl rfl (by kernel_rfl) (by kernel_rfl) ((hB0.slot hco _ hsl).mono fun e w' he => ⟨_, he.1, rfl, he.2⟩) (fun v w' hR => ⟨_, _, hR.2⟩) (fun v w' hR => ?_)
      obtain ⟨rfl, hB0a⟩ := hR
      have hS0a : Sb W w b g cs at_ op (i : Int) k w' := ⟨_, _, hB0a⟩
      (try simp only [Act.put, sA, sB, sC])
      refine t1 4 9 (.bool true) hS0a ?_
      (try simp only [Act.put, sA, sB, sC])
      refine t1 5 10 (.pointer (some ⟨w.heap.size, 1, none⟩)) hS0a ?_
      (try simp only [Act.put, sA, sB, sC])
      refine t2 6 11 (.int .i64 (i : Int)) (fun w' hw' => ?_) hS0a ?_
      · have hc0 := hw'.c 1 rfl; clear hw'; go_simp
      (try simp only [Act.put, sA, sB, sC])
      refine t1 7 12 (.pointer (some ⟨b, 0, none⟩)) hS0a ?_
      (try simp only [Act.put, sA, sB, sC])
      refine t1 8 13 (.pointer (some ⟨b, 0, none⟩)) hS0a ?_
      (try simp only [Act.put, sA, sB, sC])
      refine t1 9 14 (.pointer (some ⟨b, 0, none⟩)) hS0a ?_
      (try simp only [Act.put, sA, sB, sC])
      refine t1 10 15 (.pointer (some ⟨b, 1, none⟩)) hS0a ?_
      (try simp only [Act.put, sA, sB, sC])
      refine t2 11 16 (.int .i64 c.ins) (fun w' hw' => ?_) hS0a ?_
      · have hc0 := hw'.code 1 hcs1; clear hw'; go_simp
      (try simp only [Act.put, sA, sB, sC])
      refine t2 12 17 (.bool false) (fun w' hw' => ?_) hS0a ?_
      · clear hw'; go_simp
      (try simp only [Act.put, sA, sB, sC])
      refine t1 13 18 (.bool false) hS0a ?_
      (try simp only [Act.put, sA, sB, sC])
      refine t1 14 19 (.bool false) hS0a ?_
      (try simp only [Act.put, sA, sB, sC])
      refine t3 15 20 hS0a ?_
      (try simp only [Act.put, sA, sB, sC])
      refine t3 16 21 hS0a ?_
      (try simp only [Act.put, sA, sB, sC])
      refine t3 17 22 hS0a ?_
      (try simp only [Act.put, sA, sB, sC])
      refine t3 18 23 hS0a ?_
      (try simp only [Act.put, sA, sB, sC])
      refine t3 19 24 hS0a ?_
      (try simp only [Act.put, sA, sB, sC])
      refine t3 20 25 hS0a ?_
      (try simp only [Act.put, sA, sB, sC])
      refine t3 21 26 hS0a ?_
      (try simp only [Act.put, sA, sB, sC])
      refine t3 22 27 hS0a ?_
      (try simp only [Act.put, sA, sB, sC])
      refine t3 23 28 hS0a ?_
      (try simp only [Act.put, sA, sB, sC])
      refine t3 24 29 hS0a ?_
      (try simp only [Act.put, sA, sB, sC])
      refine t3 25 30 hS0a ?_
      (try simp only [Act.put, sA, sB, sC])
      refine t3 26 31 hS0a ?_
      (try simp only [Act.put, sA, sB, sC])
      refine t3 27 32 hS0a ?_
      (try simp only [Act.put, sA, sB, sC])
      refine t1 28 33 (.bool false) hS0a ?_
      (try simp only [Act.put, sA, sB, sC])
      refine t1 29 34 (.bool false) hS0a ?_
      (try simp only [Act.put, sA, sB, sC])
      refine t3 30 35 hS0a ?_
      (try simp only [Act.put, sA, sB, sC])
      refine t3 31 36 hS0a ?_
      (try simp only [Act.put, sA, sB, sC])
      refine t1 32 37 (.bool false) hS0a ?_
      (try simp only [Act.put, sA, sB, sC])
      refine t1 33 4 (.bool false) hS0a ?_
      (try simp only [Act.put, sA, sB, sC])
      refine wpL_done (by kernel_rfl) ?_ _
      go_wp2
      go_ret
      exact RuP.no hB0a.kp
  · rw [if_neg hn]
    have hsl : decide (0 ≤ n ∧ n < c.kinds.length) = false := by simpa using hn
    clear h
    have hS0 : Sb W w b g cs at_ op n k _ := ⟨_, _, hB0⟩
    have HB0 := Lib.hid hB0
    go_enter Tryz.func47, Tryz.ntmps47
    go_wp2
    refine wp_region_L (S := Sb W w b g cs at_ op n k) (Z := []) (by kernel_rfl) ?_
    refine t1 0 5 (.pointer (some ⟨b, 0, none⟩)) hS0 ?_
    (try simp only [Act.put, sA, sB, sC])
    refine t1 1 6 (.pointer (some ⟨w.heap.size, 1, none⟩)) hS0 ?_
    (try simp only [Act.put, sA, sB, sC])
    refine t2 2 7 (.int .i64 n) (fun w' hw' => ?_) hS0 ?_
    · have hc0 := hw'.c 1 rfl; clear hw'; go_simp
    (try simp only [Act.put, sA, sB, sC])
    refine wpL_call (i := 3) (d := 8) (R := fun v w' => v = .bool false ∧ Bx W w b g cs at_ op n k (some l) qs w') (by kernel_rfl) rfl rfl (by kernel_rfl) (by kernel_rfl) ((hB0.slot hco _ hsl).mono fun e w' he => ⟨_, he.1, rfl, he.2⟩) (fun v w' hR => ⟨_, _, hR.2⟩) (fun v w' hR => ?_)
    obtain ⟨rfl, hB0a⟩ := hR
    have hS0a : Sb W w b g cs at_ op n k w' := ⟨_, _, hB0a⟩
    (try simp only [Act.put, sA, sB, sC])
    refine t1 4 9 (.bool false) hS0a ?_
    (try simp only [Act.put, sA, sB, sC])
    refine t3 5 10 hS0a ?_
    (try simp only [Act.put, sA, sB, sC])
    refine t3 6 11 hS0a ?_
    (try simp only [Act.put, sA, sB, sC])
    refine t3 7 12 hS0a ?_
    (try simp only [Act.put, sA, sB, sC])
    refine t3 8 13 hS0a ?_
    (try simp only [Act.put, sA, sB, sC])
    refine t3 9 14 hS0a ?_
    (try simp only [Act.put, sA, sB, sC])
    refine t3 10 15 hS0a ?_
    (try simp only [Act.put, sA, sB, sC])
    refine t3 11 16 hS0a ?_
    (try simp only [Act.put, sA, sB, sC])
    refine t3 12 17 hS0a ?_
    (try simp only [Act.put, sA, sB, sC])
    refine t1 13 18 (.bool false) hS0a ?_
    (try simp only [Act.put, sA, sB, sC])
    refine t1 14 19 (.bool false) hS0a ?_
    (try simp only [Act.put, sA, sB, sC])
    refine t3 15 20 hS0a ?_
    (try simp only [Act.put, sA, sB, sC])
    refine t3 16 21 hS0a ?_
    (try simp only [Act.put, sA, sB, sC])
    refine t3 17 22 hS0a ?_
    (try simp only [Act.put, sA, sB, sC])
    refine t3 18 23 hS0a ?_
    (try simp only [Act.put, sA, sB, sC])
    refine t3 19 24 hS0a ?_
    (try simp only [Act.put, sA, sB, sC])
    refine t3 20 25 hS0a ?_
    (try simp only [Act.put, sA, sB, sC])
    refine t3 21 26 hS0a ?_
    (try simp only [Act.put, sA, sB, sC])
    refine t3 22 27 hS0a ?_
    (try simp only [Act.put, sA, sB, sC])
    refine t3 23 28 hS0a ?_
    (try simp only [Act.put, sA, sB, sC])
    refine t3 24 29 hS0a ?_
    (try simp only [Act.put, sA, sB, sC])
    refine t3 25 30 hS0a ?_
    (try simp only [Act.put, sA, sB, sC])
    refine t3 26 31 hS0a ?_
    (try simp only [Act.put, sA, sB, sC])
    refine t3 27 32 hS0a ?_
    (try simp only [Act.put, sA, sB, sC])
    refine t1 28 33 (.bool false) hS0a ?_
    (try simp only [Act.put, sA, sB, sC])
    refine t1 29 34 (.bool false) hS0a ?_
    (try simp only [Act.put, sA, sB, sC])
    refine t3 30 35 hS0a ?_
    (try simp only [Act.put, sA, sB, sC])
    refine t3 31 36 hS0a ?_
    (try simp only [Act.put, sA, sB, sC])
    refine t1 32 37 (.bool false) hS0a ?_
    (try simp only [Act.put, sA, sB, sC])
    refine t1 33 4 (.bool false) hS0a ?_
    (try simp only [Act.put, sA, sB, sC])
    refine wpL_done (by kernel_rfl) ?_ _
    go_wp2
    go_ret
    exact RuP.no hB0a.kp
end Go.Proofs.YtfbhflpjhbemlaaGreat

/- Package code: the rules cast (written by mkcf.py). -/
namespace Go.Proofs.YtfbhflpjhbemlaaGreat
open Go.RowKit Go.Maps Go.WideMaps
open Cd (Kn)

set_option maxHeartbeats 2000000 in
set_option maxRecDepth 100000 in
theorem kcast_any (W : World) (b g : Nat) (cs : Array Value) (at_ : Nat) (c : Cd.Code) (l : List Int) (qs : Kn) (op n k : Int) (w : World) (h : At W w b g cs at_ c l qs) :
    Calls Tryz.prog 50 #[.pointer (some ⟨b, 0, none⟩), .agg #[.int .i64 op, .int .i64 n, .int .i64 k]] w (RuP W w b g cs at_ (if 0 < Bv.wid k then Cd.onTop l n (fun r => Cd.lead (k :: r) at_ 0 qs) else none)) := by
  have ha := h.ha
  have hls := h.sks
  have hq6 := h.q6
  have hco := h.co
  have hl64 := h.l64
  have hsk := h.sk
  have hs64 := h.s64
  have hq : 0 < qs.length := by omega
  have hB0 : Bx W w b g cs at_ op n k (some l) qs _ := Bx.new h.wk hq
  clear h
  by_cases hw : 0 < Bv.wid k
  · rw [if_pos hw]
    have hwk : decide (0 < Bv.wid k) = true := by simpa using hw
    have hk9 := Cd.wid_k hw
    rcases Cd.top_or l n with ⟨r, rfl⟩ | hno
    · rw [Cd.onTop_yes]
      have hl : r.length < 64 := hl64
      have hn9 := hsk.2 n (by simp)
      have hs : (r.length : Int) < c.stack := by have := hsk.1; simp only [List.length_cons] at this; omega
      have hS0 : Sb W w b g cs at_ op n k _ := ⟨_, _, hB0⟩
      have HB0 := Lib.hid hB0
      go_enter Tryz.func50, Tryz.ntmps50
      go_wp2
      refine wp_region_L (S := Sb W w b g cs at_ op n k) (Z := []) (by kernel_rfl) ?_
      refine t1 0 5 (.pointer (some ⟨w.heap.size, 2, none⟩)) hS0 ?_
      (try simp only [Act.put, sA, sB, sC])
      refine t2 1 6 (.int .i64 k) (fun w' hw' => ?_) hS0 ?_
      · have hc0 := hw'.c 2 rfl; clear hw'; go_simp
      (try simp only [Act.put, sA, sB, sC])
      refine wpL_call (i := 2) (d := 7) (R := fun v w' => v = .bool true ∧ Bx W w b g cs at_ op n k (some (n :: r)) qs w') (by kernel_rfl) rfl rfl (by kernel_rfl) (by kernel_rfl) ((hB0.kind k hwk).mono fun e w' he => ⟨_, he.1, rfl, he.2⟩) (fun v w' hR => ⟨_, _, hR.2⟩) (fun v w' hR => ?_)
      obtain ⟨rfl, hB0a⟩ := hR
      have hS0a : Sb W w b g cs at_ op n k w' := ⟨_, _, hB0a⟩
      (try simp only [Act.put, sA, sB, sC])
      refine t1 3 8 (.bool true) hS0a ?_
      (try simp only [Act.put, sA, sB, sC])
      refine t1 4 9 (.pointer (some ⟨b, 0, none⟩)) hS0a ?_
      (try simp only [Act.put, sA, sB, sC])
      refine t1 5 10 (.pointer (some ⟨b, 0, none⟩)) hS0a ?_
      (try simp only [Act.put, sA, sB, sC])
      refine t1 6 11 (.pointer (some ⟨b, 8, none⟩)) hS0a ?_
      (try simp only [Act.put, sA, sB, sC])
      refine t1 7 12 (.pointer (some ⟨w.heap.size, 1, none⟩)) hS0a ?_
      (try simp only [Act.put, sA, sB, sC])
      refine t2 8 13 (.int .i64 n) (fun w' hw' => ?_) hS0a ?_
      · have hc0 := hw'.c 1 rfl; clear hw'; go_simp
      (try simp only [Act.put, sA, sB, sC])
      refine wpL_call (i := 9) (d := 14) (R := fun v w' => v = .bool true ∧ Bx W w b g cs at_ op n k (some r) qs w') (by kernel_rfl) rfl rfl (by kernel_rfl) (by kernel_rfl) ((hB0a.take_yes hn9 hl).mono fun e w' he => ⟨_, he.1, rfl, he.2⟩) (fun v w' hR => ⟨_, _, hR.2⟩) (fun v w' hR => ?_)
      obtain ⟨rfl, hB1a⟩ := hR
      have hS1a : Sb W w b g cs at_ op n k w' := ⟨_, _, hB1a⟩
      (try simp only [Act.put, sA, sB, sC])
      refine t1 10 15 (.bool true) hS1a ?_
      (try simp only [Act.put, sA, sB, sC])
      refine t1 11 16 (.bool true) hS1a ?_
      (try simp only [Act.put, sA, sB, sC])
      refine t1 12 17 (.pointer (some ⟨b, 0, none⟩)) hS1a ?_
      (try simp only [Act.put, sA, sB, sC])
      refine t1 13 18 (.pointer (some ⟨w.heap.size, 2, none⟩)) hS1a ?_
      (try simp only [Act.put, sA, sB, sC])
      refine t2 14 19 (.int .i64 k) (fun w' hw' => ?_) hS1a ?_
      · have hc0 := hw'.c 2 rfl; clear hw'; go_simp
      (try simp only [Act.put, sA, sB, sC])
      refine wpL_call (i := 15) (d := 20) (R := fun v w' => v = .bool true ∧ Bx W w b g cs at_ op n k (some (k :: r)) qs w') (by kernel_rfl) rfl rfl (by kernel_rfl) (by kernel_rfl) ((hB1a.put_yes hco hk9 hl hs).mono fun e w' he => ⟨_, he.1, rfl, he.2⟩) (fun v w' hR => ⟨_, _, hR.2⟩) (fun v w' hR => ?_)
      obtain ⟨rfl, hB2a⟩ := hR
      have hS2a : Sb W w b g cs at_ op n k w' := ⟨_, _, hB2a⟩
      (try simp only [Act.put, sA, sB, sC])
      refine t1 16 21 (.bool true) hS2a ?_
      (try simp only [Act.put, sA, sB, sC])
      refine t1 17 22 (.bool true) hS2a ?_
      (try simp only [Act.put, sA, sB, sC])
      refine t1 18 23 (.pointer (some ⟨b, 0, none⟩)) hS2a ?_
      (try simp only [Act.put, sA, sB, sC])
      refine wpL_call (i := 19) (d := 24) (R := fun v w' => v = .bool (Cd.lead (k :: r) at_ 0 qs).isSome ∧ ∃ q', Bx W w b g cs at_ op n k (some (k :: r)) q' w' ∧ ∀ q, Cd.lead (k :: r) at_ 0 qs = some q → q' = q) (by kernel_rfl) rfl rfl (by kernel_rfl) (by kernel_rfl) ((hB2a.next ha hls hq6 (by (try simp only [List.length_cons]); omega)).mono fun e w' he => ⟨_, he.1, rfl, he.2⟩) (fun v w' hR => let ⟨q', h, _⟩ := hR.2; ⟨_, q', h⟩) (fun v w' hR => ?_)
      obtain ⟨rfl, hB3a⟩ := hR
      have hS3a : Sb W w b g cs at_ op n k w' := let ⟨q', h, _⟩ := hB3a; ⟨_, q', h⟩
      (try simp only [Act.put, sA, sB, sC])
      refine t1 20 25 (.bool (Cd.lead (k :: r) at_ 0 qs).isSome) hS3a ?_
      (try simp only [Act.put, sA, sB, sC])
      refine t1 21 4 (.bool (Cd.lead (k :: r) at_ 0 qs).isSome) hS3a ?_
      (try simp only [Act.put, sA, sB, sC])
      refine wpL_done (by kernel_rfl) ?_ _
      go_wp2
      go_ret
      exact Bx.ru hB3a
    · rw [Cd.onTop_no hno]
      have hS0 : Sb W w b g cs at_ op n k _ := ⟨_, _, hB0⟩
      have HB0 := Lib.hid hB0
      go_enter Tryz.func50, Tryz.ntmps50
      go_wp2
      refine wp_region_L (S := Sb W w b g cs at_ op n k) (Z := []) (by kernel_rfl) ?_
      refine t1 0 5 (.pointer (some ⟨w.heap.size, 2, none⟩)) hS0 ?_
      (try simp only [Act.put, sA, sB, sC])
      refine t2 1 6 (.int .i64 k) (fun w' hw' => ?_) hS0 ?_
      · have hc0 := hw'.c 2 rfl; clear hw'; go_simp
      (try simp only [Act.put, sA, sB, sC])
      refine wpL_call (i := 2) (d := 7) (R := fun v w' => v = .bool true ∧ Bx W w b g cs at_ op n k (some l) qs w') (by kernel_rfl) rfl rfl (by kernel_rfl) (by kernel_rfl) ((hB0.kind k hwk).mono fun e w' he => ⟨_, he.1, rfl, he.2⟩) (fun v w' hR => ⟨_, _, hR.2⟩) (fun v w' hR => ?_)
      obtain ⟨rfl, hB0a⟩ := hR
      have hS0a : Sb W w b g cs at_ op n k w' := ⟨_, _, hB0a⟩
      (try simp only [Act.put, sA, sB, sC])
      refine t1 3 8 (.bool true) hS0a ?_
      (try simp only [Act.put, sA, sB, sC])
      refine t1 4 9 (.pointer (some ⟨b, 0, none⟩)) hS0a ?_
      (try simp only [Act.put, sA, sB, sC])
      refine t1 5 10 (.pointer (some ⟨b, 0, none⟩)) hS0a ?_
      (try simp only [Act.put, sA, sB, sC])
      refine t1 6 11 (.pointer (some ⟨b, 8, none⟩)) hS0a ?_
      (try simp only [Act.put, sA, sB, sC])
      refine t1 7 12 (.pointer (some ⟨w.heap.size, 1, none⟩)) hS0a ?_
      (try simp only [Act.put, sA, sB, sC])
      refine t2 8 13 (.int .i64 n) (fun w' hw' => ?_) hS0a ?_
      · have hc0 := hw'.c 1 rfl; clear hw'; go_simp
      (try simp only [Act.put, sA, sB, sC])
      refine wpL_call (i := 9) (d := 14) (R := fun v w' => v = .bool false ∧ Bx W w b g cs at_ op n k (some l) qs w') (by kernel_rfl) rfl rfl (by kernel_rfl) (by kernel_rfl) ((hB0a.take_no (x := n) hq hl64 hsk.2 hno).mono fun e w' he => ⟨_, he.1, rfl, he.2⟩) (fun v w' hR => ⟨_, _, hR.2⟩) (fun v w' hR => ?_)
      obtain ⟨rfl, hB1a⟩ := hR
      have hS1a : Sb W w b g cs at_ op n k w' := ⟨_, _, hB1a⟩
      (try simp only [Act.put, sA, sB, sC])
      refine t1 10 15 (.bool false) hS1a ?_
      (try simp only [Act.put, sA, sB, sC])
      refine t1 11 16 (.bool false) hS1a ?_
      (try simp only [Act.put, sA, sB, sC])
      refine t3 12 17 hS1a ?_
      (try simp only [Act.put, sA, sB, sC])
      refine t3 13 18 hS1a ?_
      (try simp only [Act.put, sA, sB, sC])
      refine t3 14 19 hS1a ?_
      (try simp only [Act.put, sA, sB, sC])
      refine t3 15 20 hS1a ?_
      (try simp only [Act.put, sA, sB, sC])
      refine t1 16 21 (.bool false) hS1a ?_
      (try simp only [Act.put, sA, sB, sC])
      refine t1 17 22 (.bool false) hS1a ?_
      (try simp only [Act.put, sA, sB, sC])
      refine t3 18 23 hS1a ?_
      (try simp only [Act.put, sA, sB, sC])
      refine t3 19 24 hS1a ?_
      (try simp only [Act.put, sA, sB, sC])
      refine t1 20 25 (.bool false) hS1a ?_
      (try simp only [Act.put, sA, sB, sC])
      refine t1 21 4 (.bool false) hS1a ?_
      (try simp only [Act.put, sA, sB, sC])
      refine wpL_done (by kernel_rfl) ?_ _
      go_wp2
      go_ret
      exact RuP.no hB1a.kp
  · rw [if_neg hw]
    have hwk : decide (0 < Bv.wid k) = false := by simpa using hw
    have hS0 : Sb W w b g cs at_ op n k _ := ⟨_, _, hB0⟩
    have HB0 := Lib.hid hB0
    go_enter Tryz.func50, Tryz.ntmps50
    go_wp2
    refine wp_region_L (S := Sb W w b g cs at_ op n k) (Z := []) (by kernel_rfl) ?_
    refine t1 0 5 (.pointer (some ⟨w.heap.size, 2, none⟩)) hS0 ?_
    (try simp only [Act.put, sA, sB, sC])
    refine t2 1 6 (.int .i64 k) (fun w' hw' => ?_) hS0 ?_
    · have hc0 := hw'.c 2 rfl; clear hw'; go_simp
    (try simp only [Act.put, sA, sB, sC])
    refine wpL_call (i := 2) (d := 7) (R := fun v w' => v = .bool false ∧ Bx W w b g cs at_ op n k (some l) qs w') (by kernel_rfl) rfl rfl (by kernel_rfl) (by kernel_rfl) ((hB0.kind k hwk).mono fun e w' he => ⟨_, he.1, rfl, he.2⟩) (fun v w' hR => ⟨_, _, hR.2⟩) (fun v w' hR => ?_)
    obtain ⟨rfl, hB0a⟩ := hR
    have hS0a : Sb W w b g cs at_ op n k w' := ⟨_, _, hB0a⟩
    (try simp only [Act.put, sA, sB, sC])
    refine t1 3 8 (.bool false) hS0a ?_
    (try simp only [Act.put, sA, sB, sC])
    refine t3 4 9 hS0a ?_
    (try simp only [Act.put, sA, sB, sC])
    refine t3 5 10 hS0a ?_
    (try simp only [Act.put, sA, sB, sC])
    refine t3 6 11 hS0a ?_
    (try simp only [Act.put, sA, sB, sC])
    refine t3 7 12 hS0a ?_
    (try simp only [Act.put, sA, sB, sC])
    refine t3 8 13 hS0a ?_
    (try simp only [Act.put, sA, sB, sC])
    refine t3 9 14 hS0a ?_
    (try simp only [Act.put, sA, sB, sC])
    refine t1 10 15 (.bool false) hS0a ?_
    (try simp only [Act.put, sA, sB, sC])
    refine t1 11 16 (.bool false) hS0a ?_
    (try simp only [Act.put, sA, sB, sC])
    refine t3 12 17 hS0a ?_
    (try simp only [Act.put, sA, sB, sC])
    refine t3 13 18 hS0a ?_
    (try simp only [Act.put, sA, sB, sC])
    refine t3 14 19 hS0a ?_
    (try simp only [Act.put, sA, sB, sC])
    refine t3 15 20 hS0a ?_
    (try simp only [Act.put, sA, sB, sC])
    refine t1 16 21 (.bool false) hS0a ?_
    (try simp only [Act.put, sA, sB, sC])
    refine t1 17 22 (.bool false) hS0a ?_
    (try simp only [Act.put, sA, sB, sC])
    refine t3 18 23 hS0a ?_
    (try simp only [Act.put, sA, sB, sC])
    refine t3 19 24 hS0a ?_
    (try simp only [Act.put, sA, sB, sC])
    refine t1 20 25 (.bool false) hS0a ?_
    (try simp only [Act.put, sA, sB, sC])
    refine t1 21 4 (.bool false) hS0a ?_
    (try simp only [Act.put, sA, sB, sC])
    refine wpL_done (by kernel_rfl) ?_ _
    go_wp2
    go_ret
    exact RuP.no hB0a.kp
end Go.Proofs.YtfbhflpjhbemlaaGreat

/- Package code: the rules unary (written by mkcf.py). -/
namespace Go.Proofs.YtfbhflpjhbemlaaGreat
open Go.RowKit Go.Maps Go.WideMaps
open Cd (Kn)

set_option maxHeartbeats 2000000 in
set_option maxRecDepth 100000 in
theorem unary_any (W : World) (b g : Nat) (cs : Array Value) (at_ : Nat) (c : Cd.Code) (l : List Int) (qs : Kn) (op n k : Int) (w : World) (h : At W w b g cs at_ c l qs) :
    Calls Tryz.prog 48 #[.pointer (some ⟨b, 0, none⟩), .agg #[.int .i64 op, .int .i64 n, .int .i64 k]] w (RuP W w b g cs at_ (if Bv.unB n k 0 then Cd.onTop l k (fun r => Cd.lead (k :: r) at_ 0 qs) else none)) := by
  have ha := h.ha
  have hls := h.sks
  have hq6 := h.q6
  have hco := h.co
  have hl64 := h.l64
  have hsk := h.sk
  have hs64 := h.s64
  have hq : 0 < qs.length := by omega
  have hB0 : Bx W w b g cs at_ op n k (some l) qs _ := Bx.new h.wk hq
  clear h
  cases hu : Bv.unB n k 0 with
  | true =>
    rw [if_pos rfl]
    rcases Cd.top_or l k with ⟨r, rfl⟩ | hno
    · rw [Cd.onTop_yes]
      have hl : r.length < 64 := hl64
      have hk9 := hsk.2 k (by simp)
      have hs : (r.length : Int) < c.stack := by have := hsk.1; simp only [List.length_cons] at this; omega
      have hS0 : Sb W w b g cs at_ op n k _ := ⟨_, _, hB0⟩
      have HB0 := Lib.hid hB0
      go_enter Tryz.func48, Tryz.ntmps48
      go_wp2
      refine wp_region_L (S := Sb W w b g cs at_ op n k) (Z := []) (by kernel_rfl) ?_
      refine t1 0 8 (.pointer (some ⟨w.heap.size, 1, none⟩)) hS0 ?_
      (try simp only [Act.put, sA, sB, sC])
      refine t2 1 9 (.int .i64 n) (fun w' hw' => ?_) hS0 ?_
      · have hc0 := hw'.c 1 rfl; clear hw'; go_simp
      (try simp only [Act.put, sA, sB, sC])
      refine t1 2 10 (.pointer (some ⟨w.heap.size, 2, none⟩)) hS0 ?_
      (try simp only [Act.put, sA, sB, sC])
      refine t2 3 11 (.int .i64 k) (fun w' hw' => ?_) hS0 ?_
      · have hc0 := hw'.c 2 rfl; clear hw'; go_simp
      (try simp only [Act.put, sA, sB, sC])
      refine t1 4 12 (.pointer (some ⟨w.heap.size, 2, none⟩)) hS0 ?_
      (try simp only [Act.put, sA, sB, sC])
      refine t2 5 13 (.int .i64 k) (fun w' hw' => ?_) hS0 ?_
      · have hc0 := hw'.c 2 rfl; clear hw'; go_simp
      (try simp only [Act.put, sA, sB, sC])
      refine wpL_call (i := 6) (d := 14) (R := fun v w' => v = .int .i64 0 ∧ Bx W w b g cs at_ op n k (some (k :: r)) qs w') (by kernel_rfl) rfl rfl (by kernel_rfl) (by kernel_rfl) ((hB0.zero k).mono fun e w' he => ⟨_, he.1, rfl, he.2⟩) (fun v w' hR => ⟨_, _, hR.2⟩) (fun v w' hR => ?_)
      obtain ⟨rfl, hB0a⟩ := hR
      have hS0a : Sb W w b g cs at_ op n k w' := ⟨_, _, hB0a⟩
      (try simp only [Act.put, sA, sB, sC])
      refine wpL_call (i := 7) (d := 15) (R := fun v w' => v = .tuple #[.int .i64 (Bv.unN n k 0), .bool true] ∧ Bx W w b g cs at_ op n k (some (k :: r)) qs w') (by kernel_rfl) rfl rfl (by kernel_rfl) (by kernel_rfl) ((hB0a.un hq n k 0 hu).mono fun e w' he => ⟨_, he.1, rfl, he.2⟩) (fun v w' hR => ⟨_, _, hR.2⟩) (fun v w' hR => ?_)
      obtain ⟨rfl, hB1a⟩ := hR
      have hS1a : Sb W w b g cs at_ op n k w' := ⟨_, _, hB1a⟩
      (try simp only [Act.put, sA, sB, sC])
      refine t1 8 7 (.tuple #[.int .i64 (Bv.unN n k 0), .bool true]) hS1a ?_
      (try simp only [Act.put, sA, sB, sC])
      refine t1 9 16 (.int .i64 (Bv.unN n k 0)) hS1a ?_
      (try simp only [Act.put, sA, sB, sC])
      refine t1 10 17 (.bool true) hS1a ?_
      (try simp only [Act.put, sA, sB, sC])
      refine t1 11 5 (.int .i64 (Bv.unN n k 0)) hS1a ?_
      (try simp only [Act.put, sA, sB, sC])
      refine t1 12 6 (.bool true) hS1a ?_
      (try simp only [Act.put, sA, sB, sC])
      refine wpL_done (by kernel_rfl) ?_ _
      have hBm := hB1a.drew
      have hSm : Sb W w b g cs at_ op n k _ := ⟨_, _, hBm⟩
      go_wp2
      refine wp_region_L (S := Sb W w b g cs at_ op n k) (Z := []) (by kernel_rfl) ?_
      refine t1 0 18 (.bool true) hSm ?_
      (try simp only [Act.put, sA, sB, sC])
      refine t1 1 19 (.bool true) hSm ?_
      (try simp only [Act.put, sA, sB, sC])
      refine t1 2 20 (.pointer (some ⟨b, 0, none⟩)) hSm ?_
      (try simp only [Act.put, sA, sB, sC])
      refine t1 3 21 (.pointer (some ⟨b, 0, none⟩)) hSm ?_
      (try simp only [Act.put, sA, sB, sC])
      refine t1 4 22 (.pointer (some ⟨b, 8, none⟩)) hSm ?_
      (try simp only [Act.put, sA, sB, sC])
      refine t1 5 23 (.pointer (some ⟨w.heap.size, 2, none⟩)) hSm ?_
      (try simp only [Act.put, sA, sB, sC])
      refine t2 6 24 (.int .i64 k) (fun w' hw' => ?_) hSm ?_
      · have hc0 := hw'.c 2 rfl; clear hw'; go_simp
      (try simp only [Act.put, sA, sB, sC])
      refine wpL_call (i := 7) (d := 25) (R := fun v w' => v = .bool true ∧ Bx W w b g cs at_ op n k (some r) qs w') (by kernel_rfl) rfl rfl (by kernel_rfl) (by kernel_rfl) ((hBm.take_yes hk9 hl).mono fun e w' he => ⟨_, he.1, rfl, he.2⟩) (fun v w' hR => ⟨_, _, hR.2⟩) (fun v w' hR => ?_)
      obtain ⟨rfl, hB2a⟩ := hR
      have hS2a : Sb W w b g cs at_ op n k w' := ⟨_, _, hB2a⟩
      (try simp only [Act.put, sA, sB, sC])
      refine t1 8 26 (.bool true) hS2a ?_
      (try simp only [Act.put, sA, sB, sC])
      refine t1 9 27 (.bool true) hS2a ?_
      (try simp only [Act.put, sA, sB, sC])
      refine t1 10 28 (.pointer (some ⟨b, 0, none⟩)) hS2a ?_
      (try simp only [Act.put, sA, sB, sC])
      refine t1 11 29 (.pointer (some ⟨w.heap.size, 2, none⟩)) hS2a ?_
      (try simp only [Act.put, sA, sB, sC])
      refine t2 12 30 (.int .i64 k) (fun w' hw' => ?_) hS2a ?_
      · have hc0 := hw'.c 2 rfl; clear hw'; go_simp
      (try simp only [Act.put, sA, sB, sC])
      refine wpL_call (i := 13) (d := 31) (R := fun v w' => v = .bool true ∧ Bx W w b g cs at_ op n k (some (k :: r)) qs w') (by kernel_rfl) rfl rfl (by kernel_rfl) (by kernel_rfl) ((hB2a.put_yes hco hk9 hl hs).mono fun e w' he => ⟨_, he.1, rfl, he.2⟩) (fun v w' hR => ⟨_, _, hR.2⟩) (fun v w' hR => ?_)
      obtain ⟨rfl, hB3a⟩ := hR
      have hS3a : Sb W w b g cs at_ op n k w' := ⟨_, _, hB3a⟩
      (try simp only [Act.put, sA, sB, sC])
      refine t1 14 32 (.bool true) hS3a ?_
      (try simp only [Act.put, sA, sB, sC])
      refine t1 15 33 (.bool true) hS3a ?_
      (try simp only [Act.put, sA, sB, sC])
      refine t1 16 34 (.pointer (some ⟨b, 0, none⟩)) hS3a ?_
      (try simp only [Act.put, sA, sB, sC])
      refine wpL_call (i := 17) (d := 35) (R := fun v w' => v = .bool (Cd.lead (k :: r) at_ 0 qs).isSome ∧ ∃ q', Bx W w b g cs at_ op n k (some (k :: r)) q' w' ∧ ∀ q, Cd.lead (k :: r) at_ 0 qs = some q → q' = q) (by kernel_rfl) rfl rfl (by kernel_rfl) (by kernel_rfl) ((hB3a.next ha hls hq6 (by (try simp only [List.length_cons]); omega)).mono fun e w' he => ⟨_, he.1, rfl, he.2⟩) (fun v w' hR => let ⟨q', h, _⟩ := hR.2; ⟨_, q', h⟩) (fun v w' hR => ?_)
      obtain ⟨rfl, hB4a⟩ := hR
      have hS4a : Sb W w b g cs at_ op n k w' := let ⟨q', h, _⟩ := hB4a; ⟨_, q', h⟩
      (try simp only [Act.put, sA, sB, sC])
      refine t1 18 36 (.bool (Cd.lead (k :: r) at_ 0 qs).isSome) hS4a ?_
      (try simp only [Act.put, sA, sB, sC])
      refine t1 19 4 (.bool (Cd.lead (k :: r) at_ 0 qs).isSome) hS4a ?_
      (try simp only [Act.put, sA, sB, sC])
      refine wpL_done (by kernel_rfl) ?_ _
      go_wp2
      go_ret
      exact Bx.ru hB4a
    · rw [Cd.onTop_no hno]
      have hS0 : Sb W w b g cs at_ op n k _ := ⟨_, _, hB0⟩
      have HB0 := Lib.hid hB0
      go_enter Tryz.func48, Tryz.ntmps48
      go_wp2
      refine wp_region_L (S := Sb W w b g cs at_ op n k) (Z := []) (by kernel_rfl) ?_
      refine t1 0 8 (.pointer (some ⟨w.heap.size, 1, none⟩)) hS0 ?_
      (try simp only [Act.put, sA, sB, sC])
      refine t2 1 9 (.int .i64 n) (fun w' hw' => ?_) hS0 ?_
      · have hc0 := hw'.c 1 rfl; clear hw'; go_simp
      (try simp only [Act.put, sA, sB, sC])
      refine t1 2 10 (.pointer (some ⟨w.heap.size, 2, none⟩)) hS0 ?_
      (try simp only [Act.put, sA, sB, sC])
      refine t2 3 11 (.int .i64 k) (fun w' hw' => ?_) hS0 ?_
      · have hc0 := hw'.c 2 rfl; clear hw'; go_simp
      (try simp only [Act.put, sA, sB, sC])
      refine t1 4 12 (.pointer (some ⟨w.heap.size, 2, none⟩)) hS0 ?_
      (try simp only [Act.put, sA, sB, sC])
      refine t2 5 13 (.int .i64 k) (fun w' hw' => ?_) hS0 ?_
      · have hc0 := hw'.c 2 rfl; clear hw'; go_simp
      (try simp only [Act.put, sA, sB, sC])
      refine wpL_call (i := 6) (d := 14) (R := fun v w' => v = .int .i64 0 ∧ Bx W w b g cs at_ op n k (some l) qs w') (by kernel_rfl) rfl rfl (by kernel_rfl) (by kernel_rfl) ((hB0.zero k).mono fun e w' he => ⟨_, he.1, rfl, he.2⟩) (fun v w' hR => ⟨_, _, hR.2⟩) (fun v w' hR => ?_)
      obtain ⟨rfl, hB0a⟩ := hR
      have hS0a : Sb W w b g cs at_ op n k w' := ⟨_, _, hB0a⟩
      (try simp only [Act.put, sA, sB, sC])
      refine wpL_call (i := 7) (d := 15) (R := fun v w' => v = .tuple #[.int .i64 (Bv.unN n k 0), .bool true] ∧ Bx W w b g cs at_ op n k (some l) qs w') (by kernel_rfl) rfl rfl (by kernel_rfl) (by kernel_rfl) ((hB0a.un hq n k 0 hu).mono fun e w' he => ⟨_, he.1, rfl, he.2⟩) (fun v w' hR => ⟨_, _, hR.2⟩) (fun v w' hR => ?_)
      obtain ⟨rfl, hB1a⟩ := hR
      have hS1a : Sb W w b g cs at_ op n k w' := ⟨_, _, hB1a⟩
      (try simp only [Act.put, sA, sB, sC])
      refine t1 8 7 (.tuple #[.int .i64 (Bv.unN n k 0), .bool true]) hS1a ?_
      (try simp only [Act.put, sA, sB, sC])
      refine t1 9 16 (.int .i64 (Bv.unN n k 0)) hS1a ?_
      (try simp only [Act.put, sA, sB, sC])
      refine t1 10 17 (.bool true) hS1a ?_
      (try simp only [Act.put, sA, sB, sC])
      refine t1 11 5 (.int .i64 (Bv.unN n k 0)) hS1a ?_
      (try simp only [Act.put, sA, sB, sC])
      refine t1 12 6 (.bool true) hS1a ?_
      (try simp only [Act.put, sA, sB, sC])
      refine wpL_done (by kernel_rfl) ?_ _
      have hBm := hB1a.drew
      have hSm : Sb W w b g cs at_ op n k _ := ⟨_, _, hBm⟩
      go_wp2
      refine wp_region_L (S := Sb W w b g cs at_ op n k) (Z := []) (by kernel_rfl) ?_
      refine t1 0 18 (.bool true) hSm ?_
      (try simp only [Act.put, sA, sB, sC])
      refine t1 1 19 (.bool true) hSm ?_
      (try simp only [Act.put, sA, sB, sC])
      refine t1 2 20 (.pointer (some ⟨b, 0, none⟩)) hSm ?_
      (try simp only [Act.put, sA, sB, sC])
      refine t1 3 21 (.pointer (some ⟨b, 0, none⟩)) hSm ?_
      (try simp only [Act.put, sA, sB, sC])
      refine t1 4 22 (.pointer (some ⟨b, 8, none⟩)) hSm ?_
      (try simp only [Act.put, sA, sB, sC])
      refine t1 5 23 (.pointer (some ⟨w.heap.size, 2, none⟩)) hSm ?_
      (try simp only [Act.put, sA, sB, sC])
      refine t2 6 24 (.int .i64 k) (fun w' hw' => ?_) hSm ?_
      · have hc0 := hw'.c 2 rfl; clear hw'; go_simp
      (try simp only [Act.put, sA, sB, sC])
      refine wpL_call (i := 7) (d := 25) (R := fun v w' => v = .bool false ∧ Bx W w b g cs at_ op n k (some l) qs w') (by kernel_rfl) rfl rfl (by kernel_rfl) (by kernel_rfl) ((hBm.take_no (x := k) hq hl64 hsk.2 hno).mono fun e w' he => ⟨_, he.1, rfl, he.2⟩) (fun v w' hR => ⟨_, _, hR.2⟩) (fun v w' hR => ?_)
      obtain ⟨rfl, hB2a⟩ := hR
      have hS2a : Sb W w b g cs at_ op n k w' := ⟨_, _, hB2a⟩
      (try simp only [Act.put, sA, sB, sC])
      refine t1 8 26 (.bool false) hS2a ?_
      (try simp only [Act.put, sA, sB, sC])
      refine t1 9 27 (.bool false) hS2a ?_
      (try simp only [Act.put, sA, sB, sC])
      refine t3 10 28 hS2a ?_
      (try simp only [Act.put, sA, sB, sC])
      refine t3 11 29 hS2a ?_
      (try simp only [Act.put, sA, sB, sC])
      refine t3 12 30 hS2a ?_
      (try simp only [Act.put, sA, sB, sC])
      refine t3 13 31 hS2a ?_
      (try simp only [Act.put, sA, sB, sC])
      refine t1 14 32 (.bool false) hS2a ?_
      (try simp only [Act.put, sA, sB, sC])
      refine t1 15 33 (.bool false) hS2a ?_
      (try simp only [Act.put, sA, sB, sC])
      refine t3 16 34 hS2a ?_
      (try simp only [Act.put, sA, sB, sC])
      refine t3 17 35 hS2a ?_
      (try simp only [Act.put, sA, sB, sC])
      refine t1 18 36 (.bool false) hS2a ?_
      (try simp only [Act.put, sA, sB, sC])
      refine t1 19 4 (.bool false) hS2a ?_
      (try simp only [Act.put, sA, sB, sC])
      refine wpL_done (by kernel_rfl) ?_ _
      go_wp2
      go_ret
      exact RuP.no hB2a.kp
  | false =>
    rw [if_neg (by simp)]
    have hS0 : Sb W w b g cs at_ op n k _ := ⟨_, _, hB0⟩
    have HB0 := Lib.hid hB0
    go_enter Tryz.func48, Tryz.ntmps48
    go_wp2
    refine wp_region_L (S := Sb W w b g cs at_ op n k) (Z := []) (by kernel_rfl) ?_
    refine t1 0 8 (.pointer (some ⟨w.heap.size, 1, none⟩)) hS0 ?_
    (try simp only [Act.put, sA, sB, sC])
    refine t2 1 9 (.int .i64 n) (fun w' hw' => ?_) hS0 ?_
    · have hc0 := hw'.c 1 rfl; clear hw'; go_simp
    (try simp only [Act.put, sA, sB, sC])
    refine t1 2 10 (.pointer (some ⟨w.heap.size, 2, none⟩)) hS0 ?_
    (try simp only [Act.put, sA, sB, sC])
    refine t2 3 11 (.int .i64 k) (fun w' hw' => ?_) hS0 ?_
    · have hc0 := hw'.c 2 rfl; clear hw'; go_simp
    (try simp only [Act.put, sA, sB, sC])
    refine t1 4 12 (.pointer (some ⟨w.heap.size, 2, none⟩)) hS0 ?_
    (try simp only [Act.put, sA, sB, sC])
    refine t2 5 13 (.int .i64 k) (fun w' hw' => ?_) hS0 ?_
    · have hc0 := hw'.c 2 rfl; clear hw'; go_simp
    (try simp only [Act.put, sA, sB, sC])
    refine wpL_call (i := 6) (d := 14) (R := fun v w' => v = .int .i64 0 ∧ Bx W w b g cs at_ op n k (some l) qs w') (by kernel_rfl) rfl rfl (by kernel_rfl) (by kernel_rfl) ((hB0.zero k).mono fun e w' he => ⟨_, he.1, rfl, he.2⟩) (fun v w' hR => ⟨_, _, hR.2⟩) (fun v w' hR => ?_)
    obtain ⟨rfl, hB0a⟩ := hR
    have hS0a : Sb W w b g cs at_ op n k w' := ⟨_, _, hB0a⟩
    (try simp only [Act.put, sA, sB, sC])
    refine wpL_call (i := 7) (d := 15) (R := fun v w' => v = .tuple #[.int .i64 (Bv.unN n k 0), .bool false] ∧ Bx W w b g cs at_ op n k (some l) qs w') (by kernel_rfl) rfl rfl (by kernel_rfl) (by kernel_rfl) ((hB0a.un hq n k 0 hu).mono fun e w' he => ⟨_, he.1, rfl, he.2⟩) (fun v w' hR => ⟨_, _, hR.2⟩) (fun v w' hR => ?_)
    obtain ⟨rfl, hB1a⟩ := hR
    have hS1a : Sb W w b g cs at_ op n k w' := ⟨_, _, hB1a⟩
    (try simp only [Act.put, sA, sB, sC])
    refine t1 8 7 (.tuple #[.int .i64 (Bv.unN n k 0), .bool false]) hS1a ?_
    (try simp only [Act.put, sA, sB, sC])
    refine t1 9 16 (.int .i64 (Bv.unN n k 0)) hS1a ?_
    (try simp only [Act.put, sA, sB, sC])
    refine t1 10 17 (.bool false) hS1a ?_
    (try simp only [Act.put, sA, sB, sC])
    refine t1 11 5 (.int .i64 (Bv.unN n k 0)) hS1a ?_
    (try simp only [Act.put, sA, sB, sC])
    refine t1 12 6 (.bool false) hS1a ?_
    (try simp only [Act.put, sA, sB, sC])
    refine wpL_done (by kernel_rfl) ?_ _
    have hBm := hB1a.drew
    have hSm : Sb W w b g cs at_ op n k _ := ⟨_, _, hBm⟩
    go_wp2
    refine wp_region_L (S := Sb W w b g cs at_ op n k) (Z := []) (by kernel_rfl) ?_
    refine t1 0 18 (.bool false) hSm ?_
    (try simp only [Act.put, sA, sB, sC])
    refine t1 1 19 (.bool false) hSm ?_
    (try simp only [Act.put, sA, sB, sC])
    refine t3 2 20 hSm ?_
    (try simp only [Act.put, sA, sB, sC])
    refine t3 3 21 hSm ?_
    (try simp only [Act.put, sA, sB, sC])
    refine t3 4 22 hSm ?_
    (try simp only [Act.put, sA, sB, sC])
    refine t3 5 23 hSm ?_
    (try simp only [Act.put, sA, sB, sC])
    refine t3 6 24 hSm ?_
    (try simp only [Act.put, sA, sB, sC])
    refine t3 7 25 hSm ?_
    (try simp only [Act.put, sA, sB, sC])
    refine t1 8 26 (.bool false) hSm ?_
    (try simp only [Act.put, sA, sB, sC])
    refine t1 9 27 (.bool false) hSm ?_
    (try simp only [Act.put, sA, sB, sC])
    refine t3 10 28 hSm ?_
    (try simp only [Act.put, sA, sB, sC])
    refine t3 11 29 hSm ?_
    (try simp only [Act.put, sA, sB, sC])
    refine t3 12 30 hSm ?_
    (try simp only [Act.put, sA, sB, sC])
    refine t3 13 31 hSm ?_
    (try simp only [Act.put, sA, sB, sC])
    refine t1 14 32 (.bool false) hSm ?_
    (try simp only [Act.put, sA, sB, sC])
    refine t1 15 33 (.bool false) hSm ?_
    (try simp only [Act.put, sA, sB, sC])
    refine t3 16 34 hSm ?_
    (try simp only [Act.put, sA, sB, sC])
    refine t3 17 35 hSm ?_
    (try simp only [Act.put, sA, sB, sC])
    refine t1 18 36 (.bool false) hSm ?_
    (try simp only [Act.put, sA, sB, sC])
    refine t1 19 4 (.bool false) hSm ?_
    (try simp only [Act.put, sA, sB, sC])
    refine wpL_done (by kernel_rfl) ?_ _
    go_wp2
    go_ret
    exact RuP.no hBm.kp
end Go.Proofs.YtfbhflpjhbemlaaGreat

/- Package code: the rules binary (written by mkcf.py). -/
namespace Go.Proofs.YtfbhflpjhbemlaaGreat
open Go.RowKit Go.Maps Go.WideMaps
open Cd (Kn)

set_option maxHeartbeats 2000000 in
set_option maxRecDepth 100000 in
theorem binary_any (W : World) (b g : Nat) (cs : Array Value) (at_ : Nat) (c : Cd.Code) (l : List Int) (qs : Kn) (op n k : Int) (w : World) (h : At W w b g cs at_ c l qs) :
    Calls Tryz.prog 49 #[.pointer (some ⟨b, 0, none⟩), .agg #[.int .i64 op, .int .i64 n, .int .i64 k]] w (RuP W w b g cs at_ (if Bv.binB n k 0 0 then Cd.onTop l k (fun r => Cd.onTop r k (fun r => Cd.lead (Bv.toK n k :: r) at_ 0 qs)) else none)) := by
  have ha := h.ha
  have hls := h.sks
  have hq6 := h.q6
  have hco := h.co
  have hl64 := h.l64
  have hsk := h.sk
  have hs64 := h.s64
  have hq : 0 < qs.length := by omega
  have hB0 : Bx W w b g cs at_ op n k (some l) qs _ := Bx.new h.wk hq
  clear h
  cases hu : Bv.binB n k 0 0 with
  | true =>
    rw [if_pos rfl]
    rcases Cd.top_or l k with ⟨r, rfl⟩ | hno
    · rw [Cd.onTop_yes]
      have hl : r.length < 64 := hl64
      have hk9 := hsk.2 k (by simp)
      rcases Cd.top_or r k with ⟨r, rfl⟩ | hno
      · rw [Cd.onTop_yes]
        have hl2 : r.length < 64 := by simp only [List.length_cons] at hl; omega
        have hs : (r.length : Int) < c.stack := by have := hsk.1; simp only [List.length_cons] at this; omega
        have hK : Bv.toK n k = Bv.binK n k 0 0 := by unfold Bv.binK; rw [if_pos hu]
        have hx9 : 1 ≤ Bv.binK n k 0 0 ∧ Bv.binK n k 0 0 ≤ 9 := by rw [← hK]; unfold Bv.toK; split <;> omega
        rw [hK]
        have hS0 : Sb W w b g cs at_ op n k _ := ⟨_, _, hB0⟩
        have HB0 := Lib.hid hB0
        go_enter Tryz.func49, Tryz.ntmps49
        go_wp2
        refine wp_region_L (S := Sb W w b g cs at_ op n k) (Z := []) (by kernel_rfl) ?_
        refine t1 0 9 (.pointer (some ⟨w.heap.size, 1, none⟩)) hS0 ?_
        (try simp only [Act.put, sA, sB, sC])
        refine t2 1 10 (.int .i64 n) (fun w' hw' => ?_) hS0 ?_
        · have hc0 := hw'.c 1 rfl; clear hw'; go_simp
        (try simp only [Act.put, sA, sB, sC])
        refine t1 2 11 (.pointer (some ⟨w.heap.size, 2, none⟩)) hS0 ?_
        (try simp only [Act.put, sA, sB, sC])
        refine t2 3 12 (.int .i64 k) (fun w' hw' => ?_) hS0 ?_
        · have hc0 := hw'.c 2 rfl; clear hw'; go_simp
        (try simp only [Act.put, sA, sB, sC])
        refine t1 4 13 (.pointer (some ⟨w.heap.size, 2, none⟩)) hS0 ?_
        (try simp only [Act.put, sA, sB, sC])
        refine t2 5 14 (.int .i64 k) (fun w' hw' => ?_) hS0 ?_
        · have hc0 := hw'.c 2 rfl; clear hw'; go_simp
        (try simp only [Act.put, sA, sB, sC])
        refine t1 7 16 (.pointer (some ⟨w.heap.size, 2, none⟩)) hS0 ?_
        (try simp only [Act.put, sA, sB, sC])
        refine t2 8 17 (.int .i64 k) (fun w' hw' => ?_) hS0 ?_
        · have hc0 := hw'.c 2 rfl; clear hw'; go_simp
        (try simp only [Act.put, sA, sB, sC])
        refine wpL_call (i := 6) (d := 15) (R := fun v w' => v = .int .i64 0 ∧ Bx W w b g cs at_ op n k (some (k :: k :: r)) qs w') (by kernel_rfl) rfl rfl (by kernel_rfl) (by kernel_rfl) ((hB0.zero k).mono fun e w' he => ⟨_, he.1, rfl, he.2⟩) (fun v w' hR => ⟨_, _, hR.2⟩) (fun v w' hR => ?_)
        obtain ⟨rfl, hB0a⟩ := hR
        have hS0a : Sb W w b g cs at_ op n k w' := ⟨_, _, hB0a⟩
        (try simp only [Act.put, sA, sB, sC])
        refine wpL_call (i := 9) (d := 18) (R := fun v w' => v = .int .i64 0 ∧ Bx W w b g cs at_ op n k (some (k :: k :: r)) qs w') (by kernel_rfl) rfl rfl (by kernel_rfl) (by kernel_rfl) ((hB0a.zero k).mono fun e w' he => ⟨_, he.1, rfl, he.2⟩) (fun v w' hR => ⟨_, _, hR.2⟩) (fun v w' hR => ?_)
        obtain ⟨rfl, hB1a⟩ := hR
        have hS1a : Sb W w b g cs at_ op n k w' := ⟨_, _, hB1a⟩
        (try simp only [Act.put, sA, sB, sC])
        refine wpL_call (i := 10) (d := 19) (R := fun v w' => v = .tuple #[.int .i64 (Bv.binN n k 0 0), .int .i64 (Bv.binK n k 0 0), .bool true] ∧ Bx W w b g cs at_ op n k (some (k :: k :: r)) qs w') (by kernel_rfl) rfl rfl (by kernel_rfl) (by kernel_rfl) ((hB1a.bin hq n k hu).mono fun e w' he => ⟨_, he.1, rfl, he.2⟩) (fun v w' hR => ⟨_, _, hR.2⟩) (fun v w' hR => ?_)
        obtain ⟨rfl, hB2a⟩ := hR
        have hS2a : Sb W w b g cs at_ op n k w' := ⟨_, _, hB2a⟩
        (try simp only [Act.put, sA, sB, sC])
        refine t1 11 8 (.tuple #[.int .i64 (Bv.binN n k 0 0), .int .i64 (Bv.binK n k 0 0), .bool true]) hS2a ?_
        (try simp only [Act.put, sA, sB, sC])
        refine t1 12 20 (.int .i64 (Bv.binN n k 0 0)) hS2a ?_
        (try simp only [Act.put, sA, sB, sC])
        refine t1 13 21 (.int .i64 (Bv.binK n k 0 0)) hS2a ?_
        (try simp only [Act.put, sA, sB, sC])
        refine t1 14 22 (.bool true) hS2a ?_
        (try simp only [Act.put, sA, sB, sC])
        refine t1 15 5 (.int .i64 (Bv.binN n k 0 0)) hS2a ?_
        (try simp only [Act.put, sA, sB, sC])
        refine t1 16 6 (.int .i64 (Bv.binK n k 0 0)) hS2a ?_
        (try simp only [Act.put, sA, sB, sC])
        refine t1 17 7 (.bool true) hS2a ?_
        (try simp only [Act.put, sA, sB, sC])
        refine wpL_done (by kernel_rfl) ?_ _
        have hBm := hB2a.drew
        have hSm : Sb W w b g cs at_ op n k _ := ⟨_, _, hBm⟩
        go_wp2
        refine wp_region_L (S := Sb W w b g cs at_ op n k) (Z := []) (by kernel_rfl) ?_
        refine t1 0 23 (.bool true) hSm ?_
        (try simp only [Act.put, sA, sB, sC])
        refine t1 1 24 (.bool true) hSm ?_
        (try simp only [Act.put, sA, sB, sC])
        refine t1 2 25 (.pointer (some ⟨b, 0, none⟩)) hSm ?_
        (try simp only [Act.put, sA, sB, sC])
        refine t1 3 26 (.pointer (some ⟨b, 0, none⟩)) hSm ?_
        (try simp only [Act.put, sA, sB, sC])
        refine t1 4 27 (.pointer (some ⟨b, 8, none⟩)) hSm ?_
        (try simp only [Act.put, sA, sB, sC])
        refine t1 5 28 (.pointer (some ⟨w.heap.size, 2, none⟩)) hSm ?_
        (try simp only [Act.put, sA, sB, sC])
        refine t2 6 29 (.int .i64 k) (fun w' hw' => ?_) hSm ?_
        · have hc0 := hw'.c 2 rfl; clear hw'; go_simp
        (try simp only [Act.put, sA, sB, sC])
        refine wpL_call (i := 7) (d := 30) (R := fun v w' => v = .bool true ∧ Bx W w b g cs at_ op n k (some (k :: r)) qs w') (by kernel_rfl) rfl rfl (by kernel_rfl) (by kernel_rfl) ((hBm.take_yes hk9 hl).mono fun e w' he => ⟨_, he.1, rfl, he.2⟩) (fun v w' hR => ⟨_, _, hR.2⟩) (fun v w' hR => ?_)
        obtain ⟨rfl, hB3a⟩ := hR
        have hS3a : Sb W w b g cs at_ op n k w' := ⟨_, _, hB3a⟩
        (try simp only [Act.put, sA, sB, sC])
        refine t1 8 31 (.bool true) hS3a ?_
        (try simp only [Act.put, sA, sB, sC])
        refine t1 9 32 (.bool true) hS3a ?_
        (try simp only [Act.put, sA, sB, sC])
        refine t1 10 33 (.pointer (some ⟨b, 0, none⟩)) hS3a ?_
        (try simp only [Act.put, sA, sB, sC])
        refine t1 11 34 (.pointer (some ⟨b, 0, none⟩)) hS3a ?_
        (try simp only [Act.put, sA, sB, sC])
        refine t1 12 35 (.pointer (some ⟨b, 8, none⟩)) hS3a ?_
        (try simp only [Act.put, sA, sB, sC])
        refine t1 13 36 (.pointer (some ⟨w.heap.size, 2, none⟩)) hS3a ?_
        (try simp only [Act.put, sA, sB, sC])
        refine t2 14 37 (.int .i64 k) (fun w' hw' => ?_) hS3a ?_
        · have hc0 := hw'.c 2 rfl; clear hw'; go_simp
        (try simp only [Act.put, sA, sB, sC])
        refine wpL_call (i := 15) (d := 38) (R := fun v w' => v = .bool true ∧ Bx W w b g cs at_ op n k (some r) qs w') (by kernel_rfl) rfl rfl (by kernel_rfl) (by kernel_rfl) ((hB3a.take_yes hk9 hl2).mono fun e w' he => ⟨_, he.1, rfl, he.2⟩) (fun v w' hR => ⟨_, _, hR.2⟩) (fun v w' hR => ?_)
        obtain ⟨rfl, hB4a⟩ := hR
        have hS4a : Sb W w b g cs at_ op n k w' := ⟨_, _, hB4a⟩
        (try simp only [Act.put, sA, sB, sC])
        refine t1 16 39 (.bool true) hS4a ?_
        (try simp only [Act.put, sA, sB, sC])
        refine t1 17 40 (.bool true) hS4a ?_
        (try simp only [Act.put, sA, sB, sC])
        refine t1 18 41 (.pointer (some ⟨b, 0, none⟩)) hS4a ?_
        (try simp only [Act.put, sA, sB, sC])
        refine t1 19 42 (.int .i64 (Bv.binK n k 0 0)) hS4a ?_
        (try simp only [Act.put, sA, sB, sC])
        refine wpL_call (i := 20) (d := 43) (R := fun v w' => v = .bool true ∧ Bx W w b g cs at_ op n k (some (Bv.binK n k 0 0 :: r)) qs w') (by kernel_rfl) rfl rfl (by kernel_rfl) (by kernel_rfl) ((hB4a.put_yes hco hx9 hl2 hs).mono fun e w' he => ⟨_, he.1, rfl, he.2⟩) (fun v w' hR => ⟨_, _, hR.2⟩) (fun v w' hR => ?_)
        obtain ⟨rfl, hB5a⟩ := hR
        have hS5a : Sb W w b g cs at_ op n k w' := ⟨_, _, hB5a⟩
        (try simp only [Act.put, sA, sB, sC])
        refine t1 21 44 (.bool true) hS5a ?_
        (try simp only [Act.put, sA, sB, sC])
        refine t1 22 45 (.bool true) hS5a ?_
        (try simp only [Act.put, sA, sB, sC])
        refine t1 23 46 (.pointer (some ⟨b, 0, none⟩)) hS5a ?_
        (try simp only [Act.put, sA, sB, sC])
        refine wpL_call (i := 24) (d := 47) (R := fun v w' => v = .bool (Cd.lead (Bv.binK n k 0 0 :: r) at_ 0 qs).isSome ∧ ∃ q', Bx W w b g cs at_ op n k (some (Bv.binK n k 0 0 :: r)) q' w' ∧ ∀ q, Cd.lead (Bv.binK n k 0 0 :: r) at_ 0 qs = some q → q' = q) (by kernel_rfl) rfl rfl (by kernel_rfl) (by kernel_rfl) ((hB5a.next ha hls hq6 (by (try simp only [List.length_cons]); omega)).mono fun e w' he => ⟨_, he.1, rfl, he.2⟩) (fun v w' hR => let ⟨q', h, _⟩ := hR.2; ⟨_, q', h⟩) (fun v w' hR => ?_)
        obtain ⟨rfl, hB6a⟩ := hR
        have hS6a : Sb W w b g cs at_ op n k w' := let ⟨q', h, _⟩ := hB6a; ⟨_, q', h⟩
        (try simp only [Act.put, sA, sB, sC])
        refine t1 25 48 (.bool (Cd.lead (Bv.binK n k 0 0 :: r) at_ 0 qs).isSome) hS6a ?_
        (try simp only [Act.put, sA, sB, sC])
        refine t1 26 4 (.bool (Cd.lead (Bv.binK n k 0 0 :: r) at_ 0 qs).isSome) hS6a ?_
        (try simp only [Act.put, sA, sB, sC])
        refine wpL_done (by kernel_rfl) ?_ _
        go_wp2
        go_ret
        exact Bx.ru hB6a
      · rw [Cd.onTop_no hno]
        have hl2 : r.length ≤ 64 := by omega
        have hall : ∀ x ∈ r, 1 ≤ x ∧ x ≤ 9 := fun x hx => hsk.2 x (by simp [hx])
        have hS0 : Sb W w b g cs at_ op n k _ := ⟨_, _, hB0⟩
        have HB0 := Lib.hid hB0
        go_enter Tryz.func49, Tryz.ntmps49
        go_wp2
        refine wp_region_L (S := Sb W w b g cs at_ op n k) (Z := []) (by kernel_rfl) ?_
        refine t1 0 9 (.pointer (some ⟨w.heap.size, 1, none⟩)) hS0 ?_
        (try simp only [Act.put, sA, sB, sC])
        refine t2 1 10 (.int .i64 n) (fun w' hw' => ?_) hS0 ?_
        · have hc0 := hw'.c 1 rfl; clear hw'; go_simp
        (try simp only [Act.put, sA, sB, sC])
        refine t1 2 11 (.pointer (some ⟨w.heap.size, 2, none⟩)) hS0 ?_
        (try simp only [Act.put, sA, sB, sC])
        refine t2 3 12 (.int .i64 k) (fun w' hw' => ?_) hS0 ?_
        · have hc0 := hw'.c 2 rfl; clear hw'; go_simp
        (try simp only [Act.put, sA, sB, sC])
        refine t1 4 13 (.pointer (some ⟨w.heap.size, 2, none⟩)) hS0 ?_
        (try simp only [Act.put, sA, sB, sC])
        refine t2 5 14 (.int .i64 k) (fun w' hw' => ?_) hS0 ?_
        · have hc0 := hw'.c 2 rfl; clear hw'; go_simp
        (try simp only [Act.put, sA, sB, sC])
        refine t1 7 16 (.pointer (some ⟨w.heap.size, 2, none⟩)) hS0 ?_
        (try simp only [Act.put, sA, sB, sC])
        refine t2 8 17 (.int .i64 k) (fun w' hw' => ?_) hS0 ?_
        · have hc0 := hw'.c 2 rfl; clear hw'; go_simp
        (try simp only [Act.put, sA, sB, sC])
        refine wpL_call (i := 6) (d := 15) (R := fun v w' => v = .int .i64 0 ∧ Bx W w b g cs at_ op n k (some (k :: r)) qs w') (by kernel_rfl) rfl rfl (by kernel_rfl) (by kernel_rfl) ((hB0.zero k).mono fun e w' he => ⟨_, he.1, rfl, he.2⟩) (fun v w' hR => ⟨_, _, hR.2⟩) (fun v w' hR => ?_)
        obtain ⟨rfl, hB0a⟩ := hR
        have hS0a : Sb W w b g cs at_ op n k w' := ⟨_, _, hB0a⟩
        (try simp only [Act.put, sA, sB, sC])
        refine wpL_call (i := 9) (d := 18) (R := fun v w' => v = .int .i64 0 ∧ Bx W w b g cs at_ op n k (some (k :: r)) qs w') (by kernel_rfl) rfl rfl (by kernel_rfl) (by kernel_rfl) ((hB0a.zero k).mono fun e w' he => ⟨_, he.1, rfl, he.2⟩) (fun v w' hR => ⟨_, _, hR.2⟩) (fun v w' hR => ?_)
        obtain ⟨rfl, hB1a⟩ := hR
        have hS1a : Sb W w b g cs at_ op n k w' := ⟨_, _, hB1a⟩
        (try simp only [Act.put, sA, sB, sC])
        refine wpL_call (i := 10) (d := 19) (R := fun v w' => v = .tuple #[.int .i64 (Bv.binN n k 0 0), .int .i64 (Bv.binK n k 0 0), .bool true] ∧ Bx W w b g cs at_ op n k (some (k :: r)) qs w') (by kernel_rfl) rfl rfl (by kernel_rfl) (by kernel_rfl) ((hB1a.bin hq n k hu).mono fun e w' he => ⟨_, he.1, rfl, he.2⟩) (fun v w' hR => ⟨_, _, hR.2⟩) (fun v w' hR => ?_)
        obtain ⟨rfl, hB2a⟩ := hR
        have hS2a : Sb W w b g cs at_ op n k w' := ⟨_, _, hB2a⟩
        (try simp only [Act.put, sA, sB, sC])
        refine t1 11 8 (.tuple #[.int .i64 (Bv.binN n k 0 0), .int .i64 (Bv.binK n k 0 0), .bool true]) hS2a ?_
        (try simp only [Act.put, sA, sB, sC])
        refine t1 12 20 (.int .i64 (Bv.binN n k 0 0)) hS2a ?_
        (try simp only [Act.put, sA, sB, sC])
        refine t1 13 21 (.int .i64 (Bv.binK n k 0 0)) hS2a ?_
        (try simp only [Act.put, sA, sB, sC])
        refine t1 14 22 (.bool true) hS2a ?_
        (try simp only [Act.put, sA, sB, sC])
        refine t1 15 5 (.int .i64 (Bv.binN n k 0 0)) hS2a ?_
        (try simp only [Act.put, sA, sB, sC])
        refine t1 16 6 (.int .i64 (Bv.binK n k 0 0)) hS2a ?_
        (try simp only [Act.put, sA, sB, sC])
        refine t1 17 7 (.bool true) hS2a ?_
        (try simp only [Act.put, sA, sB, sC])
        refine wpL_done (by kernel_rfl) ?_ _
        have hBm := hB2a.drew
        have hSm : Sb W w b g cs at_ op n k _ := ⟨_, _, hBm⟩
        go_wp2
        refine wp_region_L (S := Sb W w b g cs at_ op n k) (Z := []) (by kernel_rfl) ?_
        refine t1 0 23 (.bool true) hSm ?_
        (try simp only [Act.put, sA, sB, sC])
        refine t1 1 24 (.bool true) hSm ?_
        (try simp only [Act.put, sA, sB, sC])
        refine t1 2 25 (.pointer (some ⟨b, 0, none⟩)) hSm ?_
        (try simp only [Act.put, sA, sB, sC])
        refine t1 3 26 (.pointer (some ⟨b, 0, none⟩)) hSm ?_
        (try simp only [Act.put, sA, sB, sC])
        refine t1 4 27 (.pointer (some ⟨b, 8, none⟩)) hSm ?_
        (try simp only [Act.put, sA, sB, sC])
        refine t1 5 28 (.pointer (some ⟨w.heap.size, 2, none⟩)) hSm ?_
        (try simp only [Act.put, sA, sB, sC])
        refine t2 6 29 (.int .i64 k) (fun w' hw' => ?_) hSm ?_
        · have hc0 := hw'.c 2 rfl; clear hw'; go_simp
        (try simp only [Act.put, sA, sB, sC])
        refine wpL_call (i := 7) (d := 30) (R := fun v w' => v = .bool true ∧ Bx W w b g cs at_ op n k (some r) qs w') (by kernel_rfl) rfl rfl (by kernel_rfl) (by kernel_rfl) ((hBm.take_yes hk9 hl).mono fun e w' he => ⟨_, he.1, rfl, he.2⟩) (fun v w' hR => ⟨_, _, hR.2⟩) (fun v w' hR => ?_)
        obtain ⟨rfl, hB3a⟩ := hR
        have hS3a : Sb W w b g cs at_ op n k w' := ⟨_, _, hB3a⟩
        (try simp only [Act.put, sA, sB, sC])
        refine t1 8 31 (.bool true) hS3a ?_
        (try simp only [Act.put, sA, sB, sC])
        refine t1 9 32 (.bool true) hS3a ?_
        (try simp only [Act.put, sA, sB, sC])
        refine t1 10 33 (.pointer (some ⟨b, 0, none⟩)) hS3a ?_
        (try simp only [Act.put, sA, sB, sC])
        refine t1 11 34 (.pointer (some ⟨b, 0, none⟩)) hS3a ?_
        (try simp only [Act.put, sA, sB, sC])
        refine t1 12 35 (.pointer (some ⟨b, 8, none⟩)) hS3a ?_
        (try simp only [Act.put, sA, sB, sC])
        refine t1 13 36 (.pointer (some ⟨w.heap.size, 2, none⟩)) hS3a ?_
        (try simp only [Act.put, sA, sB, sC])
        refine t2 14 37 (.int .i64 k) (fun w' hw' => ?_) hS3a ?_
        · have hc0 := hw'.c 2 rfl; clear hw'; go_simp
        (try simp only [Act.put, sA, sB, sC])
        refine wpL_call (i := 15) (d := 38) (R := fun v w' => v = .bool false ∧ Bx W w b g cs at_ op n k (some r) qs w') (by kernel_rfl) rfl rfl (by kernel_rfl) (by kernel_rfl) ((hB3a.take_no (x := k) hq hl2 hall hno).mono fun e w' he => ⟨_, he.1, rfl, he.2⟩) (fun v w' hR => ⟨_, _, hR.2⟩) (fun v w' hR => ?_)
        obtain ⟨rfl, hB4a⟩ := hR
        have hS4a : Sb W w b g cs at_ op n k w' := ⟨_, _, hB4a⟩
        (try simp only [Act.put, sA, sB, sC])
        refine t1 16 39 (.bool false) hS4a ?_
        (try simp only [Act.put, sA, sB, sC])
        refine t1 17 40 (.bool false) hS4a ?_
        (try simp only [Act.put, sA, sB, sC])
        refine t3 18 41 hS4a ?_
        (try simp only [Act.put, sA, sB, sC])
        refine t3 19 42 hS4a ?_
        (try simp only [Act.put, sA, sB, sC])
        refine t3 20 43 hS4a ?_
        (try simp only [Act.put, sA, sB, sC])
        refine t1 21 44 (.bool false) hS4a ?_
        (try simp only [Act.put, sA, sB, sC])
        refine t1 22 45 (.bool false) hS4a ?_
        (try simp only [Act.put, sA, sB, sC])
        refine t3 23 46 hS4a ?_
        (try simp only [Act.put, sA, sB, sC])
        refine t3 24 47 hS4a ?_
        (try simp only [Act.put, sA, sB, sC])
        refine t1 25 48 (.bool false) hS4a ?_
        (try simp only [Act.put, sA, sB, sC])
        refine t1 26 4 (.bool false) hS4a ?_
        (try simp only [Act.put, sA, sB, sC])
        refine wpL_done (by kernel_rfl) ?_ _
        go_wp2
        go_ret
        exact RuP.no hB4a.kp
    · rw [Cd.onTop_no hno]
      have hS0 : Sb W w b g cs at_ op n k _ := ⟨_, _, hB0⟩
      have HB0 := Lib.hid hB0
      go_enter Tryz.func49, Tryz.ntmps49
      go_wp2
      refine wp_region_L (S := Sb W w b g cs at_ op n k) (Z := []) (by kernel_rfl) ?_
      refine t1 0 9 (.pointer (some ⟨w.heap.size, 1, none⟩)) hS0 ?_
      (try simp only [Act.put, sA, sB, sC])
      refine t2 1 10 (.int .i64 n) (fun w' hw' => ?_) hS0 ?_
      · have hc0 := hw'.c 1 rfl; clear hw'; go_simp
      (try simp only [Act.put, sA, sB, sC])
      refine t1 2 11 (.pointer (some ⟨w.heap.size, 2, none⟩)) hS0 ?_
      (try simp only [Act.put, sA, sB, sC])
      refine t2 3 12 (.int .i64 k) (fun w' hw' => ?_) hS0 ?_
      · have hc0 := hw'.c 2 rfl; clear hw'; go_simp
      (try simp only [Act.put, sA, sB, sC])
      refine t1 4 13 (.pointer (some ⟨w.heap.size, 2, none⟩)) hS0 ?_
      (try simp only [Act.put, sA, sB, sC])
      refine t2 5 14 (.int .i64 k) (fun w' hw' => ?_) hS0 ?_
      · have hc0 := hw'.c 2 rfl; clear hw'; go_simp
      (try simp only [Act.put, sA, sB, sC])
      refine t1 7 16 (.pointer (some ⟨w.heap.size, 2, none⟩)) hS0 ?_
      (try simp only [Act.put, sA, sB, sC])
      refine t2 8 17 (.int .i64 k) (fun w' hw' => ?_) hS0 ?_
      · have hc0 := hw'.c 2 rfl; clear hw'; go_simp
      (try simp only [Act.put, sA, sB, sC])
      refine wpL_call (i := 6) (d := 15) (R := fun v w' => v = .int .i64 0 ∧ Bx W w b g cs at_ op n k (some l) qs w') (by kernel_rfl) rfl rfl (by kernel_rfl) (by kernel_rfl) ((hB0.zero k).mono fun e w' he => ⟨_, he.1, rfl, he.2⟩) (fun v w' hR => ⟨_, _, hR.2⟩) (fun v w' hR => ?_)
      obtain ⟨rfl, hB0a⟩ := hR
      have hS0a : Sb W w b g cs at_ op n k w' := ⟨_, _, hB0a⟩
      (try simp only [Act.put, sA, sB, sC])
      refine wpL_call (i := 9) (d := 18) (R := fun v w' => v = .int .i64 0 ∧ Bx W w b g cs at_ op n k (some l) qs w') (by kernel_rfl) rfl rfl (by kernel_rfl) (by kernel_rfl) ((hB0a.zero k).mono fun e w' he => ⟨_, he.1, rfl, he.2⟩) (fun v w' hR => ⟨_, _, hR.2⟩) (fun v w' hR => ?_)
      obtain ⟨rfl, hB1a⟩ := hR
      have hS1a : Sb W w b g cs at_ op n k w' := ⟨_, _, hB1a⟩
      (try simp only [Act.put, sA, sB, sC])
      refine wpL_call (i := 10) (d := 19) (R := fun v w' => v = .tuple #[.int .i64 (Bv.binN n k 0 0), .int .i64 (Bv.binK n k 0 0), .bool true] ∧ Bx W w b g cs at_ op n k (some l) qs w') (by kernel_rfl) rfl rfl (by kernel_rfl) (by kernel_rfl) ((hB1a.bin hq n k hu).mono fun e w' he => ⟨_, he.1, rfl, he.2⟩) (fun v w' hR => ⟨_, _, hR.2⟩) (fun v w' hR => ?_)
      obtain ⟨rfl, hB2a⟩ := hR
      have hS2a : Sb W w b g cs at_ op n k w' := ⟨_, _, hB2a⟩
      (try simp only [Act.put, sA, sB, sC])
      refine t1 11 8 (.tuple #[.int .i64 (Bv.binN n k 0 0), .int .i64 (Bv.binK n k 0 0), .bool true]) hS2a ?_
      (try simp only [Act.put, sA, sB, sC])
      refine t1 12 20 (.int .i64 (Bv.binN n k 0 0)) hS2a ?_
      (try simp only [Act.put, sA, sB, sC])
      refine t1 13 21 (.int .i64 (Bv.binK n k 0 0)) hS2a ?_
      (try simp only [Act.put, sA, sB, sC])
      refine t1 14 22 (.bool true) hS2a ?_
      (try simp only [Act.put, sA, sB, sC])
      refine t1 15 5 (.int .i64 (Bv.binN n k 0 0)) hS2a ?_
      (try simp only [Act.put, sA, sB, sC])
      refine t1 16 6 (.int .i64 (Bv.binK n k 0 0)) hS2a ?_
      (try simp only [Act.put, sA, sB, sC])
      refine t1 17 7 (.bool true) hS2a ?_
      (try simp only [Act.put, sA, sB, sC])
      refine wpL_done (by kernel_rfl) ?_ _
      have hBm := hB2a.drew
      have hSm : Sb W w b g cs at_ op n k _ := ⟨_, _, hBm⟩
      go_wp2
      refine wp_region_L (S := Sb W w b g cs at_ op n k) (Z := []) (by kernel_rfl) ?_
      refine t1 0 23 (.bool true) hSm ?_
      (try simp only [Act.put, sA, sB, sC])
      refine t1 1 24 (.bool true) hSm ?_
      (try simp only [Act.put, sA, sB, sC])
      refine t1 2 25 (.pointer (some ⟨b, 0, none⟩)) hSm ?_
      (try simp only [Act.put, sA, sB, sC])
      refine t1 3 26 (.pointer (some ⟨b, 0, none⟩)) hSm ?_
      (try simp only [Act.put, sA, sB, sC])
      refine t1 4 27 (.pointer (some ⟨b, 8, none⟩)) hSm ?_
      (try simp only [Act.put, sA, sB, sC])
      refine t1 5 28 (.pointer (some ⟨w.heap.size, 2, none⟩)) hSm ?_
      (try simp only [Act.put, sA, sB, sC])
      refine t2 6 29 (.int .i64 k) (fun w' hw' => ?_) hSm ?_
      · have hc0 := hw'.c 2 rfl; clear hw'; go_simp
      (try simp only [Act.put, sA, sB, sC])
      refine wpL_call (i := 7) (d := 30) (R := fun v w' => v = .bool false ∧ Bx W w b g cs at_ op n k (some l) qs w') (by kernel_rfl) rfl rfl (by kernel_rfl) (by kernel_rfl) ((hBm.take_no (x := k) hq hl64 hsk.2 hno).mono fun e w' he => ⟨_, he.1, rfl, he.2⟩) (fun v w' hR => ⟨_, _, hR.2⟩) (fun v w' hR => ?_)
      obtain ⟨rfl, hB3a⟩ := hR
      have hS3a : Sb W w b g cs at_ op n k w' := ⟨_, _, hB3a⟩
      (try simp only [Act.put, sA, sB, sC])
      refine t1 8 31 (.bool false) hS3a ?_
      (try simp only [Act.put, sA, sB, sC])
      refine t1 9 32 (.bool false) hS3a ?_
      (try simp only [Act.put, sA, sB, sC])
      refine t3 10 33 hS3a ?_
      (try simp only [Act.put, sA, sB, sC])
      refine t3 11 34 hS3a ?_
      (try simp only [Act.put, sA, sB, sC])
      refine t3 12 35 hS3a ?_
      (try simp only [Act.put, sA, sB, sC])
      refine t3 13 36 hS3a ?_
      (try simp only [Act.put, sA, sB, sC])
      refine t3 14 37 hS3a ?_
      (try simp only [Act.put, sA, sB, sC])
      refine t3 15 38 hS3a ?_
      (try simp only [Act.put, sA, sB, sC])
      refine t1 16 39 (.bool false) hS3a ?_
      (try simp only [Act.put, sA, sB, sC])
      refine t1 17 40 (.bool false) hS3a ?_
      (try simp only [Act.put, sA, sB, sC])
      refine t3 18 41 hS3a ?_
      (try simp only [Act.put, sA, sB, sC])
      refine t3 19 42 hS3a ?_
      (try simp only [Act.put, sA, sB, sC])
      refine t3 20 43 hS3a ?_
      (try simp only [Act.put, sA, sB, sC])
      refine t1 21 44 (.bool false) hS3a ?_
      (try simp only [Act.put, sA, sB, sC])
      refine t1 22 45 (.bool false) hS3a ?_
      (try simp only [Act.put, sA, sB, sC])
      refine t3 23 46 hS3a ?_
      (try simp only [Act.put, sA, sB, sC])
      refine t3 24 47 hS3a ?_
      (try simp only [Act.put, sA, sB, sC])
      refine t1 25 48 (.bool false) hS3a ?_
      (try simp only [Act.put, sA, sB, sC])
      refine t1 26 4 (.bool false) hS3a ?_
      (try simp only [Act.put, sA, sB, sC])
      refine wpL_done (by kernel_rfl) ?_ _
      go_wp2
      go_ret
      exact RuP.no hB3a.kp
  | false =>
    rw [if_neg (by simp)]
    have hS0 : Sb W w b g cs at_ op n k _ := ⟨_, _, hB0⟩
    have HB0 := Lib.hid hB0
    go_enter Tryz.func49, Tryz.ntmps49
    go_wp2
    refine wp_region_L (S := Sb W w b g cs at_ op n k) (Z := []) (by kernel_rfl) ?_
    refine t1 0 9 (.pointer (some ⟨w.heap.size, 1, none⟩)) hS0 ?_
    (try simp only [Act.put, sA, sB, sC])
    refine t2 1 10 (.int .i64 n) (fun w' hw' => ?_) hS0 ?_
    · have hc0 := hw'.c 1 rfl; clear hw'; go_simp
    (try simp only [Act.put, sA, sB, sC])
    refine t1 2 11 (.pointer (some ⟨w.heap.size, 2, none⟩)) hS0 ?_
    (try simp only [Act.put, sA, sB, sC])
    refine t2 3 12 (.int .i64 k) (fun w' hw' => ?_) hS0 ?_
    · have hc0 := hw'.c 2 rfl; clear hw'; go_simp
    (try simp only [Act.put, sA, sB, sC])
    refine t1 4 13 (.pointer (some ⟨w.heap.size, 2, none⟩)) hS0 ?_
    (try simp only [Act.put, sA, sB, sC])
    refine t2 5 14 (.int .i64 k) (fun w' hw' => ?_) hS0 ?_
    · have hc0 := hw'.c 2 rfl; clear hw'; go_simp
    (try simp only [Act.put, sA, sB, sC])
    refine t1 7 16 (.pointer (some ⟨w.heap.size, 2, none⟩)) hS0 ?_
    (try simp only [Act.put, sA, sB, sC])
    refine t2 8 17 (.int .i64 k) (fun w' hw' => ?_) hS0 ?_
    · have hc0 := hw'.c 2 rfl; clear hw'; go_simp
    (try simp only [Act.put, sA, sB, sC])
    refine wpL_call (i := 6) (d := 15) (R := fun v w' => v = .int .i64 0 ∧ Bx W w b g cs at_ op n k (some l) qs w') (by kernel_rfl) rfl rfl (by kernel_rfl) (by kernel_rfl) ((hB0.zero k).mono fun e w' he => ⟨_, he.1, rfl, he.2⟩) (fun v w' hR => ⟨_, _, hR.2⟩) (fun v w' hR => ?_)
    obtain ⟨rfl, hB0a⟩ := hR
    have hS0a : Sb W w b g cs at_ op n k w' := ⟨_, _, hB0a⟩
    (try simp only [Act.put, sA, sB, sC])
    refine wpL_call (i := 9) (d := 18) (R := fun v w' => v = .int .i64 0 ∧ Bx W w b g cs at_ op n k (some l) qs w') (by kernel_rfl) rfl rfl (by kernel_rfl) (by kernel_rfl) ((hB0a.zero k).mono fun e w' he => ⟨_, he.1, rfl, he.2⟩) (fun v w' hR => ⟨_, _, hR.2⟩) (fun v w' hR => ?_)
    obtain ⟨rfl, hB1a⟩ := hR
    have hS1a : Sb W w b g cs at_ op n k w' := ⟨_, _, hB1a⟩
    (try simp only [Act.put, sA, sB, sC])
    refine wpL_call (i := 10) (d := 19) (R := fun v w' => v = .tuple #[.int .i64 (Bv.binN n k 0 0), .int .i64 (Bv.binK n k 0 0), .bool false] ∧ Bx W w b g cs at_ op n k (some l) qs w') (by kernel_rfl) rfl rfl (by kernel_rfl) (by kernel_rfl) ((hB1a.bin hq n k hu).mono fun e w' he => ⟨_, he.1, rfl, he.2⟩) (fun v w' hR => ⟨_, _, hR.2⟩) (fun v w' hR => ?_)
    obtain ⟨rfl, hB2a⟩ := hR
    have hS2a : Sb W w b g cs at_ op n k w' := ⟨_, _, hB2a⟩
    (try simp only [Act.put, sA, sB, sC])
    refine t1 11 8 (.tuple #[.int .i64 (Bv.binN n k 0 0), .int .i64 (Bv.binK n k 0 0), .bool false]) hS2a ?_
    (try simp only [Act.put, sA, sB, sC])
    refine t1 12 20 (.int .i64 (Bv.binN n k 0 0)) hS2a ?_
    (try simp only [Act.put, sA, sB, sC])
    refine t1 13 21 (.int .i64 (Bv.binK n k 0 0)) hS2a ?_
    (try simp only [Act.put, sA, sB, sC])
    refine t1 14 22 (.bool false) hS2a ?_
    (try simp only [Act.put, sA, sB, sC])
    refine t1 15 5 (.int .i64 (Bv.binN n k 0 0)) hS2a ?_
    (try simp only [Act.put, sA, sB, sC])
    refine t1 16 6 (.int .i64 (Bv.binK n k 0 0)) hS2a ?_
    (try simp only [Act.put, sA, sB, sC])
    refine t1 17 7 (.bool false) hS2a ?_
    (try simp only [Act.put, sA, sB, sC])
    refine wpL_done (by kernel_rfl) ?_ _
    have hBm := hB2a.drew
    have hSm : Sb W w b g cs at_ op n k _ := ⟨_, _, hBm⟩
    go_wp2
    refine wp_region_L (S := Sb W w b g cs at_ op n k) (Z := []) (by kernel_rfl) ?_
    refine t1 0 23 (.bool false) hSm ?_
    (try simp only [Act.put, sA, sB, sC])
    refine t1 1 24 (.bool false) hSm ?_
    (try simp only [Act.put, sA, sB, sC])
    refine t3 2 25 hSm ?_
    (try simp only [Act.put, sA, sB, sC])
    refine t3 3 26 hSm ?_
    (try simp only [Act.put, sA, sB, sC])
    refine t3 4 27 hSm ?_
    (try simp only [Act.put, sA, sB, sC])
    refine t3 5 28 hSm ?_
    (try simp only [Act.put, sA, sB, sC])
    refine t3 6 29 hSm ?_
    (try simp only [Act.put, sA, sB, sC])
    refine t3 7 30 hSm ?_
    (try simp only [Act.put, sA, sB, sC])
    refine t1 8 31 (.bool false) hSm ?_
    (try simp only [Act.put, sA, sB, sC])
    refine t1 9 32 (.bool false) hSm ?_
    (try simp only [Act.put, sA, sB, sC])
    refine t3 10 33 hSm ?_
    (try simp only [Act.put, sA, sB, sC])
    refine t3 11 34 hSm ?_
    (try simp only [Act.put, sA, sB, sC])
    refine t3 12 35 hSm ?_
    (try simp only [Act.put, sA, sB, sC])
    refine t3 13 36 hSm ?_
    (try simp only [Act.put, sA, sB, sC])
    refine t3 14 37 hSm ?_
    (try simp only [Act.put, sA, sB, sC])
    refine t3 15 38 hSm ?_
    (try simp only [Act.put, sA, sB, sC])
    refine t1 16 39 (.bool false) hSm ?_
    (try simp only [Act.put, sA, sB, sC])
    refine t1 17 40 (.bool false) hSm ?_
    (try simp only [Act.put, sA, sB, sC])
    refine t3 18 41 hSm ?_
    (try simp only [Act.put, sA, sB, sC])
    refine t3 19 42 hSm ?_
    (try simp only [Act.put, sA, sB, sC])
    refine t3 20 43 hSm ?_
    (try simp only [Act.put, sA, sB, sC])
    refine t1 21 44 (.bool false) hSm ?_
    (try simp only [Act.put, sA, sB, sC])
    refine t1 22 45 (.bool false) hSm ?_
    (try simp only [Act.put, sA, sB, sC])
    refine t3 23 46 hSm ?_
    (try simp only [Act.put, sA, sB, sC])
    refine t3 24 47 hSm ?_
    (try simp only [Act.put, sA, sB, sC])
    refine t1 25 48 (.bool false) hSm ?_
    (try simp only [Act.put, sA, sB, sC])
    refine t1 26 4 (.bool false) hSm ?_
    (try simp only [Act.put, sA, sB, sC])
    refine wpL_done (by kernel_rfl) ?_ _
    go_wp2
    go_ret
    exact RuP.no hBm.kp
end Go.Proofs.YtfbhflpjhbemlaaGreat
