/- cnf: ofGate. -/
import Derived.Test.YtdhgopcfjomjaaaDoorCnH
namespace Go.Proofs.YtdhgopcfjomjaaaDoor
open Go.RowKit Go.Maps Go.WideMaps
open Cn (I64)

abbrev ints (l : List Int) : List Value := l.map (Value.int .i64)
theorem al2 (W : World) (a b : Obj) : ((W.alloc a).alloc b).heap[W.heap.size]? = some a ∧ ((W.alloc a).alloc b).heap[W.heap.size + 1]? = some b := by
  have h1 := heap_alloc_new (W.alloc a) b
  rw [World.size_alloc] at h1
  exact ⟨(heap_alloc_old _ _ (by simp)).trans (heap_alloc_new W a), h1⟩
theorem al4 (W : World) (a b c d : Obj) : ((((W.alloc a).alloc b).alloc c).alloc d).heap[W.heap.size]? = some a ∧ ((((W.alloc a).alloc b).alloc c).alloc d).heap[W.heap.size + 1]? = some b ∧ ((((W.alloc a).alloc b).alloc c).alloc d).heap[W.heap.size + 2]? = some c ∧ ((((W.alloc a).alloc b).alloc c).alloc d).heap[W.heap.size + 3]? = some d := by
  have h1 := al2 W a b
  have h2 := al2 ((W.alloc a).alloc b) c d
  simp only [World.size_alloc] at h2
  refine ⟨?_, ?_, h2.1, h2.2⟩
  · exact (heap_alloc_old _ _ (by simp; omega)).trans ((heap_alloc_old _ _ (by simp; omega)).trans h1.1)
  · exact (heap_alloc_old _ _ (by simp)).trans ((heap_alloc_old _ _ (by simp)).trans h1.2)
theorem numsIn_row {w : World} {g : Nat} {l : List Int} {p : Nat → Prop} (h : w.heap[g]? = some (.cells (ints l).toArray 3 (0, 0))) (hp : p g) : NumsIn p w (some ⟨g, 0, none⟩) l := fun i n hi =>
  ⟨g, 0, rfl, hp, by rw [Nat.zero_add, row_cell h, List.getElem?_map, hi]; rfl, frozen_of_row w g (0 + i) _ _ h⟩
theorem rowIn_one {w : World} {g h : Nat} {l : List Int} {p : Nat → Prop} (ho : w.heap[g]? = some (.cells #[.slice (some ⟨h, 0, none⟩) l.length l.length] 36 (0, 0))) (hi : w.heap[h]? = some (.cells (ints l).toArray 3 (0, 0))) (pg : p g) (ph : p h) (hl : l.length ≤ 3) (h64 : ∀ y ∈ l, I64 y) :
    RowsIn p w (some ⟨g, 0, none⟩) [l] := fun i x hx => by
  cases i with
  | succ i => simp at hx
  | zero =>
    simp at hx
    subst hx
    exact ⟨g, 0, _, _, rfl, pg, cell_of_row w g 0 _ _ _ ho, frozen_of_row w g 0 _ _ ho, numsIn_row hi ph, Nat.le_refl _, by omega, h64⟩
theorem rowIn_three {w : World} {g h1 h2 h3 : Nat} {l1 l2 l3 : List Int} {p : Nat → Prop} (ho : w.heap[g]? = some (.cells #[.slice (some ⟨h1, 0, none⟩) l1.length l1.length, .slice (some ⟨h2, 0, none⟩) l2.length l2.length, .slice (some ⟨h3, 0, none⟩) l3.length l3.length] 36 (0, 0)))
    (i1 : w.heap[h1]? = some (.cells (ints l1).toArray 3 (0, 0))) (i2 : w.heap[h2]? = some (.cells (ints l2).toArray 3 (0, 0))) (i3 : w.heap[h3]? = some (.cells (ints l3).toArray 3 (0, 0))) (pg : p g) (p1 : p h1) (p2 : p h2) (p3 : p h3)
    (hl : l1.length ≤ 3 ∧ l2.length ≤ 3 ∧ l3.length ≤ 3) (h64 : (∀ y ∈ l1, I64 y) ∧ (∀ y ∈ l2, I64 y) ∧ (∀ y ∈ l3, I64 y)) :
    RowsIn p w (some ⟨g, 0, none⟩) [l1, l2, l3] := fun i x hx => by
  match i, hx with
  | 0, hx =>
    simp at hx
    subst hx
    exact ⟨g, 0, _, _, rfl, pg, cell_of_row w g 0 _ _ _ ho, frozen_of_row w g 0 _ _ ho, numsIn_row i1 p1, Nat.le_refl _, by omega, h64.1⟩
  | 1, hx =>
    simp at hx
    subst hx
    exact ⟨g, 0, _, _, rfl, pg, cell_of_row w g 1 _ _ _ ho, frozen_of_row w g 1 _ _ ho, numsIn_row i2 p2, Nat.le_refl _, by omega, h64.2.1⟩
  | 2, hx =>
    simp at hx
    subst hx
    exact ⟨g, 0, _, _, rfl, pg, cell_of_row w g 2 _ _ _ ho, frozen_of_row w g 2 _ _ ho, numsIn_row i3 p3, Nat.le_refl _, by omega, h64.2.2⟩
  | i + 3, hx => simp at hx

/-- what ofGate answers -/
def OgP (w : World) (T : List (List Int)) (e : Ending) (w' : World) : Prop := ∃ (va : Option Addr) (c : Nat) (X : List Nat), e = .returned (.slice va T.length c) ∧ T.length ≤ c ∧ RowsIn (· ∈ X) w' va T ∧ (∀ k ∈ X, w.heap.size ≤ k ∧ k < w'.heap.size) ∧ w.grownBy w' none

theorem lit_i64 {x : Int} (h0 : 0 ≤ x) (h1 : x ≤ 1000000) : I64 (Cn.lit x) ∧ I64 (-Cn.lit x) ∧ -1000001 ≤ Cn.lit x ∧ Cn.lit x ≤ 1000001 := by
  unfold Cn.lit I64
  split <;> omega
set_option maxHeartbeats 2000000 in
set_option maxRecDepth 20000 in
theorem ofGate_any (g : Cn.Gt) (i : Nat) (hi : i ≤ 200000) (hg : Cn.gok i g = true) (w : World) :
    Calls Tryd.prog 42 #[.agg #[.int .i64 g.op, .int .i64 g.a, .int .i64 g.b], .int .i64 ((i : Int) + 1)] w (OgP w (Cn.gcl ((i : Int) + 1) g)) := by
  obtain ⟨op, x, y⟩ := g
  obtain ⟨T, hT⟩ : ∃ T, T = Cn.gcl ((i : Int) + 1) ⟨op, x, y⟩ := ⟨_, rfl⟩
  rw [← hT]
  have hw1 : wrap64 (-((i : Int) + 1)) = -((i : Int) + 1) := by unfold wrap64; omega
  unfold Cn.gcl at hT
  simp only at *
  have hg0 := World.grownBy_alloc w (.cells #[.int .i64 op, .int .i64 x, .int .i64 y] 48) none
  have hv64 : I64 ((i : Int) + 1) ∧ I64 (-((i : Int) + 1)) := by unfold I64; omega
  by_cases h1 : op = 1
  · rw [if_pos h1] at hT
    subst h1
    have HT := Lib.hid hT
    have HV := Lib.hid hv64
    have HG := Lib.hid hg0
    clear hT hg hv64 hg0
    obtain ⟨V, hV⟩ : ∃ V, V = -((i : Int) + 1) := ⟨_, rfl⟩
    rw [← hV] at hw1
    have HVE := Lib.hid hV
    go_enter Tryd.func42, Tryd.ntmps42
    go_wp2
    go_ret
    obtain ⟨W, hW⟩ : ∃ W, W = w.alloc (.cells #[.int .i64 1, .int .i64 x, .int .i64 y] 48) := ⟨_, rfl⟩
    have hs : W.heap.size = w.heap.size + 1 := by rw [hW]; simp
    have ha := al2 W (.cells #[.int .i64 V] 3) (.cells #[.slice (some ⟨w.heap.size + 1, 0, none⟩) 1 1] 36)
    rw [HT.out]
    refine ⟨some ⟨w.heap.size + 1 + 1, 0, none⟩, 1, [w.heap.size + 1, w.heap.size + 1 + 1], rfl, Nat.le_refl _, ?_, fun k hk => ?_, ?_⟩
    · rw [hs, hW] at ha
      rw [← HVE.out]
      refine rowIn_one (l := [V]) (h := w.heap.size + 1) ?_ ?_ (by simp) (by simp) (by simp) (fun y hy => by simp at hy; subst hy; rw [HVE.out]; exact HV.out.2)
      · exact ha.2
      · exact ha.1
    · simp only [List.mem_cons, List.not_mem_nil, or_false] at hk
      simp only [World.size_alloc]
      omega
    · exact HG.out.trans ((World.grownBy_alloc _ _ none).trans (World.grownBy_alloc _ _ none))
  · rw [if_neg h1] at hT
    have f1 : (op == 1) = false := by simp [h1]
    by_cases h3 : op = 3
    · rw [if_pos h3] at hT
      subst h3
      have hg' : 0 ≤ x ∧ x < 2 * i ∧ 0 ≤ y ∧ y < 2 * i := by
        simp [Cn.gok] at hg
        omega
      have hl := fun z (hz : z = x ∨ z = y) V => literalOf_any z (by rcases hz with rfl | rfl <;> omega) (by rcases hz with rfl | rfl <;> omega) V
      have ba := lit_i64 hg'.1 (show x ≤ 1000000 by omega)
      have bb := lit_i64 hg'.2.2.1 (show y ≤ 1000000 by omega)
      have wa : wrap64 (-Cn.lit x) = -Cn.lit x := by unfold wrap64; omega
      have wb : wrap64 (-Cn.lit y) = -Cn.lit y := by unfold wrap64; omega
      obtain ⟨U, hU⟩ : ∃ U, U = (i : Int) + 1 := ⟨_, rfl⟩
      rw [← hU] at hT hv64 hw1 ⊢
      have HT := Lib.hid hT
      have HB := Lib.hid (And.intro ba (And.intro bb hv64))
      have HG := Lib.hid hg0
      have HW := Lib.hid (And.intro hw1 (And.intro wa wb))
      clear hT hg hv64 hg0 hg' ba bb h1 hU wa wb hw1
      go_enter Tryd.func42, Tryd.ntmps42
      go_upto_region 5 with fail
      go_quiet (first | (go_at_call 43; refine Calls.quiet_of_same (hl _ (by first | exact .inl rfl | exact .inr rfl) _)))
      have hw1 := HW.out.1
      have wa := HW.out.2.1
      have wb := HW.out.2.2
      go_wp2
      go_ret
      obtain ⟨W, hW⟩ : ∃ W, W = (w.alloc (.cells #[.int .i64 3, .int .i64 x, .int .i64 y] 48)).drewN nq := ⟨_, rfl⟩
      have hs : W.heap.size = w.heap.size + 1 := by rw [hW]; exact World.size_alloc ..
      have hgW : w.grownBy W none := by rw [hW]; exact HG.out.trans (gdrewN _ _ _)
      have ha := al4 W (.cells #[.int .i64 (-U), .int .i64 (Cn.lit x)] 3) (.cells #[.int .i64 (-U), .int .i64 (Cn.lit y)] 3) (.cells #[.int .i64 U, .int .i64 (-Cn.lit x), .int .i64 (-Cn.lit y)] 3)
        (.cells #[.slice (some ⟨w.heap.size + 1, 0, none⟩) 2 2, .slice (some ⟨w.heap.size + 1 + 1, 0, none⟩) 2 2, .slice (some ⟨w.heap.size + 1 + 1 + 1, 0, none⟩) 3 3] 36)
      rw [HT.out, ← hW]
      rw [hs] at ha
      obtain ⟨⟨xa, xb, _, _⟩, ⟨ya, yb, _, _⟩, ua, ub⟩ := HB.out
      refine ⟨some ⟨w.heap.size + 1 + 1 + 1 + 1, 0, none⟩, 3, [w.heap.size + 1, w.heap.size + 1 + 1, w.heap.size + 1 + 1 + 1, w.heap.size + 1 + 1 + 1 + 1], rfl, Nat.le_refl _, ?_, fun k hk => ?_, ?_⟩
      · refine rowIn_three (l1 := [-U, Cn.lit x]) (l2 := [-U, Cn.lit y]) (l3 := [U, -Cn.lit x, -Cn.lit y]) (h1 := w.heap.size + 1) (h2 := w.heap.size + 1 + 1) (h3 := w.heap.size + 1 + 1 + 1) ha.2.2.2 ha.1 ha.2.1 ha.2.2.1 (by simp) (by simp) (by simp) (by simp) (by simp) ⟨?_, ?_, ?_⟩
        · intro z hz; simp at hz; rcases hz with rfl | rfl <;> assumption
        · intro z hz; simp at hz; rcases hz with rfl | rfl <;> assumption
        · intro z hz; simp at hz; rcases hz with rfl | rfl | rfl <;> assumption
      · simp only [List.mem_cons, List.not_mem_nil, or_false] at hk
        simp only [World.size_alloc]
        omega
      · exact hgW.trans ((World.grownBy_alloc _ _ none).trans ((World.grownBy_alloc _ _ none).trans ((World.grownBy_alloc _ _ none).trans (World.grownBy_alloc _ _ none))))
    · rw [if_neg h3] at hT
      have f3 : (op == 3) = false := by simp [h3]
      have HT := Lib.hid hT
      have HG := Lib.hid hg0
      clear hT hg hv64 hg0 h1 h3
      go_enter Tryd.func42, Tryd.ntmps42
      go_wp2
      go_ret
      rw [HT.out]
      exact ⟨none, 0, [], rfl, Nat.le_refl _, RowsIn.nil _ _ _, (fun k hk => by cases hk), HG.out⟩
end Go.Proofs.YtdhgopcfjomjaaaDoor
