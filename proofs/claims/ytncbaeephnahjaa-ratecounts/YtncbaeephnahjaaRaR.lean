/- rate.Active, and the laws' small functions. -/
import Derived.Test.YtncbaeephnahjaaRaQ
namespace Go.Proofs.Ytncbaeephnahjaa
open Go.RowKit Go.Maps Go.WideMaps Go.Shelf
open Rat (okP baseF baseM toN per off isOn cst tot Best)

theorem num_any (n : Int) (w : World) : Calls Try.prog 10 #[.int .i64 n] w fun e w' => e = .returned (.int .i64 n) ∧ w' = w := by
  go_enter Try.func10, Try.ntmps10
  go_wp2
  go_ret
  exact ⟨rfl, rfl⟩
def actI (p o t : Int) : Bool := decide (1 ≤ p) && decide (0 ≤ o) && decide (0 ≤ t) && decide (t % p = o)
theorem active_any (p o t : Int) (hp : p ≤ 9223372036854775807) (_ht : t ≤ 9223372036854775807) (w : World) : Calls Try.prog 12 #[.int .i64 p, .int .i64 o, .int .i64 t] w fun e w' => e = .returned (.bool (actI p o t)) ∧ w' = w := by
  have HA := Lib.hid (show actI p o t = (decide (1 ≤ p) && decide (0 ≤ o) && decide (0 ≤ t) && decide (t % p = o)) from rfl)
  obtain ⟨A, hA⟩ : ∃ A, A = actI p o t := ⟨_, rfl⟩
  rw [← hA]
  have HAA := Lib.hid hA
  clear hA
  by_cases h1 : 1 ≤ p
  · by_cases h2 : 0 ≤ o
    · by_cases h3 : 0 ≤ t
      · have HE : Hid (A = decide (t % p = o)) := Lib.hid (by rw [HAA.out, HA.out]; simp [h1, h2, h3])
        have e1 : t.tmod p = t % p := Int.tmod_eq_emod_of_nonneg h3
        have hm0 := Int.emod_nonneg t (show p ≠ 0 by omega)
        have hm1 := Int.emod_lt_of_pos t (show 0 < p by omega)
        go_enter Try.func12, Try.ntmps12
        go_wp2
        go_ret
        rw [HE.out]
        exact ⟨rb (by rw [Bool.eq_iff_iff]; simp), rfl⟩
      · have HE : Hid (A = false) := Lib.hid (by rw [HAA.out, HA.out]; simp [h3])
        go_enter Try.func12, Try.ntmps12
        go_wp2
        go_ret
        rw [HE.out]
        exact ⟨rfl, rfl⟩
    · have HE : Hid (A = false) := Lib.hid (by rw [HAA.out, HA.out]; simp [h2])
      go_enter Try.func12, Try.ntmps12
      go_wp2
      go_ret
      rw [HE.out]
      exact ⟨rfl, rfl⟩
  · have HE : Hid (A = false) := Lib.hid (by rw [HAA.out, HA.out]; simp [h1])
    go_enter Try.func12, Try.ntmps12
    go_wp2
    go_ret
    rw [HE.out]
    exact ⟨rfl, rfl⟩
theorem max1_any (n : Int) (w : World) : Calls Try.prog 11 #[.int .i64 n] w fun e w' => e = .returned (.int .i64 (if n < 1 then 1 else n)) ∧ w' = w := by
  by_cases h : n < 1
  · rw [if_pos h]
    go_enter Try.func11, Try.ntmps11
    go_wp2
    go_ret
    exact ⟨rfl, rfl⟩
  · rw [if_neg h]
    go_enter Try.func11, Try.ntmps11
    go_wp2
    go_ret
    exact ⟨rfl, rfl⟩

/-- a list that was just written down -/
theorem pairs2 (W : World) (g : Nat) (a b c d : Int) (t : TypeId) (h : W.heap[g]? = some (.cells #[.int .i64 a, .int .i64 b, .int .i64 c, .int .i64 d] t (0, 0))) : PairsI W (some ⟨g, 0, none⟩) [(a, b), (c, d)] := by
  intro i x hx
  refine ⟨g, 0, rfl, ?_⟩
  match i, hx with
  | 0, hx =>
    simp at hx
    subst hx
    exact ⟨cell_of_row _ _ 0 _ _ _ h, cell_of_row _ _ 1 _ _ _ h⟩
  | 1, hx =>
    simp at hx
    subst hx
    exact ⟨cell_of_row _ _ 2 _ _ _ h, cell_of_row _ _ 3 _ _ _ h⟩
  | i + 2, hx => simp at hx
theorem ints2 (W : World) (g : Nat) (a b : Int) (t : TypeId) (h : W.heap[g]? = some (.cells #[.int .i64 a, .int .i64 b] t (0, 0))) : IntsAt W (some ⟨g, 0, none⟩) [a, b] := by
  intro i x hx
  refine ⟨g, 0, rfl, ?_⟩
  match i, hx with
  | 0, hx => simp at hx; subst hx; exact cell_of_row _ _ 0 _ _ _ h
  | 1, hx => simp at hx; subst hx; exact cell_of_row _ _ 1 _ _ _ h
  | i + 2, hx => simp at hx
def exL : List (Int × Int) := [(2, 0), (3, 1)]
def exC : List Int := [5, 7]
theorem exBase : baseM exL = (6, 0) := by decide
theorem exBest {most at_ : Nat} (h : Best exL exC most at_) : most = 12 ∧ at_ = 4 := by
  obtain ⟨h1, h2, h3, h4⟩ := h
  rw [exBase] at h1 h3
  have e4 : tot exL exC 4 = 12 := by decide
  have h5 := h3 4 (by decide)
  rw [e4] at h5
  have : ∀ t, t < 6 → t ≠ 4 → tot exL exC t < 12 := by decide
  have ha : at_ = 4 := by
    refine Decidable.byContradiction fun hne => ?_
    have := this at_ h1 hne
    omega
  rw [ha, e4] at h2
  exact ⟨h2.symm, ha⟩

set_option maxRecDepth 20000 in
set_option maxHeartbeats 2000000 in
theorem alive_any (w : World) : Calls Try.prog 7 #[] w fun e w' => e = .returned (.bool true) ∧ w.grownBy w' none := by
  have hnum := num_any 0
  have hact := active_any 3 1 4 (by decide) (by decide)
  rw [show actI 3 1 4 = true by decide] at hact
  have ht : Calls Try.prog 8 #[.slice (some ⟨w.heap.size, 0, none⟩) 2 2] (w.alloc (.cells #[.int .i64 2, .int .i64 0, .int .i64 3, .int .i64 1] 35)) (TPost exL (w.alloc (.cells #[.int .i64 2, .int .i64 0, .int .i64 3, .int .i64 1] 35))) := table_any exL (some ⟨w.heap.size, 0, none⟩) 2 _ (pairs2 _ _ _ _ _ _ _ (heap_alloc_new w _)) (by decide)
  have hl : ∀ V : World, Calls Try.prog 13 #[.slice (some ⟨V.heap.size, 0, none⟩) 2 2, .slice (some ⟨V.heap.size + 1, 0, none⟩) 2 2] ((V.alloc (.cells #[.int .i64 2, .int .i64 0, .int .i64 3, .int .i64 1] 35)).alloc (.cells #[.int .i64 5, .int .i64 7] 3)) (LPost exL exC ((V.alloc (.cells #[.int .i64 2, .int .i64 0, .int .i64 3, .int .i64 1] 35)).alloc (.cells #[.int .i64 5, .int .i64 7] 3))) := fun V =>
    load_any exL exC (some ⟨V.heap.size, 0, none⟩) (some ⟨V.heap.size + 1, 0, none⟩) 2 2 _ (pairs2 _ _ _ _ _ _ _ ((heap_alloc_old _ _ (by simp)).trans (heap_alloc_new V _))) (ints2 _ _ _ _ _ (by have := heap_alloc_new (V.alloc (.cells #[.int .i64 2, .int .i64 0, .int .i64 3, .int .i64 1] 35)) (.cells #[.int .i64 5, .int .i64 7] 3); rwa [World.size_alloc] at this)) (by decide) (by decide)
  go_enter Try.func7, Try.ntmps7
  go_wp2_with fail
  refine ht.mono ?_
  clear ht
  rintro e w1 ⟨hg, hh⟩
  rw [exBase] at hh
  rcases hh with ⟨h0, _⟩ | ⟨tb, _, _, rfl, hT⟩
  · exact absurd rfl h0
  · have HG := Lib.hid (gtrans (World.grownBy_alloc w _ none) hg)
    clear hg
    have HT := Lib.hid hT
    clear hT
    dsimp only
    go_wp2_with fail
    refine (hl w1).mono ?_
    clear hl
    rintro e w2 ⟨hg, hh⟩
    rw [exBase] at hh
    rcases hh with ⟨h0, _⟩ | ⟨_, h0, _⟩ | ⟨_, _, most, at_, hb, rfl⟩
    · exact absurd rfl h0
    · exact absurd (by decide) h0
    · obtain ⟨rfl, rfl⟩ := exBest hb
      have hg2 := gtrans (gtrans (World.grownBy_alloc w1 _ none) (World.grownBy_alloc _ _ none)) hg
      obtain ⟨⟨arr, a1, a2⟩, a3⟩ := HT.out
      obtain ⟨r4, b1, b2⟩ := a3 4 (by decide)
      obtain ⟨r5, b3, b4⟩ := a3 5 (by decide)
      have c4 := hg2.cell ((cell_of_row w1 tb 4 _ _ _ a1).trans (a2 4 (by decide))) (by simp)
      have c5 := hg2.cell ((cell_of_row w1 tb 5 _ _ _ a1).trans (a2 5 (by decide))) (by simp)
      have d0 := hg2.cell ((cell_of_row w1 _ 0 _ _ _ b1).trans (b2 0 (by decide))) (by simp)
      have d1 := hg2.cell ((cell_of_row w1 _ 1 _ _ _ b1).trans (b2 1 (by decide))) (by simp)
      have d2 := hg2.cell ((cell_of_row w1 _ 0 _ _ _ b3).trans (b4 0 (by decide))) (by simp)
      rw [show isOn exL 4 0 = true by decide] at d0
      rw [show isOn exL 4 1 = true by decide] at d1
      rw [show isOn exL 5 0 = false by decide] at d2
      have HG2 := Lib.hid (gtrans HG.out hg2)
      clear hg hg2 a1 a2 a3 b1 b2 b3 b4 hb HT HG
      go_wp2_with (first | (go_at_call 10; refine (hnum _).mono ?_; rintro e w3 ⟨rfl, rfl⟩) | (go_at_call 12; refine (hact _).mono ?_; rintro e w3 ⟨rfl, rfl⟩))
      go_ret
      exact ⟨rfl, HG2.out⟩
end Go.Proofs.Ytncbaeephnahjaa
