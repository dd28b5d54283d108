/- CnfOf: a formula's clauses are struck out, which the other does not feel. -/
import Derived.Test.YtdhgopcfjomjaaaDoorCoD
namespace Go.Proofs.YtdhgopcfjomjaaaDoor
open Go.RowKit Go.Maps Go.WideMaps
open Cn (I64)

/-- numbers that may be struck out -/
def IntsIn (B : Nat) (w : World) (a : Option Addr) (n : Nat) : Prop := ∀ k, k < n → ∃ b o y, a = some ⟨b, o, none⟩ ∧ B ≤ b ∧ w.cell? ⟨b, o + k, none⟩ = some (.int .i64 y) ∧ w.frozen? ⟨b, o + k, none⟩ = false
structure Spo (B b9 : Nat) (va : Option Addr) (c2 : Nat) (L : List (List Int)) (WB wr : World) (i : Nat) : Prop where
  bl : Below B WB wr
  c9 : wr.cell? ⟨b9, 1, none⟩ = some (.slice va L.length c2)
  rows : ∀ j l, i ≤ j → L[j]? = some l → ∃ b o ra rc, va = some ⟨b, o, none⟩ ∧ B ≤ b ∧ b < b9 ∧ wr.cell? ⟨b, o + j, none⟩ = some (.slice ra l.length rc) ∧ wr.frozen? ⟨b, o + j, none⟩ = false ∧ IntsIn B wr ra l.length
section
variable {B b9 : Nat} {va : Option Addr} {c2 : Nat} {L : List (List Int)} {WB wr : World} {i : Nat}
theorem cell_keep {w : World} {p a : Addr} {u v x : Value} (h : w.cell? a = some u) (hp : w.cell? p = some x) (hn : x ≠ u) : (w.setCell p v).cell? a = some u := by
  have hne : p ≠ a := fun e => by rw [e, h] at hp; exact hn (Option.some.inj hp).symm
  exact (World.cell?_setCell_other w p a v hne).trans h
theorem IntsIn.set {w : World} {ra : Option Addr} {n : Nat} (h : IntsIn B w ra n) {p : Addr} {x v : Value} (hp : w.cell? p = some x) (hv : (∃ y, v = .int .i64 y) ∨ ∀ y, x ≠ .int .i64 y) : IntsIn B (w.setCell p v) ra n := fun k hk => by
  obtain ⟨b, o, y, e, h1, h2, h3⟩ := h k hk
  by_cases he : p = ⟨b, o + k, none⟩
  · subst he
    rcases hv with ⟨y', rfl⟩ | hv
    · exact ⟨b, o, y', e, h1, World.cell?_setCell_same _ _ _ h2, (World.frozen?_setCell ..).trans h3⟩
    · rw [h2] at hp
      exact absurd (Option.some.inj hp).symm (hv y)
  · exact ⟨b, o, y, e, h1, (World.cell?_setCell_other w p _ v he).trans h2, (World.frozen?_setCell ..).trans h3⟩
theorem Spo.inner (h : Spo B b9 va c2 L WB wr i) {b o : Nat} {y : Int} (hb : B ≤ b) (hc : wr.cell? ⟨b, o, none⟩ = some (.int .i64 y)) : Spo B b9 va c2 L WB (wr.setCell ⟨b, o, none⟩ (.int .i64 0)) i :=
  ⟨h.bl.setCell hb _, cell_keep h.c9 hc (by simp), fun j l hj hl => by
    obtain ⟨b', o', ra, rc, e, h1, h2, h3, h4, h5⟩ := h.rows j l hj hl
    exact ⟨b', o', ra, rc, e, h1, h2, cell_keep h3 hc (by simp), (World.frozen?_setCell ..).trans h4, h5.set hc (.inl ⟨0, rfl⟩)⟩⟩
theorem Spo.outer (h : Spo B b9 va c2 L WB wr i) {b o : Nat} {ra : Option Addr} {n rc : Nat} (hb : B ≤ b) (hb9 : b < b9) (hva : va = some ⟨b, o, none⟩) (hc : wr.cell? ⟨b, o + i, none⟩ = some (.slice ra n rc)) : Spo B b9 va c2 L WB (wr.setCell ⟨b, o + i, none⟩ (.slice none 0 0)) (i + 1) :=
  ⟨h.bl.setCell hb _, (World.cell?_setCell_far wr _ _ _ (by simp; omega)).trans h.c9, fun j l hj hl => by
    obtain ⟨b', o', ra', rc', e, h1, h2, h3, h4, h5⟩ := h.rows j l (by omega) hl
    rw [hva] at e
    cases e
    refine ⟨b, o, ra', rc', hva, h1, h2, (World.cell?_setCell_other wr _ _ _ (fun e => ?_)).trans h3, (World.frozen?_setCell ..).trans h4, h5.set hc (.inr (fun y => by simp))⟩
    have := congrArg Addr.off e
    simp at this
    omega⟩
theorem Spo.next (h : Spo B b9 va c2 L WB wr i) : Spo B b9 va c2 L WB wr (i + 1) := ⟨h.bl, h.c9, fun j l hj hl => h.rows j l (by omega) hl⟩
/-- as it begins -/
theorem spo_begin (hr : RowsIn (B ≤ ·) WB va L) (hlt : ∀ (j : Nat) (l : List Int), L[j]? = some l → ∀ b o, va = some ⟨b, o, none⟩ → b < b9) (hc9 : WB.cell? ⟨b9, 1, none⟩ = some (.slice va L.length c2)) : Spo B b9 va c2 L WB WB 0 :=
  ⟨Below.refl _ _, hc9, fun j l _ hl => by
    obtain ⟨b, o, ra, rc, e, h1, h2, h3, h4, _⟩ := hr j l hl
    refine ⟨b, o, ra, rc, e, h1, hlt j l hl b o e, h2, h3, fun k hk => ?_⟩
    obtain ⟨b', o', e', g1, g2, g3⟩ := h4 k l[k] (List.getElem?_eq_getElem hk)
    exact ⟨b', o', _, e', g1, g2, g3⟩⟩
end
end Go.Proofs.YtdhgopcfjomjaaaDoor
