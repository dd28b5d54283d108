/- Stage 21: how long the ticks are that come in, where all that comes in is of bounded bulk. -/
import Derived.Test.YthcejnfnamhpfaaGreatExL
import Derived.Test.YthcejnfnamhpfaaGreatRows
namespace Go.Proofs.YthcejnfnamhpfaaGreat
open Go.RowKit Go.Maps Go.WideMaps Go.Deep

theorem bulk_one {H : Type} (d : DataW H) : 1 ≤ Rows.uptoBulk d := by
  cases d with
  | lit l => cases l <;> simp [Rows.uptoBulk]
  | nil => simp [Rows.uptoBulk]
  | ptr d => simp [Rows.uptoBulk]
  | slice elems spare => simp [Rows.uptoBulk]
  | agg parts => simp [Rows.uptoBulk]
  | iface t d => simp [Rows.uptoBulk]
  | map entries => simp [Rows.uptoBulk]
  | held h => simp [Rows.uptoBulk]
theorem bulk_part {H : Type} {d : DataW H} : ∀ {l : List (DataW H)}, d ∈ l → Rows.uptoBulk d ≤ Rows.uptoBulkAll l
  | [], h => by cases h
  | x :: r, h => by
    simp only [Rows.uptoBulkAll]
    rcases List.mem_cons.1 h with rfl | h
    · omega
    · have := bulk_part h; omega
theorem bulk_len {H : Type} : ∀ (l : List (DataW H)), l.length ≤ Rows.uptoBulkAll l
  | [] => by simp [Rows.uptoBulkAll]
  | x :: r => by
    have h1 := bulk_one x
    have h2 := bulk_len r
    simp only [Rows.uptoBulkAll, List.length_cons]
    omega
theorem row_bulk {H : Type} {enc : TypeId × Value → H} {W : World} {base : Nat} {sp : Nat → Bool} {held : Bool} {f : Nat} {ra : Option Addr} {n rc : Nat} {d : DataW H} {p : List MemPlace}
    (h : DataW.trod enc Tryz.prog W base sp held f 22 [.slice ra n rc] = some (d, p)) : n ≤ Rows.uptoBulk d := by
  rcases open_slice Tryz.underlying22 h with ⟨hcs, _⟩ | ⟨ad, n', c', m, f', D, Pl, hcs, _, _, _, _, hx, _⟩
  · simp at hcs
    rw [hcs.2.1]
    exact Nat.zero_le _
  · cases hcs
    cases hx
    have := bulk_len ((List.range n).map D)
    simp only [Rows.uptoBulk]
    simp at this
    omega
theorem rows_bulk {H : Type} {enc : TypeId × Value → H} {W : World} {base : Nat} {sp : Nat → Bool} {held : Bool} {a : Option Addr} {c : Nat} {L : List (List Int)} {d : DataW H} {p : List MemPlace}
    (h : DataW.Trod enc Tryz.prog W base sp held 26 (.slice a L.length c) d p) (hr : RowsAt W a L) : ∀ l ∈ L, l.length ≤ Rows.uptoBulk d := by
  intro l hl
  obtain ⟨i, hi, rfl⟩ := List.getElem_of_mem hl
  obtain ⟨fuel, hf⟩ := h
  obtain ⟨b, o, ra, rc, rfl, hc, _⟩ := hr i L[i] (List.getElem?_eq_getElem hi)
  rcases open_slice1 Tryz.underlying26 co_row hf with ⟨hcs, _⟩ | ⟨ad, n, c', m, f, V, D, Pl, hcs, _, _, _, hmm, hx, hrow⟩
  · simp [Value.cells] at hcs
  · simp [Value.cells] at hcs
    obtain ⟨rfl, rfl, rfl⟩ := hcs
    have him : i < m := by rw [hmm]; split <;> omega
    obtain ⟨h1, h2⟩ := hrow i him
    rw [addr_at, hc] at h1
    rw [← Option.some.inj h1] at h2
    have h3 := row_bulk h2
    cases hx
    have h4 := bulk_part (d := D i) (l := (List.range L.length).map D) (List.mem_map.2 ⟨i, by simpa using hi, rfl⟩)
    simp only [Rows.uptoBulk]
    omega
end Go.Proofs.YthcejnfnamhpfaaGreat
