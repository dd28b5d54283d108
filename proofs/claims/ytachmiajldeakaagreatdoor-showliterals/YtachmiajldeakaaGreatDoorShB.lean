/- show's printer: put. -/
import Derived.Test.YtachmiajldeakaaGreatDoorShA
namespace Go.Proofs.YtachmiajldeakaaGreatDoor
open Go.RowKit

/-- the texts one behind the other -/
def tx (ts : List ByteArray) : List UInt8 := (ts.map (·.data.toList)).flatten
theorem tx_nil : tx [] = [] := rfl
theorem tx_cons (a : ByteArray) (ts : List ByteArray) : tx (a :: ts) = a.data.toList ++ tx ts := rfl
theorem tx_snoc (ts : List ByteArray) (a : ByteArray) : tx (ts ++ [a]) = tx ts ++ a.data.toList := by simp [tx]
theorem take_snoc {ts : List ByteArray} {t : Nat} {s : ByteArray} (h : ts[t]? = some s) : tx (ts.take (t + 1)) = tx (ts.take t) ++ s.data.toList := by
  rw [List.take_add_one, h]
  exact tx_snoc _ _
theorem tx_take_le : ∀ (ts : List ByteArray) (t : Nat), (tx (ts.take t)).length ≤ (tx ts).length
  | [], t => by simp
  | a :: r, 0 => by simp [tx]
  | a :: r, t + 1 => by
    have := tx_take_le r t
    simp only [List.take_succ_cons, tx_cons, List.length_append]
    omega
/-- the row of texts in block g -/
def Tx (w : World) (g : Nat) (ts : List ByteArray) : Prop := w.heap[g]? = some (.cells (ts.map Value.string).toArray 9 (0, 0))
theorem Tx.at_ {w : World} {g t : Nat} {ts : List ByteArray} {s : ByteArray} (h : Tx w g ts) (ht : ts[t]? = some s) : w.cell? ⟨g, t, none⟩ = some (.string s) := by
  rw [Lib.cell_of_heap h]
  simp [ht]
theorem Tx.kept {B b g : Nat} {w w' : World} {ts : List ByteArray} (h : Tx w g ts) (k : Kb B b w w') (hb : g ≠ b) : Tx w' g ts := k.row h hb (by decide)
theorem Tx.ne {B b g : Nat} {l : List UInt8} {w : World} {ts : List ByteArray} (h : Tx w g ts) (k : Pr B b l w) : g ≠ b := by
  obtain ⟨p, _, _, v, hb, _⟩ := k.at_
  intro e
  subst e
  unfold Tx at h
  rw [h] at hb
  have := congrArg (fun o => match o with | some (.cells _ T _) => T | _ => 0) hb
  simp at this
theorem Tx.new (w : World) (ts : List ByteArray) : Tx (w.alloc (.cells (ts.map Value.string).toArray 9)) w.heap.size ts := heap_alloc_new w _

set_option maxHeartbeats 1000000 in
theorem put_any (B b : Nat) (l : List UInt8) (ts : List ByteArray) (g cap : Nat) (w : World) (h : Pr B b l w) (hBw : B ≤ w.heap.size) (hg : Tx w g ts) (hn : ts.length ≤ 100) (hlen : l.length + (tx ts).length ≤ 140737488355328) :
    Calls Tryz.prog 27 #[.pointer (some ⟨b, 0, none⟩), .slice (some ⟨g, 0, none⟩) ts.length cap] w fun e w' => e = .returned (.tuple #[]) ∧ Pr B b (l ++ tx ts) w' ∧ Kb B b w w' := by
  obtain ⟨L, hL⟩ : ∃ L, L = ts.length := ⟨_, rfl⟩
  rw [← hL]
  rw [← hL] at hn
  have HL := Lib.hid hL
  clear hL
  have hgb := hg.ne h
  go_enter Tryz.func27, Tryz.ntmps27
  go_wp2
  go_loopw [8] (fun iv wr => ∃ t : Nat, t ≤ L ∧ iv = .int .i64 (t : Int) ∧ Hid (Pr B b (l ++ tx (ts.take t)) wr ∧ Kb B b w wr)) (fun i _ => L - (intOf i).toNat)
  case atStart => exact ⟨0, Nat.zero_le _, rfl, Lib.hid ⟨by simpa [tx] using h, Kb.refl B b w⟩⟩
  case round =>
    obtain ⟨t, ht, rfl, H⟩ := hrel
    by_cases hlt : t < L
    · obtain ⟨s, hs⟩ : ∃ s, ts[t]? = some s := ⟨_, List.getElem?_eq_getElem (by rw [← HL.out]; exact hlt)⟩
      have hc := (hg.kept H.out.2 hgb).at_ hs
      have hw := bwrite_any B b _ s wr H.out.1 (by
        have h1 := tx_take_le ts (t + 1)
        rw [take_snoc hs] at h1
        have h2 : s.data.toList.length = s.size := Array.length_toList
        simp only [List.length_append] at h1 ⊢
        omega) (by have := H.out.2.below.size; omega)
      have HS := Lib.hid hs
      clear hs
      go_wp2_with (go_at_call 63; refine hw.mono ?_; rintro e w3 ⟨rfl, h3, k3⟩; refine Hid.out ?_)
      have HN := Lib.hid (And.intro h3 (H.out.2.trans k3))
      clear h3 k3
      refine Lib.hid ?_
      go_wp2
      refine ⟨⟨t + 1, by omega, by go_num, Lib.hid ⟨?_, HN.out.2⟩⟩, by simp [intOf]; omega⟩
      have := HN.out.1
      rw [List.append_assoc, ← take_snoc HS.out] at this
      exact this
    · have e : t = L := by omega
      subst e
      go_wp2
      go_end0
      have := H.out.1
      rw [HL.out, List.take_length] at this
      exact ⟨rfl, this, H.out.2⟩

end Go.Proofs.YtachmiajldeakaaGreatDoor
