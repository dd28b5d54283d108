/- rate's queue as a list of numbers: Less, Swap, Len; heap.up. -/
import Derived.Test.YtncbaeephnahjaaRaB
namespace Go.Proofs.Ytncbaeephnahjaa
open Go.RowKit Go.Maps Go.WideMaps Go.Shelf
open Rat (at_ swp)

def bv (k : Nat) : List Value := [.int .i64 ((k / 64 : Nat) : Int), .int .i64 ((k % 64 : Nat) : Int)]
def bc : List Nat → List Value
  | [] => []
  | k :: q => .int .i64 ((k / 64 : Nat) : Int) :: .int .i64 ((k % 64 : Nat) : Int) :: bc q
theorem bc_len : ∀ q : List Nat, (bc q).length = q.length * 2
  | [] => rfl
  | k :: q => by simp [bc, bc_len q]; omega
theorem bc_app : ∀ q r : List Nat, bc (q ++ r) = bc q ++ bc r
  | [], r => rfl
  | k :: q, r => by simp [bc, bc_app q r]
theorem bc_at : ∀ (q : List Nat) (i : Nat), i < q.length → (bc q)[i * 2]? = some (.int .i64 ((at_ q i / 64 : Nat) : Int)) ∧ (bc q)[i * 2 + 1]? = some (.int .i64 ((at_ q i % 64 : Nat) : Int))
  | [], i, h => by simp at h
  | k :: q, 0, h => by simp [bc, at_]
  | k :: q, i + 1, h => by
    have := bc_at q i (by simpa using h)
    rw [show (i + 1) * 2 = i * 2 + 1 + 1 by omega]
    simpa [bc, at_] using this
theorem bc_set : ∀ (q : List Nat) (i x : Nat), ((bc q).set (i * 2) (.int .i64 ((x / 64 : Nat) : Int))).set (i * 2 + 1) (.int .i64 ((x % 64 : Nat) : Int)) = bc (q.set i x)
  | [], i, x => by simp [bc]
  | k :: q, 0, x => by simp [bc]
  | k :: q, i + 1, x => by
    rw [show (i + 1) * 2 = i * 2 + 1 + 1 by omega]
    simp [bc, ← bc_set q i x]

/-- block b is a queue, v its slice, q what is in it -/
def Qv (w : World) (b : Nat) (v : Value) (q : List Nat) : Prop := w.heap[b]? = some (.cells #[v] 58 (0, 0)) ∧ w.ownsRow (b + 1) 62 2 v q.length (bc q)
theorem Qv.lt {w : World} {b : Nat} {v : Value} {q : List Nat} (h : Qv w b v q) : b < w.heap.size := gl h.1
theorem Qv.kept {w w' : World} {b : Nat} {v : Value} {q : List Nat} (h : Qv w b v q) (hg : w.grownBy w' none) : Qv w' b v q :=
  ⟨(hg.block b h.lt (by simp)).trans h.1, h.2.kept hg (by cases v.ownBlock <;> simp)⟩
theorem Qv.form {w : World} {b : Nat} {v : Value} {q : List Nat} (h : Qv w b v q) : ∃ a c, v = .slice a q.length c := by
  rcases h.2.2 with ⟨rfl, e⟩ | ⟨g, cap, cur, rfl, _⟩
  · rw [e]; exact ⟨_, _, rfl⟩
  · exact ⟨_, _, rfl⟩
theorem Qv.own {w : World} {b : Nat} {v : Value} {q : List Nat} (h : Qv w b v q) (h0 : 0 < q.length) : ∃ g cap cur, v = .slice (some ⟨g, 0, none⟩) q.length cap ∧ b < g ∧ w.heap[g]? = some (.cells cur 62 (0, 0)) ∧ q.length ≤ cap ∧ cap ≤ maxLen ∧ cur.size = cap * 2 ∧ cur.toList.take (q.length * 2) = bc q := by
  rcases h.2.2 with ⟨rfl, e⟩ | ⟨g, cap, cur, rfl, h1, h2, h3, h4, h5, h6⟩
  · omega
  · exact ⟨g, cap, cur, rfl, by omega, h2, h3, h4, h5, h6⟩
theorem cur_at {cur : Array Value} {q : List Nat} {n i : Nat} (h : cur.toList.take (n * 2) = bc q) (hi : i < q.length) : cur[i * 2]? = some (.int .i64 ((at_ q i / 64 : Nat) : Int)) ∧ cur[i * 2 + 1]? = some (.int .i64 ((at_ q i % 64 : Nat) : Int)) := by
  have h1 := bc_at q i hi
  rw [← h, List.getElem?_take, List.getElem?_take] at h1
  obtain ⟨h2, h3⟩ := h1
  split at h2
  · split at h3
    · exact ⟨by simpa using h2, by simpa using h3⟩
    · cases h3
  · cases h2
theorem below_of {b : Nat} {w w' : World} {r : Option Nat} (h : w.grownBy w' r) (hb : b ≤ w.heap.size) (hr : ∀ k, r = some k → b ≤ k) : Below b w w' :=
  (Below.refl b w).grown h hb hr

theorem less_q {w : World} {b : Nat} {v : Value} {q : List Nat} (h : Qv w b v q) (hn : q.length ≤ 1000) (i j : Nat) (hi : i < q.length) (hj : j < q.length) :
    Calls Try.prog 45 #[v, .int .i64 (i : Int), .int .i64 (j : Int)] w fun e w' => e = .returned (.bool (decide (at_ q i < at_ q j))) ∧ Qv w' b v q ∧ Below b w w' := by
  obtain ⟨g, cap, cur, rfl, hb, hg, _, _, _, ht⟩ := h.own (by omega)
  have hi' := cur_at ht hi
  have hj' := cur_at ht hj
  refine (less_any g q.length cap i j (at_ q i) (at_ q j) w (by omega) hi hj ((cell_of_row w g _ _ _ _ hg).trans hi'.1) ((cell_of_row w g _ _ _ _ hg).trans hi'.2) ((cell_of_row w g _ _ _ _ hg).trans hj'.1) ((cell_of_row w g _ _ _ _ hg).trans hj'.2)).mono ?_
  rintro e w' ⟨rfl, hk⟩
  exact ⟨rfl, h.kept hk, below_of hk (Nat.le_of_lt h.lt) (by simp)⟩
theorem swap_q {w : World} {b : Nat} {v : Value} {q : List Nat} (h : Qv w b v q) (hn : q.length ≤ 1000) (i j : Nat) (hi : i < q.length) (hj : j < q.length) :
    Calls Try.prog 46 #[v, .int .i64 (i : Int), .int .i64 (j : Int)] w fun e w' => e = .returned (.tuple #[]) ∧ Qv w' b v (swp q i j) ∧ Below b w w' := by
  obtain ⟨g, cap, cur, rfl, hb, hg, h1, h2, h3, ht⟩ := h.own (by omega)
  have hi' := cur_at ht hi
  have hj' := cur_at ht hj
  refine (swap_any g q.length cap i j _ _ _ _ cur w (by omega) hi hj hg hi'.1 hi'.2 hj'.1 hj'.2).mono ?_
  rintro e w' ⟨rfl, hh, hk⟩
  refine ⟨rfl, ⟨(hk.block b h.lt (by simp; omega)).trans h.1, by rw [bc_len], .inr ⟨g, cap, _, by rw [Rat.swp_len], by omega, hh, by rw [Rat.swp_len]; exact h1, h2, by simpa using h3, ?_⟩⟩, below_of hk (Nat.le_of_lt h.lt) (fun k e => by cases e; omega)⟩
  simp only [Array.toList_setIfInBounds, List.take_set, Rat.swp_len, ht]
  rw [bc_set, bc_set]
  rfl
theorem len_q {w : World} {b : Nat} {v : Value} {q : List Nat} (h : Qv w b v q) (hn : q.length ≤ 1000) :
    Calls Try.prog 44 #[v] w fun e w' => e = .returned (.int .i64 (q.length : Int)) ∧ w' = w := by
  obtain ⟨a, c, rfl⟩ := h.form
  exact qlen_any a q.length c w (by omega)
end Go.Proofs.Ytncbaeephnahjaa
