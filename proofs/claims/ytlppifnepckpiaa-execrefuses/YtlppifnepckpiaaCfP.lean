/- Package code: what the walker begins with; canRun. -/
import Derived.Test.YtlppifnepckpiaaCfO
namespace Go.Proofs.Ytlppifnepckpiaa
open Go.RowKit Go.Maps Go.WideMaps
open Cd (Kn)

/-- rows of stacks that are not reached -/
theorem made_rows (n i j : Nat) (hi : i < n) (hj : j < 66) : (madeCells (rowC none).toArray (n * 66))[i * 66 + j]? = (rowC none)[j]? := by
  have h1 : i * 66 + j < n * 66 := by omega
  have h2 : (rowC none).toArray.size = 66 := by rw [List.size_toArray, rowC_len]
  unfold madeCells
  rw [Array.getElem?_map, Array.getElem?_range, if_pos h1, Option.map_some, h2, show (i * 66 + j) % 66 = j by omega, getElem!_pos _ _ (by rw [h2]; exact hj), List.getElem_toArray, List.getElem?_eq_getElem]
theorem mk_stacks (n : Nat) (hn : n ≤ 60000) (w : World) : (Instr.makeSlice 58 (.int .i64 (n : Int)) (.int .i64 (n : Int))).run Try.prog w = .ok (.slice (some ⟨w.heap.size, 0, none⟩) n n) (w.alloc (.cells (madeCells (rowC none).toArray (n * 66)) 61)) := by
  have hi : Try.prog.info? 61 = some ((Try.prog.info? 61).getD default) := by kernel_rfl
  have hz : ((Try.prog.info? 61).getD default).zero = some (.agg (rowC none).toArray) := by kernel_rfl
  have hs : ((Try.prog.info? 61).getD default).size = 66 := by kernel_rfl
  have hb : ((Try.prog.info? 61).getD default).bytes = 66 := by kernel_rfl
  have := run_makeSlice (P := Try.prog) w 58 61 _ _ Try.underlying58 hi hz .i64 .i64 (n : Int) (n : Int) (by omega) (Int.le_refl _) (by rw [hs]; omega) (by rw [hb]; omega) (by omega)
  rw [hs] at this
  simpa only [Int.toNat_natCast, Value.cells] using this
/-- the walker's block, as it is made -/
def wk0 (cs : Array Value) (g n : Nat) : Array Value := cs ++ (#[.int .i64 0] ++ ((rowC none).toArray ++ #[.slice (some ⟨g, 0, none⟩) n n]))
theorem wk0_new {W w : World} {b g : Nat} {cs : Array Value} {n : Nat} (hn : 0 < n) (hg : W.grownBy w none) (hb : W.heap.size ≤ b) (hgg : W.heap.size ≤ g) (hne : b ≠ g) (h7 : cs.size = 7) (hrb : w.heap[b]? = some (.cells (wk0 cs g n) 63 (0, 0))) (hrg : w.heap[g]? = some (.cells (madeCells (rowC none).toArray (n * 66)) 61 (0, 0))) :
    Wk W (w.setCell ⟨g, 0, none⟩ (.bool true)) b g cs 0 none (some [] :: Cd.nots (n - 1)) := by
  have cb : ∀ o, w.cell? ⟨b, o, none⟩ = (wk0 cs g n)[o]? := fun o => by unfold World.cell?; rw [hrb]; simp
  have cg : ∀ o, w.cell? ⟨g, o, none⟩ = (madeCells (rowC none).toArray (n * 66))[o]? := fun o => by unfold World.cell?; rw [hrg]; simp
  have hlen : (some [] :: Cd.nots (n - 1) : Kn).length = n := by simp [Cd.nots]; omega
  have fb : ∀ o, w.frozen? ⟨b, o, none⟩ = false := fun o => by simp [World.frozen?, hrb]
  have fg : ∀ o, w.frozen? ⟨g, o, none⟩ = false := fun o => by simp [World.frozen?, hrg]
  have hk : Kp [g] w (w.setCell ⟨g, 0, none⟩ (.bool true)) := (Kp.refl _ _).set (by simp) _
  have ebb : (w.setCell ⟨g, 0, none⟩ (.bool true)).heap[b]? = w.heap[b]? := hk.block b (Array.getElem?_eq_some_iff.1 hrb).1 (by simp; exact hne)
  have hsz : (wk0 cs g n).size = 75 := by simp [wk0, h7, rowC_len]
  have row0 : ∀ i, i < n → w.rangeAt g (i * 66) (rowC none) := fun i hi j v hv => by
    have hj : j < 66 := by have := (List.getElem?_eq_some_iff.1 hv).1; rwa [rowC_len] at this
    rw [cg, made_rows n i j hi hj, hv]
  refine ⟨Kp.grown hg hk (fun k hx => by simp at hx; subst hx; exact hgg), hb, hgg, hne, h7, ?_, ?_, ?_, ?_, ?_, ?_, ?_⟩
  · refine rangeAt.of (w := w) (fun j v hv => ?_) ebb
    have hj : j < 7 := by have := (List.getElem?_eq_some_iff.1 hv).1; rwa [Array.length_toList, h7] at this
    rw [cb, wk0, Nat.zero_add, Array.getElem?_append_left (by omega)]
    simpa using hv
  · rw [cell_of_block ebb, cb, wk0, Array.getElem?_append_right (by omega), h7, Array.getElem?_append_left (by simp)]
    rfl
  · refine rangeAt.of (w := w) (fun j v hv => ?_) ebb
    have hj : j < 66 := by have := (List.getElem?_eq_some_iff.1 hv).1; rwa [rowC_len] at this
    rw [cb, wk0, Array.getElem?_append_right (by omega), h7, Array.getElem?_append_right (by simp; omega), Array.getElem?_append_left (by simp [rowC_len]; omega)]
    rw [show 8 + j - 7 - #[Value.int IntKind.i64 0].size = j by simp; omega]
    simpa using hv
  · rw [cell_of_block ebb, cb, wk0, Array.getElem?_append_right (by omega), h7, Array.getElem?_append_right (by simp), Array.getElem?_append_right (by simp [rowC_len]), hlen]
    simp [rowC_len]
  · refine there.of (w := w) (fun j hj => ⟨?_, ?_⟩) ebb
    · rw [cb, Array.getElem?_eq_getElem (by omega)]; rfl
    · exact fb _
  · intro i q hi
    have hil : i < n := by have := (List.getElem?_eq_some_iff.1 hi).1; rwa [hlen] at this
    cases i with
    | zero =>
      simp at hi
      subst hi
      obtain ⟨r0, r1, r2⟩ := row_parts.1 (row0 0 hil)
      refine row_parts.2 ⟨?_, ?_, fun j hj => ?_⟩
      · exact cell_set_same _ (by simpa using r0)
      · exact (cell_set_ne _ (by omega)).trans r1
      · exact (cell_set_ne _ (by omega)).trans (r2 j hj)
    | succ i =>
      have : q = none := by
        simp [Cd.nots, List.getElem?_replicate] at hi
        exact hi.2.symm
      subst this
      intro j v hv
      rw [cell_set_ne _ (by omega)]
      exact row0 _ hil j v hv
  · rw [hlen]
    refine there_set (fun j hj => ⟨?_, fg _⟩) _ _
    rw [cg, Array.getElem?_eq_getElem (by rw [size_madeCells]; omega)]
    rfl
/-- the walker comes to an instruction -/
theorem Wk.come {W w : World} {b g : Nat} {cs : Array Value} {a t : Nat} {s : Option (List Int)} {qs : Kn} {l : List Int} (h : Wk W w b g cs a s qs) : Wk W ((w.setCell ⟨b, 7, none⟩ (.int .i64 (t : Int))).setCells b 8 (rowC (some l))) b g cs t (some l) qs ∧ Kp [b, g] w ((w.setCell ⟨b, 7, none⟩ (.int .i64 (t : Int))).setCells b 8 (rowC (some l))) := by
  have hk : ∀ X, b ∈ X → Kp X w ((w.setCell ⟨b, 7, none⟩ (.int .i64 (t : Int))).setCells b 8 (rowC (some l))) := fun X hX => kp_setCells hX _ _ _ ((Kp.refl X w).set hX _)
  have hgk : 0 < qs.length → ((w.setCell ⟨b, 7, none⟩ (.int .i64 (t : Int))).setCells b 8 (rowC (some l))).heap[g]? = w.heap[g]? := fun hq => (hk [b] (by simp)).block g (h.gl hq) (by simp; exact fun e => h.ne e.symm)
  have hc : ∀ o, o < 7 ∨ o = 74 → ((w.setCell ⟨b, 7, none⟩ (.int .i64 (t : Int))).setCells b 8 (rowC (some l))).cell? ⟨b, o, none⟩ = w.cell? ⟨b, o, none⟩ := fun o ho => by
    rw [World.cell?_setCells_out b _ 8 _ _ (fun _ _ => by rw [rowC_len]; simp; omega)]
    exact cell_set_ne _ (by omega)
  have ht : (w.setCell ⟨b, 7, none⟩ (.int .i64 (t : Int))).there b 0 75 := there_set h.tb _ _
  refine ⟨⟨Kp.grown h.grown (hk [b] (by simp)) (fun k hx => by simp at hx; subst hx; exact h.hb), h.hb, h.hg, h.ne, h.n7, fun j v hv => ?_, ?_, ?_, (hc 74 (by omega)).trans h.ways, ?_, fun i q hi => ?_, ?_⟩, hk _ (by simp)⟩
  · have hj : j < 7 := by
      have := (List.getElem?_eq_some_iff.1 hv).1
      rwa [Array.length_toList, h.n7] at this
    rw [hc (0 + j) (by omega)]
    exact h.code j v hv
  · rw [World.cell?_setCells_out b _ 8 _ _ (fun _ _ => by simp)]
    exact cell_set_same _ h.place
  · exact World.rangeAt_setCells_same _ b 8 (rowC (some l)) (fun j hj => by
      rw [rowC_len] at hj
      have := ht (8 + j) (by omega)
      rwa [Nat.zero_add] at this)
  · exact World.there_setCells ht b 8 (rowC (some l))
  · exact rangeAt.of (h.rows i q hi) (hgk (by have := (List.getElem?_eq_some_iff.1 hi).1; omega))
  · by_cases hq : 0 < qs.length
    · exact there.of h.tg (hgk hq)
    · exact fun j hj => by omega
end Go.Proofs.Ytlppifnepckpiaa
