/- Stage 19: rows that are changed; what CodeWrong's walk needs. -/
import Derived.Test.YtcjainfcndlllaaCeE
namespace Go.Proofs.Ytcjainfcndlllaa
open Go.RowKit Go.Maps Go.WideMaps

theorem set_row {w : World} {h : Nat} {cs : List Value} {T : TypeId} (hr : w.heap[h]? = some (.cells cs.toArray T (0, 0))) (k : Nat) (v : Value) : (w.setCell ⟨h, k, none⟩ v).heap[h]? = some (.cells (cs.set k v).toArray T (0, 0)) := by
  simp [World.setCell, Array.getElem?_modify, hr]
theorem set_other {w : World} {h g : Nat} {o : Obj} (hr : w.heap[h]? = some o) (hne : h ≠ g) (k : Nat) (v : Value) : (w.setCell ⟨g, k, none⟩ v).heap[h]? = some o := (Below.heap_setCell _ _ _ _ hne).trans hr
theorem alloc_row {w : World} {h : Nat} {o : Obj} (hr : w.heap[h]? = some o) (q : Obj) : (w.alloc q).heap[h]? = some o := ((World.grownBy_alloc w q none).block _ (Array.getElem?_eq_some_iff.1 hr).1 (by simp)).trans hr

set_option maxHeartbeats 1000000 in
theorem small_rows (w : World) : Calls Try.prog 13 #[] w fun e w' => e = .returned (.agg #[.slice (some ⟨w.heap.size + 1, 0, none⟩) 2 2, .int .i64 1, .int .i64 1, .int .i64 0, .int .i64 2, .slice none 0 0, .slice (some ⟨w.heap.size + 1 + 1, 0, none⟩) 5 5]) ∧
    w'.heap[w.heap.size + 1]? = some (.cells ([2, 2].map (Value.int .i64)).toArray 3 (0, 0)) ∧ w'.heap[w.heap.size + 1 + 1]? = some (.cells (insC Cd.small.body).toArray 33 (0, 0)) ∧ w.grownBy w' none ∧ w'.heap.size = w.heap.size + 1 + 1 + 1 := by
  go_enter Try.func13, Try.ntmps13
  go_wp2
  have hA := heap_alloc_new w (.cells #[.slice (some ⟨w.heap.size + 1, 0, none⟩) 2 2, .int .i64 1, .int .i64 1, .int .i64 0, .int .i64 2, .slice none 0 0, .slice (some ⟨w.heap.size + 1 + 1, 0, none⟩) 5 5] 25)
  have g1 := World.grownBy_alloc w (.cells #[.slice (some ⟨w.heap.size + 1, 0, none⟩) 2 2, .int .i64 1, .int .i64 1, .int .i64 0, .int .i64 2, .slice none 0 0, .slice (some ⟨w.heap.size + 1 + 1, 0, none⟩) 5 5] 25) none
  have s1 := World.size_alloc w (.cells #[.slice (some ⟨w.heap.size + 1, 0, none⟩) 2 2, .int .i64 1, .int .i64 1, .int .i64 0, .int .i64 2, .slice none 0 0, .slice (some ⟨w.heap.size + 1 + 1, 0, none⟩) 5 5] 25)
  generalize w.alloc (.cells #[.slice (some ⟨w.heap.size + 1, 0, none⟩) 2 2, .int .i64 1, .int .i64 1, .int .i64 0, .int .i64 2, .slice none 0 0, .slice (some ⟨w.heap.size + 1 + 1, 0, none⟩) 5 5] 25) = w1 at hA g1 s1
  have hB := heap_alloc_new w1 (.cells #[.int .i64 2, .int .i64 2] 3)
  have g2 := World.grownBy_alloc w1 (.cells #[.int .i64 2, .int .i64 2] 3) none
  have s2 := World.size_alloc w1 (.cells #[.int .i64 2, .int .i64 2] 3)
  generalize w1.alloc (.cells #[.int .i64 2, .int .i64 2] 3) = w2 at hB g2 s2
  have hC := heap_alloc_new w2 (.cells (insC Cd.small.body).toArray 33)
  have g3 := World.grownBy_alloc w2 (.cells (insC Cd.small.body).toArray 33) none
  have s3 := World.size_alloc w2 (.cells (insC Cd.small.body).toArray 33)
  have e3 : w2.alloc (.cells (insC Cd.small.body).toArray 33) = w2.alloc (.cells #[.int .i64 2, .int .i64 0, .int .i64 0, .int .i64 1, .int .i64 1, .int .i64 2, .int .i64 5, .int .i64 3, .int .i64 2, .int .i64 3, .int .i64 1, .int .i64 0, .int .i64 9, .int .i64 0, .int .i64 0] 33) := rfl
  rw [← e3]
  generalize w2.alloc (.cells (insC Cd.small.body).toArray 33) = w3 at hC g3 s3
  rw [s1] at hB s2
  rw [s2] at hC s3
  have hA3 := ((g2.trans g3).block _ (Array.getElem?_eq_some_iff.1 hA).1 (by simp)).trans hA
  have hB3 := (g3.block _ (Array.getElem?_eq_some_iff.1 hB).1 (by simp)).trans hB
  exact bodyPost_ret (results_cell_row rfl _ _ w.heap.size 25 _ (0, 0) _ rfl hA3 Try.underlying25 rfl (by kernel_rfl)) rfl ⟨rfl, hB3, hC, g1.trans (g2.trans g3), s3⟩

end Go.Proofs.Ytcjainfcndlllaa
