/- Rows laid one behind the other (written by mknlaw.py). -/
import Derived.Test.YtonafedbehnneaaGreatMhN
namespace Go.Proofs.YtonafedbehnneaaGreat
open Go.RowKit Go.Maps Go.WideMaps

/-- rows laid one behind the other: the places of the later ones -/
theorem two_rows (w : World) (c1 c2 : Array Value) (t1 t2 : TypeId) (j : Nat) : ((w.alloc (.cells c1 t1)).alloc (.cells c2 t2)).cell? ⟨w.heap.size + 1, j, none⟩ = c2[j]? := by
 rw [show w.heap.size + 1 = (w.alloc (.cells c1 t1)).heap.size from by simp]; simp
theorem three_rows (w : World) (c1 c2 c3 : Array Value) (t1 t2 t3 : TypeId) (j : Nat) : (((w.alloc (.cells c1 t1)).alloc (.cells c2 t2)).alloc (.cells c3 t3)).cell? ⟨w.heap.size + 1 + 1, j, none⟩ = c3[j]? := by
 have h := heap_alloc2_new (w.alloc (.cells c1 t1)) (.cells c2 t2) (.cells c3 t3)
 rw [World.size_alloc] at h
 exact cell_of_row _ _ j _ _ _ h
theorem three_rows2 (w : World) (c1 c2 c3 : Array Value) (t1 t2 t3 : TypeId) (j : Nat) : (((w.alloc (.cells c1 t1)).alloc (.cells c2 t2)).alloc (.cells c3 t3)).cell? ⟨w.heap.size + 1, j, none⟩ = c2[j]? := by
 have h := heap_alloc2_old (w.alloc (.cells c1 t1)) (.cells c2 t2) (.cells c3 t3)
 rw [World.size_alloc] at h
 exact cell_of_row _ _ j _ _ _ h
end Go.Proofs.YtonafedbehnneaaGreat
