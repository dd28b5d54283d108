/- Stage 19: what the statements lean on (code.Check, code.Write, code.Parse as the chapter tells them); Small, alive. -/
import Derived.Test.YtlppifnepckpiaaCeA
import Derived.Test.YtlppifnepckpiaaCdO
namespace Go.Proofs.Ytlppifnepckpiaa
open Go.RowKit Go.Maps Go.WideMaps

/-- numbers of 64 bits -/
def I64s (c : Cd.Code) : Prop := Cd.I64 c.ins ∧ Cd.I64 c.outs ∧ Cd.I64 c.cells ∧ Cd.I64 c.stack ∧ (∀ n ∈ c.kinds, Cd.I64 n) ∧ (∀ n ∈ c.init, Cd.I64 n) ∧ (∀ x ∈ c.body, Cd.I64 x.op ∧ Cd.I64 x.n ∧ Cd.I64 x.k) ∧ c.kinds.length ≤ maxLen ∧ c.init.length ≤ maxLen ∧ c.body.length ≤ maxLen

/-- code.Check is the chapter's -/
def CCheck : Prop := ∀ (W : World) (c : Cd.Code) (ka : Option Addr) (kc : Nat) (ia : Option Addr) (ic : Nat) (ba : Option Addr) (bc : Nat), CodeAt W c ka ia ba → I64s c → c.kinds.length ≤ kc →
  Calls Try.prog 9 #[.agg (codeV c ka kc ia ic ba bc)] W fun e w' => e = .returned (.int .i64 (Cd.check c)) ∧ W.grownBy w' none

def byteC (l : List UInt8) : List Value := l.map fun b => .int .u8 b.toNat

theorem row_cell {w : World} {g : Nat} {cs : List Value} {T : TypeId} (h : w.heap[g]? = some (.cells cs.toArray T (0, 0))) (i : Nat) : w.cell? ⟨g, i, none⟩ = cs[i]? := by
  unfold World.cell?
  rw [h]
  simp
theorem nums_row {w : World} {g : Nat} {l : List Int} {T : TypeId} (h : w.heap[g]? = some (.cells (l.map (Value.int .i64)).toArray T (0, 0))) : NumsAt w (some ⟨g, 0, none⟩) l := fun i n hi => ⟨g, 0, rfl, by rw [Nat.zero_add, row_cell h, List.getElem?_map, hi]; rfl⟩
theorem inss_row {w : World} {g : Nat} {l : List Cd.Ins} {T : TypeId} (h : w.heap[g]? = some (.cells (insC l).toArray T (0, 0))) : InssAt w (some ⟨g, 0, none⟩) l := fun i x hi => by
  obtain ⟨a1, a2, a3⟩ := insC_at l i x hi
  exact ⟨g, 0, rfl, by rw [Nat.zero_add, row_cell h, a1], by rw [Nat.zero_add, row_cell h, a2], by rw [Nat.zero_add, row_cell h, a3]⟩

set_option maxHeartbeats 1000000 in
theorem small_any (w : World) : Calls Try.prog 6 #[] w fun e w' => ∃ g h, e = .returned (.agg (codeV Cd.small (some ⟨g, 0, none⟩) 2 none 0 (some ⟨h, 0, none⟩) 5)) ∧ CodeAt w' Cd.small (some ⟨g, 0, none⟩) none (some ⟨h, 0, none⟩) ∧ w.heap.size ≤ g ∧ w.heap.size ≤ h ∧ w.grownBy w' none := by
  go_enter Try.func6, Try.ntmps6
  go_wp2
  have hA := heap_alloc_new w (.cells #[.slice (some ⟨w.heap.size + 1, 0, none⟩) 2 2, .int .i64 1, .int .i64 1, .int .i64 0, .int .i64 2, .slice none 0 0, .slice (some ⟨w.heap.size + 1 + 1, 0, none⟩) 5 5] 30)
  have g1 := World.grownBy_alloc w (.cells #[.slice (some ⟨w.heap.size + 1, 0, none⟩) 2 2, .int .i64 1, .int .i64 1, .int .i64 0, .int .i64 2, .slice none 0 0, .slice (some ⟨w.heap.size + 1 + 1, 0, none⟩) 5 5] 30) none
  have s1 := World.size_alloc w (.cells #[.slice (some ⟨w.heap.size + 1, 0, none⟩) 2 2, .int .i64 1, .int .i64 1, .int .i64 0, .int .i64 2, .slice none 0 0, .slice (some ⟨w.heap.size + 1 + 1, 0, none⟩) 5 5] 30)
  generalize w.alloc (.cells #[.slice (some ⟨w.heap.size + 1, 0, none⟩) 2 2, .int .i64 1, .int .i64 1, .int .i64 0, .int .i64 2, .slice none 0 0, .slice (some ⟨w.heap.size + 1 + 1, 0, none⟩) 5 5] 30) = w1 at hA g1 s1
  have hB := heap_alloc_new w1 (.cells #[.int .i64 2, .int .i64 2] 3)
  have g2 := World.grownBy_alloc w1 (.cells #[.int .i64 2, .int .i64 2] 3) none
  have s2 := World.size_alloc w1 (.cells #[.int .i64 2, .int .i64 2] 3)
  generalize w1.alloc (.cells #[.int .i64 2, .int .i64 2] 3) = w2 at hB g2 s2
  have hC := heap_alloc_new w2 (.cells (insC Cd.small.body).toArray 41)
  have g3 := World.grownBy_alloc w2 (.cells (insC Cd.small.body).toArray 41) none
  have e3 : w2.alloc (.cells (insC Cd.small.body).toArray 41) = w2.alloc (.cells #[.int .i64 2, .int .i64 0, .int .i64 0, .int .i64 1, .int .i64 1, .int .i64 2, .int .i64 5, .int .i64 3, .int .i64 2, .int .i64 3, .int .i64 1, .int .i64 0, .int .i64 9, .int .i64 0, .int .i64 0] 41) := rfl
  rw [← e3]
  generalize w2.alloc (.cells (insC Cd.small.body).toArray 41) = w3 at hC g3
  rw [s1] at hB s2
  rw [s2] at hC
  have hA3 := ((g2.trans g3).block _ (Array.getElem?_eq_some_iff.1 hA).1 (by simp)).trans hA
  have hB3 := (g3.block _ (Array.getElem?_eq_some_iff.1 hB).1 (by simp)).trans hB
  exact bodyPost_ret (results_cell_row rfl _ _ w.heap.size 30 _ (0, 0) _ rfl hA3 Try.underlying30 rfl (by kernel_rfl)) rfl ⟨w.heap.size + 1, w.heap.size + 1 + 1, rfl, ⟨nums_row (l := [2, 2]) hB3, NumsAt.nil _ _, inss_row hC⟩, Nat.le_succ _, by omega, g1.trans (g2.trans g3)⟩

theorem small_64 : I64s Cd.small := by
  unfold I64s Cd.small Cd.I64 maxLen
  refine ⟨by decide, by decide, by decide, by decide, by decide, by decide, by decide, by decide, by decide, by decide⟩

end Go.Proofs.Ytlppifnepckpiaa
