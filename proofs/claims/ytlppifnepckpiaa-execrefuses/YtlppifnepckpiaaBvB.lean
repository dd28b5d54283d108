/- The walk of bv.binaryOf: the row of each operation on two values, or the zero row. -/
import Derived.Test.YtlppifnepckpiaaChecked
import Derived.Test.YtlppifnepckpiaaBvV
import Derived.Deep.WholeRow
import Derived.Deep.RegionWith
import Derived.WalkSpells
import Derived.Laws.EntriesVeiled
namespace Go.Proofs.Ytlppifnepckpiaa
open Go.RowKit

/-- A whole array stored into the block that was made last, at the operation. -/
theorem wpList_store_new {P : Program} {w1 : World} {o1 : Obj} {ops : Array Oper} {rest : List Oper} {d : Option Tmp} {p v : Operand} {t ty : TypeId} {s : String} {af : Array Edge} {a : Act} {Q : Exit → Act → World → Prop} {c : Array Value}
    (c' : Array Value) (hp : a.eval p = .pointer (some ⟨w1.heap.size + 1, 0, none⟩)) (hv : a.eval v = .agg c') (hi : (P.info? t).map (·.size) = some c'.size) (ho : c.size = c'.size) (h1 : c'.all (·.oneCell') = true)
    (hK : wpList P ops Q rest (a.put d undef) ((w1.alloc o1).alloc (.cells c' t))) :
    wpList P ops Q ({ dst := d, op := Op.store t p v, type := ty, pos := s, after := af, guard := none } :: rest) a ((w1.alloc o1).alloc (.cells c t)) := by
  refine wpList_plain rfl fun K hK' => ?_
  unfold Oper.wp
  have hs : (w1.alloc o1).heap.size = w1.heap.size + 1 := by simp
  have hrun := run_storeAt_new (P := P) (w1.alloc o1) t c c' hi ho h1
  rw [hs] at hrun
  simp [execOp, hp, hv, hrun, Result.andThen]
  exact hK' _ _ hK

/-- At a store: the walk is held there ('Hid'), so that a law can be offered. -/
theorem hold_store {P : Program} {ops : Array Oper} {rest : List Oper} {p v : Operand} {t ty : TypeId} {s : String} {af : Array Edge} {g : Option (Nat × Bool)} {a : Act} {w : World} {Q : Exit → Act → World → Prop}
    (hK : Hid (wpList P ops Q ({ dst := none, op := Op.store t p v, type := ty, pos := s, after := af, guard := g } :: rest) a w)) :
    wpList P ops Q ({ dst := none, op := Op.store t p v, type := ty, pos := s, after := af, guard := g } :: rest) a w := hK

/-- the row of an operation on two values -/
def rowB (op : Int) : Array Value :=
  if op = 3 then #[.int .i64 2, .bool false, .func (.func 68) #[] #[]] else
  if op = 4 then #[.int .i64 2, .bool false, .func (.func 69) #[] #[]] else
  if op = 5 then #[.int .i64 2, .bool false, .func (.func 70) #[] #[]] else
  if op = 6 then #[.int .i64 2, .bool false, .func (.func 71) #[] #[]] else
  if op = 7 then #[.int .i64 2, .bool false, .func (.func 72) #[] #[]] else
  if op = 8 then #[.int .i64 3, .bool false, .func (.func 73) #[] #[]] else
  if op = 9 then #[.int .i64 3, .bool false, .func (.func 74) #[] #[]] else
  if op = 10 then #[.int .i64 3, .bool false, .func (.func 75) #[] #[]] else
  if op = 11 then #[.int .i64 1, .bool false, .func (.func 76) #[] #[]] else
  if op = 12 then #[.int .i64 2, .bool false, .func (.func 77) #[] #[]] else
  if op = 13 then #[.int .i64 2, .bool false, .func (.func 78) #[] #[]] else
  if op = 14 then #[.int .i64 3, .bool true, .func (.func 79) #[] #[]] else
  if op = 15 then #[.int .i64 3, .bool true, .func (.func 80) #[] #[]] else
  if op = 16 then #[.int .i64 2, .bool true, .func (.func 81) #[] #[]] else
  if op = 17 then #[.int .i64 2, .bool true, .func (.func 82) #[] #[]] else
  if op = 18 then #[.int .i64 2, .bool true, .func (.func 83) #[] #[]] else
  if op = 19 then #[.int .i64 2, .bool true, .func (.func 84) #[] #[]] else
  #[.int .i64 0, .bool false, .nilFunc]

theorem rowB_out (op : Int) (h : op < 0 ∨ 20 ≤ op) : rowB op = #[.int .i64 0, .bool false, .nilFunc] := by
  unfold rowB
  repeat (rw [if_neg (by omega)])

set_option maxHeartbeats 4000000 in
theorem binaryOf_any (op : Int) (w : World) :
    Calls Try.prog 62 #[.int .i64 op] w fun e w' => e = .returned (.agg (rowB op)) ∧ Below w.heap.size w w' := by
  go_enter Try.func62, Try.ntmps62
  go_wp2_with (with_reducible refine hold_store ?_)
  refine wpList_store_new _ ?hp rfl ?hi ?ho ?h1 ?hK
  case hp => simp [Act.eval]
  case hi => kernel_rfl
  case ho => rfl
  case h1 => kernel_rfl
  have hcases : op < 0 ∨ 20 ≤ op ∨ op = 0 ∨ op = 1 ∨ op = 2 ∨ op = 3 ∨ op = 4 ∨ op = 5 ∨ op = 6 ∨ op = 7 ∨ op = 8 ∨ op = 9 ∨ op = 10 ∨ op = 11 ∨ op = 12 ∨ op = 13 ∨ op = 14 ∨ op = 15 ∨ op = 16 ∨ op = 17 ∨ op = 18 ∨ op = 19 := by omega
  rcases hcases with h | h | h | h | h | h | h | h | h | h | h | h | h | h | h | h | h | h | h | h | h | h
  · have hr : rowB op = #[.int .i64 0, .bool false, .nilFunc] := rowB_out op (Or.inl h)
    go_wp2
    exact bodyPost_ret (v := .agg (rowB op)) (by rw [hr]; simp [results, Try.results62, go_sem]) rfl ⟨rfl, bel2 _ _ _⟩
  · have hr : rowB op = #[.int .i64 0, .bool false, .nilFunc] := rowB_out op (Or.inr h)
    go_wp2
    exact bodyPost_ret (v := .agg (rowB op)) (by rw [hr]; simp [results, Try.results62, go_sem]) rfl ⟨rfl, bel2 _ _ _⟩
  all_goals
    subst h
    go_wp2
    refine bodyPost_ret (v := .agg (rowB _)) (by simp [results, Try.results62, go_sem, rowB]) rfl ⟨rfl, bel2 _ _ _⟩
end Go.Proofs.Ytlppifnepckpiaa
