/- metronomeref22.Of: the formula under way. -/
import Derived.Test.YtdhgopcfjomjaaaDoorCnX
namespace Go.Proofs.YtdhgopcfjomjaaaDoor
open Go.RowKit Go.Maps Go.WideMaps
open Cn (I64)

structure OfQ (w0 : World) (bf : Nat) (vars : Int) (xs : List Cl) (v : Value) (W : World) : Prop where
  kp : Kp [bf] w0 W
  lo : bf < w0.heap.size
  rf : W.heap[bf]? = some (.cells #[.int .i64 vars, v] 24 (0, 0))
  own : W.ownsRow w0.heap.size 36 1 v xs.length (clV xs)
  cl : ∀ x ∈ xs, ClAt (fun k => w0.heap.size ≤ k ∧ v.ownBlock ≠ some k) W x
section
variable {w0 W W1 W3 W4 : World} {bf : Nat} {vars : Int} {xs ys : List Cl} {v v' : Value}
theorem OfQ.fresh (h : OfQ w0 bf vars xs v W) (hg : W.grownBy W1 none) : OfQ w0 bf vars xs v W1 :=
  ⟨h.kp.trans (Kp.of0 hg _), h.lo, (hg.block _ (gl h.rf) (by simp)).trans h.rf, h.own.kept hg (by cases v.ownBlock <;> simp), fun x hx => (h.cl x hx).on (fun k hk _ => hg.block k hk (by simp))⟩
theorem OfQ.next (h : OfQ w0 bf vars xs v W) (hg : W.grownBy W1 none) (hy : ∀ y ∈ ys, ClAt (fun k => W.heap.size ≤ k ∧ k < W1.heap.size) W1 y)
    (ho3 : W3.ownsRow w0.heap.size 36 1 v' (xs.length + ys.length) (clV xs ++ clV ys)) (hg3 : W1.grownBy W3 v.ownBlock) (hat : v'.ownBlock = v.ownBlock ∨ v'.ownBlock = some W1.heap.size)
    (hk4 : Kp [bf] W3 W4) (hr4 : W4.heap[bf]? = some (.cells #[.int .i64 vars, v'] 24 (0, 0))) : OfQ w0 bf vars (xs ++ ys) v' W4 := by
  have s1 := hg.size
  have s3 := hg3.size
  have s4 := hk4.size
  have hl := h.lo
  have hsz := h.kp.size
  have hob := fun k e => h.own.lt k e
  have stay1 : ∀ k, k < W1.heap.size → k ≠ bf → v.ownBlock ≠ some k → W4.heap[k]? = W1.heap[k]? := fun k hk e1 e3 =>
    (hk4.block k (by omega) (by simp; exact e1)).trans (hg3.block k hk (fun e => e3 e.symm))
  have stay : ∀ k, k < W.heap.size → k ≠ bf → v.ownBlock ≠ some k → W4.heap[k]? = W.heap[k]? := fun k hk e1 e3 =>
    (stay1 k (by omega) e1 e3).trans (hg.block k hk (by simp))
  have hne4 : ∀ k, v'.ownBlock = some k → k ≠ bf := fun k e => by have := (ho3.lt k e).1; omega
  have ho4 : W4.ownsRow w0.heap.size 36 1 v' (xs.length + ys.length) (clV xs ++ clV ys) := by
    refine ⟨ho3.1, ho3.2.imp id ?_⟩
    rintro ⟨g, cap, cur, rfl, h1, h2, h4⟩
    exact ⟨g, cap, cur, rfl, h1, (hk4.block g (gl h2) (by simp; exact hne4 g rfl)).trans h2, h4⟩
  refine ⟨⟨hk4.os.trans (hg3.os.trans (hg.os.trans h.kp.os)), hk4.tape.trans (hg3.tape.trans (hg.tape.trans h.kp.tape)), hk4.output.trans (hg3.output.trans (hg.output.trans h.kp.output)), by omega, fun k hk hx => ?_⟩, h.lo, hr4, ?_, fun z hz => ?_⟩
  · simp at hx
    exact (stay k (by omega) hx (fun e => by have := (hob k e).1; omega)).trans (h.kp.block k hk (by simp; exact hx))
  · rw [List.length_append]
    unfold clV at ho4 ⊢
    rw [List.map_append]
    exact ho4
  · rcases List.mem_append.1 hz with hz | hz
    · refine ⟨?_, (h.cl z hz).2⟩
      have h1 := (h.cl z hz).1
      refine (h1.onLt (w' := W4) (fun k hk hp => stay k hk (by omega) hp.2)).monoLt2 h1 (fun k hk hp => ⟨hp.1, fun e => ?_⟩)
      rcases hat with h2 | h2
      · exact hp.2 (h2.symm.trans e)
      · have := Option.some.inj (h2.symm.trans e); omega
    · refine ⟨?_, (hy z hz).2⟩
      have h1 := (hy z hz).1
      refine (h1.onLt (w' := W4) (fun k hk hp => stay1 k hk (by omega) (fun e => by have := (hob k e).2; omega))).mono (fun k hp => ⟨by omega, fun e => ?_⟩)
      rcases hat with h2 | h2
      · have := (hob k (h2.symm.trans e)).2; omega
      · have := Option.some.inj (h2.symm.trans e); omega
theorem OfQ.rows {a : Option Addr} {n c : Nat} (h : OfQ w0 bf vars xs (.slice a n c) W) : n = xs.length ∧ xs.length ≤ c ∧ RowsIn (fun k => w0.heap.size ≤ k) W a (clsOf xs) := by
  rcases h.own.2 with ⟨e, h0⟩ | ⟨g, cap, cur, e, hb, hg, hc, _, _, _⟩
  · have hx : xs = [] := List.eq_nil_of_length_eq_zero h0
    subst hx
    cases e
    exact ⟨rfl, Nat.zero_le _, RowsIn.nil _ _ _⟩
  · cases e
    refine ⟨rfl, hc, fun i l hi => ?_⟩
    unfold clsOf at hi
    rw [List.getElem?_map, Option.map_eq_some_iff] at hi
    obtain ⟨x, hx, rfl⟩ := hi
    have hcl := h.cl x (List.mem_of_getElem? hx)
    have hce := h.own.cells (g := g) rfl i (.slice x.1 x.2.2.length x.2.1) (by unfold clV; rw [List.getElem?_map, hx]; rfl)
    rw [addr_at] at hce
    exact ⟨g, 0, x.1, x.2.1, rfl, hb, hce, frozen_of_row W g (0 + i) _ _ hg, hcl.1.mono (fun k hk => hk.1), hcl.2.1, by have := hcl.2.2.1; omega, hcl.2.2.2⟩
end
theorem clsOf_app (xs ys : List Cl) : clsOf (xs ++ ys) = clsOf xs ++ clsOf ys := by simp [clsOf]
theorem clV_one (ys : List Cl) : ∀ u ∈ clV ys, u.oneCell' = true := fun u hu => by
  unfold clV at hu
  obtain ⟨x, -, rfl⟩ := List.mem_map.1 hu
  rfl
/-- all that an append to the clauses wants, and what it leaves -/
structure ApB (w2 W1 : World) (bf : Nat) (vars : Int) (xs ys : List Cl) (v : Value) (g : Nat) : Prop where
  own : W1.ownsRow w2.heap.size 36 1 v xs.length (clV xs)
  news : ∀ j u, (clV ys)[j]? = some u → W1.cell? ((⟨g, 0, none⟩ : Addr).add j) = some u
  one : ∀ u ∈ clV ys, u.oneCell' = true
  b63 : xs.length + ys.length ≤ maxLen
  bby : (xs.length + ys.length) * 24 ≤ 140737488355328
  base : w2.heap.size ≤ W1.heap.size
  fin : ∀ v' w4, w4.ownsRow w2.heap.size 36 1 v' (xs.length + ys.length) (clV xs ++ clV ys) → W1.grownBy w4 v.ownBlock → (v'.ownBlock = v.ownBlock ∨ v'.ownBlock = some W1.heap.size) →
    w4.heap[bf]? = some (.cells #[.int .i64 vars, v] 24 (0, 0)) ∧ OfQ w2 bf vars (xs ++ ys) v' (w4.setCell ⟨bf, 1, none⟩ v')
theorem OfQ.apB {w2 wr W1 : World} {bf g : Nat} {vars : Int} {xs ys : List Cl} {v : Value} (h : OfQ w2 bf vars xs v wr) (hg : wr.grownBy W1 none) (hy : ∀ y ∈ ys, ClAt (fun k => wr.heap.size ≤ k ∧ k < W1.heap.size) W1 y)
    (hout : W1.heap[g]? = some (.cells (clV ys).toArray 36 (0, 0))) (hxl : xs.length ≤ 60000) (hyl : ys.length ≤ 3) : ApB w2 W1 bf vars xs ys v g := by
  have s1 := hg.size
  have s2 := h.kp.size
  refine ⟨h.own.kept hg (by cases v.ownBlock <;> simp), fun j u hj => by rw [addr_at, Nat.zero_add, row_cell hout]; exact hj, clV_one ys, by unfold maxLen; omega, by omega, by omega, fun v' w4 ho hg4 hat => ?_⟩
  have hr : w4.heap[bf]? = some (.cells #[.int .i64 vars, v] 24 (0, 0)) := (hg4.block bf (by have := gl h.rf; omega) (fun e => by have := (h.own.lt bf e.symm).1; have := h.lo; omega)).trans ((hg.block bf (gl h.rf) (by simp)).trans h.rf)
  exact ⟨hr, h.next hg hy ho hg4 hat ((Kp.refl _ w4).set (by simp) _) (heap_setCell_same _ _ 1 _ _ _ hr)⟩
/-- the builtin append within a step -/
theorem exec_append {oi : Oper} {a : Act} {w w' : World} {s x : Operand} {t : TypeId} {v sl v' : Value} (ho : oi.op = .call { callee := .builtin .append, args := #[s, x], argTypes := #[t, t] }) (hs : a.eval s = v) (hx : a.eval x = sl) (hr : (Builtin.append_ #[t, t] oi.type #[v, sl]).run Tryd.prog w = .ok v' w') :
    (execOp a.eval oi).run Tryd.prog w = .ok (.value v') w' := by
  unfold execOp
  simp only [ho, resolve, invoke, builtin, Sem.run_bind, Sem.run_pure, Result.andThen_ok, List.map_toArray, List.map_cons, List.map_nil, hs, hx, hr]
/-- a clause in a row of its own -/
theorem clAt_row {w : World} {g : Nat} {l : List Int} {p : Nat → Prop} (h : w.heap[g]? = some (.cells (ints l).toArray 3 (0, 0))) (hp : p g) (hl : l.length ≤ 3) (h64 : ∀ y ∈ l, I64 y) : ClAt p w (some ⟨g, 0, none⟩, l.length, l) := ⟨numsIn_row h hp, Nat.le_refl _, hl, h64⟩
end Go.Proofs.YtdhgopcfjomjaaaDoor
