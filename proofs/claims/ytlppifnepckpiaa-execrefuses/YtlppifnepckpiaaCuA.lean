/- Stage 19: append(append([]int(nil), l...), x) within a region that draws its order. -/
import Derived.Test.YtlppifnepckpiaaCfR
import Derived.ArgAppend
namespace Go.Proofs.Ytlppifnepckpiaa
open Go.RowKit Go.Maps Go.WideMaps

theorem info_i : (Try.prog.info? 3).map (fun i => (i.zero, i.size, i.bytes)) = some (some (.int .i64 0), 1, 8) := by kernel_rfl
theorem numC_one (l : List Int) : ∀ u ∈ l.map (Value.int .i64), u.oneCell' = true := fun u hu => by
  obtain ⟨n, -, rfl⟩ := List.mem_map.1 hu
  rfl
theorem addr_at (b o j : Nat) : (⟨b, o, none⟩ : Addr).add j = ⟨b, o + j, none⟩ := by unfold Addr.add; split <;> simp_all
theorem NumsAt.adds {w : World} {a : Addr} {l : List Int} (h : NumsAt w (some a) l) : ∀ j u, (l.map (Value.int .i64))[j]? = some u → w.cell? (a.add j) = some u := fun j u hu => by
  rw [List.getElem?_map, Option.map_eq_some_iff] at hu
  obtain ⟨n, hn, rfl⟩ := hu
  obtain ⟨b, o, e, hc⟩ := h j n hn
  cases e
  rw [addr_at]
  exact hc
theorem grown_ov {w w2 w3 : World} {row : Option Nat} (h : w.grownBy w2 none) (g : w2.grownBy w3 row) (hr : ∀ k, row = some k → w.heap.size ≤ k) : w.grownBy w3 none := by
  refine ⟨g.os.trans h.os, g.tape.trans h.tape, g.output.trans h.output, Nat.le_trans h.size g.size, fun j hj _ => ?_⟩
  rw [g.block j (Nat.lt_of_lt_of_le hj h.size) (fun e => by have := hr j e.symm; omega), h.block j hj (by simp)]
theorem app_nums (w : World) (B : Nat) (hB : B ≤ w.heap.size) (la : Option Addr) (lc : Nat) (l : List Int) (h : NumsAt w la l) (hn : l.length ≤ 1000000) (ty : TypeId) :
    ∃ v w', (Builtin.append_ #[27, 27] ty #[.slice none 0 0, .slice la l.length lc]).run Try.prog w = .ok v w' ∧ w'.ownsRow B 3 1 v l.length (l.map (Value.int .i64)) ∧ w.grownBy w' none := by
  obtain ⟨it, hit, hz, hsz, hby⟩ := info_parts info_i
  cases la with
  | none =>
    have hl : l = [] := by
      cases l with
      | nil => rfl
      | cons x r => obtain ⟨g, o, e, _⟩ := h 0 x (by simp); cases e
    subst hl
    refine ⟨.slice none 0 0, w, ?_, World.ownsRow_nil _ _ _ _, World.grownBy.refl _ _⟩
    simp [Builtin.append_, run_underlying Try.underlying27, sizeOf, typeInfo, hit, Builtin.lenOf, Builtin.firstCells]
  | some ad =>
    obtain ⟨v', w', q1, q2, q3, _⟩ := run_append_own (P := Try.prog) w B 27 ty 3 it _ 1 8 Try.underlying27 hit hz hsz hby rfl (by decide) (.slice none 0 0) 0 [] (World.ownsRow_nil _ _ _ _) ad l.length lc (l.map (Value.int .i64)) (by simp) h.adds (numC_one l) (by unfold maxLen; omega) (by omega) hB
    rw [Nat.zero_add, List.nil_append] at q2
    exact ⟨v', w', q1, q2, q3⟩
theorem wp_app_nums {o : Oper} {a : Act} {K : Act → World → Prop} {Q : Exit → Act → World → Prop} (w : World) (x : Operand)
    (ho : o.op = .call { callee := .builtin .append, args := #[.const (.slice none 0 0), x], argTypes := #[27, 27] }) (B : Nat) (hB : B ≤ w.heap.size)
    (la : Option Addr) (lc : Nat) (l : List Int) (hx : a.eval x = .slice la l.length lc) (hl : NumsAt w la l) (hn : l.length ≤ 1000000)
    (h : ∀ v' w', w'.ownsRow B 3 1 v' l.length (l.map (Value.int .i64)) → w.grownBy w' none → K (a.put o.dst v') w') : o.wp Try.prog a w K Q := by
  obtain ⟨v', w', hr, h2, h3⟩ := app_nums w B hB la lc l hl hn o.type
  have hs : a.eval (.const (.slice none 0 0)) = .slice none 0 0 := rfl
  unfold Oper.wp execOp
  simp only [ho, resolve, invoke, builtin, Sem.run_bind, Sem.run_pure, Result.andThen_ok, List.map_toArray, List.map_cons, List.map_nil, hs, hx, hr]
  exact h v' w' h2 h3
theorem wp_app_one {o : Oper} {a : Act} {K : Act → World → Prop} {Q : Exit → Act → World → Prop} (w : World) (s x : Operand)
    (ho : o.op = .call { callee := .builtin .append, args := #[s, x], argTypes := #[27, 27] }) (B : Nat) (hB : B ≤ w.heap.size)
    (v : Value) (l : List Int) (hs : a.eval s = v) (hown : w.ownsRow B 3 1 v l.length (l.map (Value.int .i64))) (A : Nat) (n : Int) (hx : a.eval x = .slice (some ⟨A, 0, none⟩) 1 1) (hA : w.cell? ⟨A, 0, none⟩ = some (.int .i64 n)) (hn : l.length ≤ 1000000)
    (h : ∀ v' w', w'.ownsRow B 3 1 v' (l ++ [n]).length ((l ++ [n]).map (Value.int .i64)) → w.grownBy w' v.ownBlock → K (a.put o.dst v') w') : o.wp Try.prog a w K Q := by
  obtain ⟨it, hit, hz, hsz, hby⟩ := info_parts info_i
  refine wp_append_own w s x 27 ho B 3 it _ 1 8 Try.underlying27 hit hz hsz hby rfl (by decide) v l.length (l.map (Value.int .i64)) hs hown ⟨A, 0, none⟩ 1 1 [.int .i64 n] hx rfl (fun j u hu => ?_) (by simp [Value.oneCell']) (by unfold maxLen; omega) (by omega) hB (fun v' w' a1 a2 _ => h v' w' (by simpa using a1) a2)
  cases j with
  | zero => simp at hu; subst hu; rw [addr_at]; exact hA
  | succ j => simp at hu

theorem ga2D (w : World) (A B : Obj) : w.grownBy ((w.alloc A).alloc B).drew none := by
  have h := (World.grownBy_alloc w A none).trans (World.grownBy_alloc (w.alloc A) B none)
  exact ⟨h.os, h.tape, h.output, h.size, h.block⟩
theorem wpL_as {P : Program} {ops : Array Oper} {Q : Exit → Act → World → Prop} {md : Region.Mode} {S : World → Prop} {Z : List Nat} {f : Nat} {l : Array Bool} {a : Act} {w : World} (h : ∀ W, W = w → wpL P md ops Q S Z f l a W) : wpL P md ops Q S Z f l a w := h w rfl

section
variable {ops : Array Oper} {Q : Exit → Act → World → Prop} {md : Region.Mode} {S : World → Prop} {Z : List Nat}
/-- append(append([]int(nil), l...), n): the list's copy and the row of n come in either order -/
theorem wpL_app2 {i j k d1 d2 d3 : Nat} {f : Nat} {l : Array Bool} {a : Act} {w : World} {x : Operand} {oi oj ok : Oper} {la : Option Addr} {lc : Nat} {L : List Int} {n : Int}
    (hr : Region.ready md ops l = [i, j] := by kernel_rfl) (hr1 : Region.ready md ops (l.setIfInBounds i true) = [j] := by kernel_rfl) (hr2 : Region.ready md ops (l.setIfInBounds j true) = [i] := by kernel_rfl) (hr3 : Region.ready md ops ((l.setIfInBounds i true).setIfInBounds j true) = [k] := by kernel_rfl)
    (hi : ops[i]? = some oi := by exact rfl) (hj : ops[j]? = some oj := by exact rfl) (hk : ops[k]? = some ok := by exact rfl) (hij : i ≠ j := by decide) (hd12 : d1 ≠ d2 := by decide)
    (hg : (oi.guard.isNone && oj.guard.isNone && ok.guard.isNone && (oi.dst == some d1) && (oj.dst == some d2) && (ok.dst == some d3)) = true := by kernel_rfl)
    (ho : oi.op = .call { callee := .builtin .append, args := #[.const (.slice none 0 0), x], argTypes := #[27, 27] } := by exact rfl)
    (ho3 : ok.op = .call { callee := .builtin .append, args := #[.tmp d1, .tmp d2], argTypes := #[27, 27] } := by exact rfl)
    (hx : a.eval x = .slice la L.length lc) (hx2 : ∀ v, (a.put (some d2) v).eval x = .slice la L.length lc)
    (hb1 : ∀ W, (execOp a.eval oj).run Try.prog W = .ok (.value (.slice (some ⟨W.heap.size, 0, none⟩) 1 1)) (W.alloc (.cells #[.int .i64 n] 3)))
    (hb2 : ∀ v W, (execOp (a.put (some d1) v).eval oj).run Try.prog W = .ok (.value (.slice (some ⟨W.heap.size, 0, none⟩) 1 1)) (W.alloc (.cells #[.int .i64 n] 3)))
    (he : ∀ v u, ((a.put (some d1) v).put (some d2) u).eval (.tmp d1) = v ∧ ((a.put (some d1) v).put (some d2) u).eval (.tmp d2) = u)
    (hl : NumsAt w la L) (hn : L.length ≤ 1000000) (hS : ∀ w', w.grownBy w' none → S w')
    (h : ∀ v1 v2 v3 w', w.grownBy w' none → w'.ownsRow w.heap.size 3 1 v3 (L ++ [n]).length ((L ++ [n]).map (Value.int .i64)) → wpL Try.prog md ops Q S Z f (((l.setIfInBounds i true).setIfInBounds j true).setIfInBounds k true) (((a.put (some d1) v1).put (some d2) v2).put (some d3) v3) w') :
    wpL Try.prog md ops Q S Z (f + 1 + 1 + 1) l a w := by
  simp only [Bool.and_eq_true, beq_iff_eq, Option.isNone_iff_eq_none] at hg
  obtain ⟨⟨⟨⟨⟨g1, g2⟩, g3⟩, e1⟩, e2⟩, e3⟩ := hg
  have wt : ∀ (o : Oper) (y : Array Value), o.guard = none → Region.wanted o (yielded ops y) = true := fun o y hg => by simp [Region.wanted, hg]
  -- the last one
  have fin : ∀ v1 A x1, w.grownBy x1 none → x1.ownsRow w.heap.size 3 1 v1 L.length (L.map (Value.int .i64)) → x1.cell? ⟨A, 0, none⟩ = some (.int .i64 n) →
      wpL Try.prog md ops Q S Z (f + 1) ((l.setIfInBounds i true).setIfInBounds j true) ((a.put (some d1) v1).put (some d2) (.slice (some ⟨A, 0, none⟩) 1 1)) x1 := fun v1 A x1 hg1 hown hA => by
    refine wpL_one hr3 (wpOp_now hk (wt _ _ g3) (fun K' hK => ?_))
    refine wp_app_one x1 _ _ ho3 w.heap.size hg1.size v1 L (he _ _).1 hown A n (he _ _).2 hA hn (fun v3 x3 hown3 hg3 => ?_)
    have hg4 := grown_ov hg1 hg3 (fun k e => (hown.lt k e).1)
    refine hK _ _ ⟨fun _ => hS _ hg4, ?_⟩
    rw [e3]
    exact h v1 _ v3 x3 hg4 hown3
  refine wpL_both hr ?_ ?_
  · refine wpOp_now hi (wt _ _ g1) (fun K' hK => ?_)
    refine wp_app_nums w x ho w.heap.size (Nat.le_refl _) la lc L hx hl hn (fun v1 x1 hown hg1 => ?_)
    refine hK _ _ ⟨fun _ => hS _ hg1, ?_⟩
    rw [e1]
    have hg2 := hg1.trans (World.grownBy_alloc x1 (.cells #[.int .i64 n] 3) none)
    refine wpL_val hr1 hj e2 (wt _ _ g2) (hb2 v1 x1) (hS _ hg2) ?_
    refine fin v1 x1.heap.size _ hg2 (hown.kept (World.grownBy_alloc x1 (.cells #[.int .i64 n] 3) none) (by cases hv : v1.ownBlock <;> simp)) ?_
    rw [cell_of_row _ _ 0 _ _ _ (heap_alloc_new x1 _)]
    rfl
  · refine wpOp_val hj e2 (wt _ _ g2) (hb1 w) ⟨fun _ => hS _ (World.grownBy_alloc w _ none), ?_⟩
    refine wpL_one hr2 (wpOp_now hi (wt _ _ g1) (fun K' hK => ?_))
    have hg0 := World.grownBy_alloc w (.cells #[.int .i64 n] 3) none
    refine wp_app_nums _ x ho w.heap.size hg0.size la lc L (hx2 _) (hl.on hg0) hn (fun v1 x1 hown hg1 => ?_)
    refine hK _ _ ⟨fun _ => hS _ (hg0.trans hg1), ?_⟩
    rw [e1]
    have hc := hg1.cell (show (w.alloc (.cells #[.int .i64 n] 3)).cell? ⟨w.heap.size, 0, none⟩ = some (.int .i64 n) by rw [cell_of_row _ _ 0 _ _ _ (heap_alloc_new w _)]; rfl) (by simp)
    have hc2 : ((a.put (some d2) (.slice (some ⟨w.heap.size, 0, none⟩) 1 1)).put (some d1) v1) = ((a.put (some d1) v1).put (some d2) (.slice (some ⟨w.heap.size, 0, none⟩) 1 1)) := by
      simp only [Act.put]
      rw [Array.setIfInBounds_comm _ _ hd12]
    rw [hc2, Array.setIfInBounds_comm _ _ (Ne.symm hij)]
    exact fin v1 _ x1 (hg0.trans hg1) hown hc
end
end Go.Proofs.Ytlppifnepckpiaa
