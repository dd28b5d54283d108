/- Texts joined: CeP, CuA, CuB, CuC, CuD. -/
import Derived.Test.YtfbhflpjhbemlaaGreatJnF
import Derived.Deep.CutRange
import Derived.BigQuiet
import Derived.ArgAppend
import Derived.Test.YtfbhflpjhbemlaaGreatJnB
/- Stage 19: metronomeref19.same. -/
namespace Go.Proofs.YtfbhflpjhbemlaaGreat
open Go.RowKit Go.Maps Go.WideMaps

set_option maxHeartbeats 2000000 in
set_option maxRecDepth 20000 in
theorem rsame_any (w : World) (l m : List Int) (aa ab : Option Addr) (ca cb : Nat) (hl : NumsAt w aa l) (hm : NumsAt w ab m) (h1 : l.length ≤ maxLen) (_h2 : m.length ≤ maxLen) :
    Calls Tryz.prog 16 #[.slice aa l.length ca, .slice ab m.length cb] w fun e w' => e = .returned (.bool (decide (l = m))) ∧ w.grownBy w' none := by
  have HL := Lib.hid hl
  have HM := Lib.hid hm
  clear hl hm
  by_cases hne : l.length = m.length
  · have e1 : ((l.length : Int) == (m.length : Int)) = true := by rw [beq_iff_eq]; omega
    have HNE := Lib.hid hne
    have hm63 : l.length ≤ 9223372036854775807 := by simpa [maxLen] using h1
    obtain ⟨N, hN⟩ : ∃ N, N = l.length := ⟨_, rfl⟩
    rw [← hne, ← hN]
    rw [← hN] at hm63
    have HN := Lib.hid hN
    clear hN hne e1 h1 _h2
    go_enter Tryz.func16, Tryz.ntmps16
    go_wp2
    go_loopw [5] (fun iv wr => ∃ t : Nat, t ≤ N ∧ iv = .int .i64 (t : Int) ∧ Hid (l.take t = m.take t ∧ w.grownBy wr none)) (fun i _ => N - (intOf i).toNat)
    case atStart => exact ⟨0, Nat.zero_le _, rfl, Lib.hid ⟨by simp, World.grownBy.refl w none⟩⟩
    case round =>
      obtain ⟨t, ht, rfl, HT⟩ := hrel
      by_cases hlt : t < N
      · obtain ⟨x, hx⟩ : ∃ x, l[t]? = some x := ⟨_, List.getElem?_eq_getElem (by rw [← HN.out]; exact hlt)⟩
        obtain ⟨y, hy⟩ : ∃ y, m[t]? = some y := ⟨_, List.getElem?_eq_getElem (by rw [← HNE.out, ← HN.out]; exact hlt)⟩
        obtain ⟨b1, o1, rfl, hc1⟩ := HL.out t x hx
        obtain ⟨b2, o2, rfl, hc2⟩ := HM.out t y hy
        have p1 := HT.out.2.cell hc1 (by simp)
        have p2 := HT.out.2.cell hc2 (by simp)
        have HX := Lib.hid (And.intro hx hy)
        clear hx hy hc1 hc2
        by_cases hxy : x = y
        · have e2 : (x != y) = false := by simp [hxy]
          have HXY := Lib.hid hxy
          clear hxy
          go_wp2
          go_upto_region 6 with fail
          go_quiet (fail)
          go_wp2
          refine ⟨⟨t + 1, by omega, by go_num, Lib.hid ⟨?_, ?_⟩⟩, by simp [intOf]; omega⟩
          · rw [List.take_add_one, List.take_add_one, HX.out.1, HX.out.2, HT.out.1, HXY.out]
          · exact ⟨HT.out.2.os, HT.out.2.tape, HT.out.2.output, HT.out.2.size, HT.out.2.block⟩
        · have e2 : (x != y) = true := by simp [hxy]
          have hd : decide (l = m) = false := by rw [decide_eq_false_iff_not]; intro e; have := HX.out; rw [e] at this; exact hxy (Option.some.inj (this.1.symm.trans this.2))
          have HD := Lib.hid hd
          clear hd
          have HXY := Lib.hid hxy
          clear hxy
          go_wp2
          go_upto_region 6 with fail
          go_quiet (fail)
          go_wp2
          go_ret
          exact ⟨(by rw [HD.out]; rfl), ⟨HT.out.2.os, HT.out.2.tape, HT.out.2.output, HT.out.2.size, HT.out.2.block⟩⟩
      · obtain rfl : t = N := by omega
        have hd : decide (l = m) = true := by
          rw [decide_eq_true_iff]
          have := HT.out.1
          rw [HN.out, List.take_length, HNE.out, List.take_length] at this
          exact this
        have HD := Lib.hid hd
        clear hd
        go_wp2
        go_ret
        exact ⟨(by rw [HD.out]; rfl), HT.out.2⟩
  · have e1 : ((l.length : Int) == (m.length : Int)) = false := by rw [beq_eq_false_iff_ne]; omega
    have hd : decide (l = m) = false := by rw [decide_eq_false_iff_not]; exact fun e => hne (by rw [e])
    rw [hd]
    have e2 : ((l.length : Int) != (m.length : Int)) = true := by simp; omega
    go_enter Tryz.func16, Tryz.ntmps16
    go_wp2
    go_ret
    exact ⟨rfl, World.grownBy.refl w none⟩

end Go.Proofs.YtfbhflpjhbemlaaGreat

/- Stage 19: append(append([]int(nil), l...), x) within a region that draws its order. -/
namespace Go.Proofs.YtfbhflpjhbemlaaGreat
open Go.RowKit Go.Maps Go.WideMaps

theorem info_i : (Tryz.prog.info? 3).map (fun i => (i.zero, i.size, i.bytes)) = some (some (.int .i64 0), 1, 8) := by kernel_rfl
theorem numC_one (l : List Int) : ∀ u ∈ l.map (Value.int .i64), u.oneCell' = true := fun u hu => by
  obtain ⟨n, -, rfl⟩ := List.mem_map.1 hu
  rfl
theorem addr_at (b o j : Nat) : (⟨b, o, none⟩ : Addr).add j = ⟨b, o + j, none⟩ := by unfold Addr.add; split <;> simp_all
theorem NumsAt.adds {w : World} {a : Addr} {l : List Int} (h : NumsAt w (some a) l) : ∀ j u, (l.map (Value.int .i64))[j]? = some u → w.cell? (a.add j) = some u := fun j u hu => by
  rw [List.getElem?_map, Option.map_eq_some_iff] at hu
  obtain ⟨n, hn, rfl⟩ := hu
  obtain ⟨b, o, e, hc⟩ := h j n hn
  cases e
  rw [addr_at]
  exact hc
theorem grown_ov {w w2 w3 : World} {row : Option Nat} (h : w.grownBy w2 none) (g : w2.grownBy w3 row) (hr : ∀ k, row = some k → w.heap.size ≤ k) : w.grownBy w3 none := by
  refine ⟨g.os.trans h.os, g.tape.trans h.tape, g.output.trans h.output, Nat.le_trans h.size g.size, fun j hj _ => ?_⟩
  rw [g.block j (Nat.lt_of_lt_of_le hj h.size) (fun e => by have := hr j e.symm; omega), h.block j hj (by simp)]
theorem app_nums (w : World) (B : Nat) (hB : B ≤ w.heap.size) (la : Option Addr) (lc : Nat) (l : List Int) (h : NumsAt w la l) (hn : l.length ≤ 1000000) (ty : TypeId) :
    ∃ v w', (Builtin.append_ #[24, 24] ty #[.slice none 0 0, .slice la l.length lc]).run Tryz.prog w = .ok v w' ∧ w'.ownsRow B 3 1 v l.length (l.map (Value.int .i64)) ∧ w.grownBy w' none := by
  obtain ⟨it, hit, hz, hsz, hby⟩ := info_parts info_i
  cases la with
  | none =>
    have hl : l = [] := by
      cases l with
      | nil => rfl
      | cons x r => obtain ⟨g, o, e, _⟩ := h 0 x (by simp); cases e
    subst hl
    refine ⟨.slice none 0 0, w, ?_, World.ownsRow_nil _ _ _ _, World.grownBy.refl _ _⟩
    simp [Builtin.append_, run_underlying Tryz.underlying24, sizeOf, typeInfo, hit, Builtin.lenOf, Builtin.firstCells]
  | some ad =>
    obtain ⟨v', w', q1, q2, q3, _⟩ := run_append_own (P := Tryz.prog) w B 24 ty 3 it _ 1 8 Tryz.underlying24 hit hz hsz hby rfl (by decide) (.slice none 0 0) 0 [] (World.ownsRow_nil _ _ _ _) ad l.length lc (l.map (Value.int .i64)) (by simp) h.adds (numC_one l) (by unfold maxLen; omega) (by omega) hB
    rw [Nat.zero_add, List.nil_append] at q2
    exact ⟨v', w', q1, q2, q3⟩
theorem wp_app_nums {o : Oper} {a : Act} {K : Act → World → Prop} {Q : Exit → Act → World → Prop} (w : World) (x : Operand)
    (ho : o.op = .call { callee := .builtin .append, args := #[.const (.slice none 0 0), x], argTypes := #[24, 24] }) (B : Nat) (hB : B ≤ w.heap.size)
    (la : Option Addr) (lc : Nat) (l : List Int) (hx : a.eval x = .slice la l.length lc) (hl : NumsAt w la l) (hn : l.length ≤ 1000000)
    (h : ∀ v' w', w'.ownsRow B 3 1 v' l.length (l.map (Value.int .i64)) → w.grownBy w' none → K (a.put o.dst v') w') : o.wp Tryz.prog a w K Q := by
  obtain ⟨v', w', hr, h2, h3⟩ := app_nums w B hB la lc l hl hn o.type
  have hs : a.eval (.const (.slice none 0 0)) = .slice none 0 0 := rfl
  unfold Oper.wp execOp
  simp only [ho, resolve, invoke, builtin, Sem.run_bind, Sem.run_pure, Result.andThen_ok, List.map_toArray, List.map_cons, List.map_nil, hs, hx, hr]
  exact h v' w' h2 h3
theorem wp_app_one {o : Oper} {a : Act} {K : Act → World → Prop} {Q : Exit → Act → World → Prop} (w : World) (s x : Operand)
    (ho : o.op = .call { callee := .builtin .append, args := #[s, x], argTypes := #[24, 24] }) (B : Nat) (hB : B ≤ w.heap.size)
    (v : Value) (l : List Int) (hs : a.eval s = v) (hown : w.ownsRow B 3 1 v l.length (l.map (Value.int .i64))) (A : Nat) (n : Int) (hx : a.eval x = .slice (some ⟨A, 0, none⟩) 1 1) (hA : w.cell? ⟨A, 0, none⟩ = some (.int .i64 n)) (hn : l.length ≤ 1000000)
    (h : ∀ v' w', w'.ownsRow B 3 1 v' (l ++ [n]).length ((l ++ [n]).map (Value.int .i64)) → w.grownBy w' v.ownBlock → K (a.put o.dst v') w') : o.wp Tryz.prog a w K Q := by
  obtain ⟨it, hit, hz, hsz, hby⟩ := info_parts info_i
  refine wp_append_own w s x 24 ho B 3 it _ 1 8 Tryz.underlying24 hit hz hsz hby rfl (by decide) v l.length (l.map (Value.int .i64)) hs hown ⟨A, 0, none⟩ 1 1 [.int .i64 n] hx rfl (fun j u hu => ?_) (by simp [Value.oneCell']) (by unfold maxLen; omega) (by omega) hB (fun v' w' a1 a2 _ => h v' w' (by simpa using a1) a2)
  cases j with
  | zero => simp at hu; subst hu; rw [addr_at]; exact hA
  | succ j => simp at hu

theorem ga2D (w : World) (A B : Obj) : w.grownBy ((w.alloc A).alloc B).drew none := by
  have h := (World.grownBy_alloc w A none).trans (World.grownBy_alloc (w.alloc A) B none)
  exact ⟨h.os, h.tape, h.output, h.size, h.block⟩
theorem wpL_as {P : Program} {ops : Array Oper} {Q : Exit → Act → World → Prop} {md : Region.Mode} {S : World → Prop} {Z : List Nat} {f : Nat} {l : Array Bool} {a : Act} {w : World} (h : ∀ W, W = w → wpL P md ops Q S Z f l a W) : wpL P md ops Q S Z f l a w := h w rfl

section
variable {ops : Array Oper} {Q : Exit → Act → World → Prop} {md : Region.Mode} {S : World → Prop} {Z : List Nat}
/-- append(append([]int(nil), l...), n): the list's copy and the row of n come in either order -/
theorem wpL_app2 {i j k d1 d2 d3 : Nat} {f : Nat} {l : Array Bool} {a : Act} {w : World} {x : Operand} {oi oj ok : Oper} {la : Option Addr} {lc : Nat} {L : List Int} {n : Int}
    (hr : Region.ready md ops l = [i, j] := by kernel_rfl) (hr1 : Region.ready md ops (l.setIfInBounds i true) = [j] := by kernel_rfl) (hr2 : Region.ready md ops (l.setIfInBounds j true) = [i] := by kernel_rfl) (hr3 : Region.ready md ops ((l.setIfInBounds i true).setIfInBounds j true) = [k] := by kernel_rfl)
    (hi : ops[i]? = some oi := by exact rfl) (hj : ops[j]? = some oj := by exact rfl) (hk : ops[k]? = some ok := by exact rfl) (hij : i ≠ j := by decide) (hd12 : d1 ≠ d2 := by decide)
    (hg : (oi.guard.isNone && oj.guard.isNone && ok.guard.isNone && (oi.dst == some d1) && (oj.dst == some d2) && (ok.dst == some d3)) = true := by kernel_rfl)
    (ho : oi.op = .call { callee := .builtin .append, args := #[.const (.slice none 0 0), x], argTypes := #[24, 24] } := by exact rfl)
    (ho3 : ok.op = .call { callee := .builtin .append, args := #[.tmp d1, .tmp d2], argTypes := #[24, 24] } := by exact rfl)
    (hx : a.eval x = .slice la L.length lc) (hx2 : ∀ v, (a.put (some d2) v).eval x = .slice la L.length lc)
    (hb1 : ∀ W, (execOp a.eval oj).run Tryz.prog W = .ok (.value (.slice (some ⟨W.heap.size, 0, none⟩) 1 1)) (W.alloc (.cells #[.int .i64 n] 3)))
    (hb2 : ∀ v W, (execOp (a.put (some d1) v).eval oj).run Tryz.prog W = .ok (.value (.slice (some ⟨W.heap.size, 0, none⟩) 1 1)) (W.alloc (.cells #[.int .i64 n] 3)))
    (he : ∀ v u, ((a.put (some d1) v).put (some d2) u).eval (.tmp d1) = v ∧ ((a.put (some d1) v).put (some d2) u).eval (.tmp d2) = u)
    (hl : NumsAt w la L) (hn : L.length ≤ 1000000) (hS : ∀ w', w.grownBy w' none → S w')
    (h : ∀ v1 v2 v3 w', w.grownBy w' none → w'.ownsRow w.heap.size 3 1 v3 (L ++ [n]).length ((L ++ [n]).map (Value.int .i64)) → wpL Tryz.prog md ops Q S Z f (((l.setIfInBounds i true).setIfInBounds j true).setIfInBounds k true) (((a.put (some d1) v1).put (some d2) v2).put (some d3) v3) w') :
    wpL Tryz.prog md ops Q S Z (f + 1 + 1 + 1) l a w := by
  simp only [Bool.and_eq_true, beq_iff_eq, Option.isNone_iff_eq_none] at hg
  obtain ⟨⟨⟨⟨⟨g1, g2⟩, g3⟩, e1⟩, e2⟩, e3⟩ := hg
  have wt : ∀ (o : Oper) (y : Array Value), o.guard = none → Region.wanted o (yielded ops y) = true := fun o y hg => by simp [Region.wanted, hg]
  -- the last one
  have fin : ∀ v1 A x1, w.grownBy x1 none → x1.ownsRow w.heap.size 3 1 v1 L.length (L.map (Value.int .i64)) → x1.cell? ⟨A, 0, none⟩ = some (.int .i64 n) →
      wpL Tryz.prog md ops Q S Z (f + 1) ((l.setIfInBounds i true).setIfInBounds j true) ((a.put (some d1) v1).put (some d2) (.slice (some ⟨A, 0, none⟩) 1 1)) x1 := fun v1 A x1 hg1 hown hA => by
    refine wpL_one hr3 (wpOp_now hk (wt _ _ g3) (fun K' hK => ?_))
    refine wp_app_one x1 _ _ ho3 w.heap.size hg1.size v1 L (he _ _).1 hown A n (he _ _).2 hA hn (fun v3 x3 hown3 hg3 => ?_)
    have hg4 := grown_ov hg1 hg3 (fun k e => (hown.lt k e).1)
    refine hK _ _ ⟨fun _ => hS _ hg4, ?_⟩
    rw [e3]
    exact h v1 _ v3 x3 hg4 hown3
  refine wpL_both hr ?_ ?_
  · refine wpOp_now hi (wt _ _ g1) (fun K' hK => ?_)
    refine wp_app_nums w x ho w.heap.size (Nat.le_refl _) la lc L hx hl hn (fun v1 x1 hown hg1 => ?_)
    refine hK _ _ ⟨fun _ => hS _ hg1, ?_⟩
    rw [e1]
    have hg2 := hg1.trans (World.grownBy_alloc x1 (.cells #[.int .i64 n] 3) none)
    refine wpL_val hr1 hj e2 (wt _ _ g2) (hb2 v1 x1) (hS _ hg2) ?_
    refine fin v1 x1.heap.size _ hg2 (hown.kept (World.grownBy_alloc x1 (.cells #[.int .i64 n] 3) none) (by cases hv : v1.ownBlock <;> simp)) ?_
    rw [cell_of_row _ _ 0 _ _ _ (heap_alloc_new x1 _)]
    rfl
  · refine wpOp_val hj e2 (wt _ _ g2) (hb1 w) ⟨fun _ => hS _ (World.grownBy_alloc w _ none), ?_⟩
    refine wpL_one hr2 (wpOp_now hi (wt _ _ g1) (fun K' hK => ?_))
    have hg0 := World.grownBy_alloc w (.cells #[.int .i64 n] 3) none
    refine wp_app_nums _ x ho w.heap.size hg0.size la lc L (hx2 _) (hl.on hg0) hn (fun v1 x1 hown hg1 => ?_)
    refine hK _ _ ⟨fun _ => hS _ (hg0.trans hg1), ?_⟩
    rw [e1]
    have hc := hg1.cell (show (w.alloc (.cells #[.int .i64 n] 3)).cell? ⟨w.heap.size, 0, none⟩ = some (.int .i64 n) by rw [cell_of_row _ _ 0 _ _ _ (heap_alloc_new w _)]; rfl) (by simp)
    have hc2 : ((a.put (some d2) (.slice (some ⟨w.heap.size, 0, none⟩) 1 1)).put (some d1) v1) = ((a.put (some d1) v1).put (some d2) (.slice (some ⟨w.heap.size, 0, none⟩) 1 1)) := by
      simp only [Act.put]
      rw [Array.setIfInBounds_comm _ _ hd12]
    rw [hc2, Array.setIfInBounds_comm _ _ (Ne.symm hij)]
    exact fin v1 _ x1 (hg0.trans hg1) hown hc
end
end Go.Proofs.YtfbhflpjhbemlaaGreat

/- Stage 19: metronomeref19.step: what it tells; a push. -/
namespace Go.Proofs.YtfbhflpjhbemlaaGreat
open Go.RowKit Go.Maps Go.WideMaps

/-- what step leaves -/
def StepP (w : World) (c : Cd.Code) (x : Cd.Ins) (s : List Int) (e : Ending) (w' : World) : Prop :=
  w.grownBy w' none ∧ ((∃ m a cap, Cd.step c x s = some m ∧ e = .returned (.tuple #[.slice a m.length cap, .bool true]) ∧ NumsAt w' a m.reverse ∧ m.length ≤ cap) ∨ (Cd.step c x s = none ∧ ∃ v, e = .returned (.tuple #[v, .bool false])))
theorem own_nums {w : World} {B : Nat} {v : Value} {l : List Int} (h : w.ownsRow B 3 1 v l.length (l.map (Value.int .i64))) : ∃ a c, v = .slice a l.length c ∧ NumsAt w a l ∧ l.length ≤ c := by
  obtain ⟨a, c, rfl, hn⟩ := NumsAt.own h
  refine ⟨a, c, rfl, hn, ?_⟩
  rcases h.2 with ⟨e, h0⟩ | ⟨g, cap, cur, e, hB, hh, h1, h2, h3, h4⟩
  · rw [h0]; exact Nat.zero_le _
  · injection e with e1 e2 e3
    omega
theorem StepP.push {w w' : World} {c : Cd.Code} {x : Cd.Ins} {s0 s : List Int} {k : Int} {ok : Bool} {v : Value} (hs : Cd.step c x s0 = if ok then some (k :: s) else none) (hg : w.grownBy w' none) {B : Nat} (hown : w'.ownsRow B 3 1 v (s.reverse ++ [k]).length ((s.reverse ++ [k]).map (Value.int .i64))) :
    StepP w c x s0 (.returned (.tuple #[v, .bool ok])) w' := by
  refine ⟨hg, ?_⟩
  cases ok with
  | false => exact .inr ⟨by simpa using hs, v, rfl⟩
  | true =>
    obtain ⟨a, cap, rfl, hn, hc⟩ := own_nums hown
    rw [show (s.reverse ++ [k]) = (k :: s).reverse by simp] at hn hc
    refine .inl ⟨k :: s, a, cap, by simpa using hs, by simp, hn, by simpa using hc⟩

set_option maxHeartbeats 4000000 in
set_option maxRecDepth 100000 in
theorem rstep1 (w : World) (c : Cd.Code) (ka : Option Addr) (kc : Nat) (ia : Option Addr) (ic : Nat) (ba : Option Addr) (bc : Nat) (n k : Int) (s : List Int) (a : Option Addr) (cap : Nat) (hn : NumsAt w a s.reverse) (hl : s.length ≤ 1000) :
    Calls Tryz.prog 42 #[.agg (codeV c ka kc ia ic ba bc), .agg #[.int .i64 1, .int .i64 n, .int .i64 k], .slice a s.length cap] w (StepP w c ⟨1, n, k⟩ s) := by
  have HS : Hid (Cd.step c ⟨1, n, k⟩ s = if Bv.isv k n then some (k :: s) else none) := Lib.hid rfl
  obtain ⟨r, hr⟩ : ∃ r, r = s.reverse := ⟨_, rfl⟩
  have hlr : s.length = r.length := by rw [hr]; simp
  rw [← hr] at hn
  have HN := Lib.hid hn
  have HL : Hid (r.length ≤ 1000000) := Lib.hid (by omega)
  have HR := Lib.hid hr
  rw [hlr]
  clear hn hl hlr hr
  unfold codeV
  generalize c.kinds.length = nk
  generalize c.init.length = ni
  generalize c.body.length = nb
  generalize hx1 : c.ins = x1
  generalize hx2 : c.outs = x2
  generalize hx3 : c.cells = x3
  generalize hx4 : c.stack = x4
  clear hx1 hx2 hx3 hx4
  have his := fun V => ris_any k n V
  generalize Bv.isv k n = ok at HS his
  go_enter Tryz.func42, Tryz.ntmps42
  go_upto_region 5 with (go_at_call 41; refine (his _).mono ?_; rintro e w' ⟨rfl, rfl⟩)
  refine wp_region_L (S := fun V => w.grownBy V none ∧ V.cell? ⟨w.heap.size + 1, 2, none⟩ = some (.int .i64 k)) (Z := []) (by kernel_rfl) ?_
  refine wpL_as fun W hW => ?_
  have hS : w.grownBy W none ∧ W.cell? ⟨w.heap.size + 1, 2, none⟩ = some (.int .i64 k) := by
    rw [hW]
    refine ⟨ga2D _ _ _, ?_⟩
    exact (cell_of_row _ _ 2 _ _ _ (by have := heap_alloc_new (w.alloc (.cells #[.slice ka nk kc, .int .i64 x1, .int .i64 x2, .int .i64 x3, .int .i64 x4, .slice ia ni ic, .slice ba nb bc] 27)) (.cells #[.int .i64 1, .int .i64 n, .int .i64 k] 32); rw [World.size_alloc] at this; exact this)).trans rfl
  clear hW
  (try simp only [Act.put, sA, sB, sC])
  refine t1 0 27 (.slice a r.length cap) hS ?_
  (try simp only [Act.put, sA, sB, sC])
  refine t1 2 29 (.pointer (some ⟨w.heap.size + 1, 2, none⟩)) hS ?_
  (try simp only [Act.put, sA, sB, sC])
  refine t2 3 30 (.int .i64 k) (fun w' hw' => ?_) hS ?_
  · have c2 := hw'.2
    clear hw' hS
    go_simp
  (try simp only [Act.put, sA, sB, sC])
  refine t1 6 33 (.bool ok) hS ?_
  (try simp only [Act.put, sA, sB, sC])
  refine wpL_app2 (i := 1) (j := 4) (k := 5) (d1 := 28) (d2 := 31) (d3 := 32) (x := .tmp 27) (la := a) (lc := cap) (L := r) (n := k) (hx := rfl) (hx2 := fun _ => rfl) (hb1 := fun _ => by kernel_rfl) (hb2 := fun _ _ => by kernel_rfl) (he := fun _ _ => ⟨rfl, rfl⟩) (hl := HN.out.on hS.1) (hn := HL.out) (hS := fun w' hg => ⟨hS.1.trans hg, hg.cell hS.2 (by simp)⟩) (h := fun v1 v2 v3 w' hg hown => ?_)
  have hS' : w.grownBy w' none ∧ w'.cell? ⟨w.heap.size + 1, 2, none⟩ = some (.int .i64 k) := ⟨hS.1.trans hg, hg.cell hS.2 (by simp)⟩
  clear hS hg
  (try simp only [Act.put, sA, sB, sC])
  refine t1 7 6 v3 hS' ?_
  (try simp only [Act.put, sA, sB, sC])
  refine t1 8 7 (.bool ok) hS' ?_
  (try simp only [Act.put, sA, sB, sC])
  refine wpL_done (by kernel_rfl) ?_ _
  rw [HR.out] at hown
  have HF := Lib.hid (StepP.push HS.out hS'.1 hown)
  clear hS' hown
  go_wp2
  go_ret2
  exact HF.out

end Go.Proofs.YtfbhflpjhbemlaaGreat

/- Stage 19: metronomeref19.step of a load (written by mkcuc.py). -/
namespace Go.Proofs.YtfbhflpjhbemlaaGreat
open Go.RowKit Go.Maps Go.WideMaps

theorem ga2 (w : World) (A B : Obj) : w.grownBy ((w.alloc A).alloc B) none := (World.grownBy_alloc w A none).trans (World.grownBy_alloc (w.alloc A) B none)
theorem box_at (w : World) (A : Obj) (cs : Array Value) (T : TypeId) (j : Nat) : ((w.alloc A).alloc (.cells cs T)).drew.cell? ⟨w.heap.size + 1, j, none⟩ = cs[j]? := by
  have h := heap_alloc_new (w.alloc A) (.cells cs T)
  rw [World.size_alloc] at h
  exact cell_of_row _ _ j _ _ _ h
theorem box_code (w : World) (cs : Array Value) (T : TypeId) (B : Obj) (j : Nat) : ((w.alloc (.cells cs T)).alloc B).drew.cell? ⟨w.heap.size, j, none⟩ = cs[j]? := by
  have h := heap_alloc_new w (.cells cs T)
  exact cell_of_row _ _ j _ _ _ ((heap_alloc_old (w.alloc (.cells cs T)) B (gl h)).trans h)
theorem step2 (c : Cd.Code) (n k : Int) (s : List Int) : Cd.step c ⟨2, n, k⟩ s = if k = 0 ∧ 0 ≤ n ∧ n < c.kinds.length then some (c.kinds.getD n.toNat 0 :: s) else none := rfl

set_option maxHeartbeats 4000000 in
set_option maxRecDepth 100000 in
theorem rstep2 (w : World) (c : Cd.Code) (ka : Option Addr) (kc : Nat) (ia : Option Addr) (ic : Nat) (ba : Option Addr) (bc : Nat) (n k : Int) (s : List Int) (a : Option Addr) (cap : Nat) (hc : NumsAt w ka c.kinds) (_hkl : c.kinds.length ≤ 8000) (hn : NumsAt w a s.reverse) (hl : s.length ≤ 1000) :
    Calls Tryz.prog 42 #[.agg (codeV c ka kc ia ic ba bc), .agg #[.int .i64 2, .int .i64 n, .int .i64 k], .slice a s.length cap] w (StepP w c ⟨2, n, k⟩ s) := by
  by_cases hall : k = 0 ∧ 0 ≤ n ∧ n < c.kinds.length
  · obtain ⟨rfl, h0, h1⟩ := hall
    obtain ⟨i, rfl⟩ : ∃ i : Nat, n = (i : Int) := ⟨n.toNat, by omega⟩
    obtain ⟨y, hy⟩ : ∃ y, c.kinds[i]? = some y := ⟨_, List.getElem?_eq_getElem (by omega)⟩
    have HS : Hid (Cd.step c ⟨2, (i : Int), 0⟩ s = if true then some (y :: s) else none) := Lib.hid (by rw [step2, if_pos ⟨rfl, h0, h1⟩, Int.toNat_natCast, List.getD_eq_getElem?_getD, hy]; rfl)
    obtain ⟨kb, ko, rfl, hcell⟩ := hc i y hy
    have HC := Lib.hid hcell
    obtain ⟨r, hr⟩ : ∃ r, r = s.reverse := ⟨_, rfl⟩
    have hlr : s.length = r.length := by rw [hr]; simp
    rw [← hr] at hn
    have HN := Lib.hid hn
    have HL : Hid (r.length ≤ 1000000) := Lib.hid (by omega)
    have HR := Lib.hid hr
    rw [hlr]
    clear hn hl hlr hr hc hy h0 hcell
    have e1 : decide ((c.kinds.length : Int) ≤ (i : Int)) = false := by rw [decide_eq_false_iff_not]; omega
    have h2 : i < c.kinds.length := by omega
    clear h1
    unfold codeV
    generalize c.kinds.length = nk at *
    generalize c.init.length = ni
    generalize c.body.length = nb
    generalize hx1 : c.ins = x1
    generalize hx2 : c.outs = x2
    generalize hx3 : c.cells = x3
    generalize hx4 : c.stack = x4
    clear hx1 hx2 hx3 hx4
    go_enter Tryz.func42, Tryz.ntmps42
    go_upto_region 9 with fail
    refine wp_region_L (S := fun V => w.grownBy V none ∧ V.cell? ⟨w.heap.size + 1, 1, none⟩ = some (.int .i64 (i : Int)) ∧ V.cell? ⟨w.heap.size, 0, none⟩ = some (.slice (some ⟨kb, ko, none⟩) nk kc)) (Z := []) (by kernel_rfl) ?_
    refine wpL_as fun W hW => ?_
    have hS : w.grownBy W none ∧ W.cell? ⟨w.heap.size + 1, 1, none⟩ = some (.int .i64 (i : Int)) ∧ W.cell? ⟨w.heap.size, 0, none⟩ = some (.slice (some ⟨kb, ko, none⟩) nk kc) := by
      rw [hW]
      exact ⟨ga2D _ _ _, box_at _ _ _ _ 1, box_code _ _ _ _ 0⟩
    clear hW
    (try simp only [Act.put, sA, sB, sC])
    refine t1 0 52 (.slice a r.length cap) hS ?_
    (try simp only [Act.put, sA, sB, sC])
    refine t1 2 54 (.pointer (some ⟨w.heap.size, 0, none⟩)) hS ?_
    (try simp only [Act.put, sA, sB, sC])
    refine t2 3 55 (.slice (some ⟨kb, ko, none⟩) nk kc) (fun w' hw' => ?_) hS ?_
    · have c2 := hw'.2.2
      clear hw' hS
      go_simp
    (try simp only [Act.put, sA, sB, sC])
    refine t1 4 56 (.pointer (some ⟨w.heap.size + 1, 1, none⟩)) hS ?_
    (try simp only [Act.put, sA, sB, sC])
    refine t2 5 57 (.int .i64 (i : Int)) (fun w' hw' => ?_) hS ?_
    · have c2 := hw'.2.1
      clear hw' hS
      go_simp
    (try simp only [Act.put, sA, sB, sC])
    refine t2 6 58 (.pointer (some ⟨kb, ko + i, none⟩)) (fun w' hw' => ?_) hS ?_
    · clear hw' hS
      go_simp
    (try simp only [Act.put, sA, sB, sC])
    refine t2 7 59 (.int .i64 y) (fun w' hw' => ?_) hS ?_
    · have c2 := hw'.1.cell HC.out (by simp)
      clear hw' hS
      go_simp
    (try simp only [Act.put, sA, sB, sC])
    refine wpL_app2 (i := 1) (j := 8) (k := 9) (d1 := 53) (d2 := 60) (d3 := 61) (x := .tmp 52) (la := a) (lc := cap) (L := r) (n := y) (hx := rfl) (hx2 := fun _ => rfl) (hb1 := fun _ => by kernel_rfl) (hb2 := fun _ _ => by kernel_rfl) (he := fun _ _ => ⟨rfl, rfl⟩) (hl := HN.out.on hS.1) (hn := HL.out) (hS := fun w' hg => ⟨hS.1.trans hg, hg.cell hS.2.1 (by simp), hg.cell hS.2.2 (by simp)⟩) (h := fun v1 v2 v3 w' hg hown => ?_)
    have hS' : w.grownBy w' none ∧ w'.cell? ⟨w.heap.size + 1, 1, none⟩ = some (.int .i64 (i : Int)) ∧ w'.cell? ⟨w.heap.size, 0, none⟩ = some (.slice (some ⟨kb, ko, none⟩) nk kc) := ⟨hS.1.trans hg, hg.cell hS.2.1 (by simp), hg.cell hS.2.2 (by simp)⟩
    clear hS hg
    (try simp only [Act.put, sA, sB, sC])
    refine t1 10 6 v3 hS' ?_
    (try simp only [Act.put, sA, sB, sC])
    refine t1 11 7 (.bool true) hS' ?_
    (try simp only [Act.put, sA, sB, sC])
    refine wpL_done (by kernel_rfl) ?_ _
    rw [HR.out] at hown
    have HF := Lib.hid (StepP.push HS.out hS'.1 hown)
    clear hS' hown
    go_wp2
    go_ret2
    exact HF.out
  · have HS : Hid (Cd.step c ⟨2, n, k⟩ s = none) := Lib.hid (by rw [step2, if_neg hall])
    clear hc hn
    unfold codeV
    generalize hnk : c.kinds.length = nk at *
    generalize c.init.length = ni
    generalize c.body.length = nb
    generalize hx1 : c.ins = x1
    generalize hx2 : c.outs = x2
    generalize hx3 : c.cells = x3
    generalize hx4 : c.stack = x4
    clear hx1 hx2 hx3 hx4 hnk
    by_cases hk : k = 0
    · subst hk
      by_cases h0 : n < 0
      · have e1 : decide (n < 0) = true := by rw [decide_eq_true_iff]; exact h0
        clear hall h0
        go_enter Tryz.func42, Tryz.ntmps42
        go_wp2
        go_ret2
        exact ⟨by first | exact ga2 _ _ _ | exact ga2D _ _ _, .inr ⟨HS.out, _, rfl⟩⟩
      · have e1 : decide (n < 0) = false := by rw [decide_eq_false_iff_not]; exact h0
        have e2 : decide ((nk : Int) ≤ n) = true := by rw [decide_eq_true_iff]; omega
        clear hall h0
        go_enter Tryz.func42, Tryz.ntmps42
        go_wp2
        go_ret2
        exact ⟨by first | exact ga2 _ _ _ | exact ga2D _ _ _, .inr ⟨HS.out, _, rfl⟩⟩
    · have e1 : (k != 0) = true := by simp [hk]
      clear hall hk
      go_enter Tryz.func42, Tryz.ntmps42
      go_wp2
      go_ret2
      exact ⟨by first | exact ga2 _ _ _ | exact ga2D _ _ _, .inr ⟨HS.out, _, rfl⟩⟩
end Go.Proofs.YtfbhflpjhbemlaaGreat

/- Stage 19: metronomeref19.step of a save (written by mkcud.py). -/
namespace Go.Proofs.YtfbhflpjhbemlaaGreat
open Go.RowKit Go.Maps Go.WideMaps

theorem wp_as {P : Program} {c : Code} {Q : Exit → Act → World → Prop} {a : Act} {w : World} (h : ∀ W, W = w → c.wp P Q a W) : c.wp P Q a w := h w rfl
theorem box_at2 (w : World) (A : Obj) (cs : Array Value) (T : TypeId) (j : Nat) : ((w.alloc A).alloc (.cells cs T)).cell? ⟨w.heap.size + 1, j, none⟩ = cs[j]? := box_at w A cs T j
theorem box_code2 (w : World) (cs : Array Value) (T : TypeId) (B : Obj) (j : Nat) : ((w.alloc (.cells cs T)).alloc B).cell? ⟨w.heap.size, j, none⟩ = cs[j]? := box_code w cs T B j
theorem StepP.keep {w W : World} {c : Cd.Code} {x : Cd.Ins} {s m : List Int} {a : Option Addr} {cap : Nat} (hs : Cd.step c x s = some m) (hg : w.grownBy W none) (hn : NumsAt w a m.reverse) (hc : m.length ≤ cap) : StepP w c x s (.returned (.tuple #[.slice a m.length cap, .bool true])) W := ⟨hg, .inl ⟨m, a, cap, hs, rfl, hn.on hg, hc⟩⟩
theorem drewG {w W : World} (h : w.grownBy W none) : w.grownBy W.drew none := ⟨h.os, h.tape, h.output, h.size, h.block⟩
/-- the top of the stack, and what is below it -/
theorem NumsAt.top {w : World} {a : Option Addr} {x : Int} {s : List Int} (h : NumsAt w a (x :: s).reverse) : ∃ b o, a = some ⟨b, o, none⟩ ∧ w.cell? ⟨b, o + s.length, none⟩ = some (.int .i64 x) := h s.length x (by simp)
theorem NumsAt.below {w : World} {a : Option Addr} {x : Int} {s : List Int} (h : NumsAt w a (x :: s).reverse) : NumsAt w a s.reverse := by
  have := h.take s.length
  rwa [List.reverse_cons, List.take_left' (by simp)] at this
theorem wr_top {m : Nat} (h : m ≤ 1000) : wrap64 ((m : Int) + 1 - 1) = (m : Int) ∧ wrap64 (m : Int) = (m : Int) := by
  constructor <;> (unfold wrap64; omega)

theorem step3 (c : Cd.Code) (n k : Int) (s : List Int) : Cd.step c ⟨3, n, k⟩ s = (match s with | [] => none | a :: r => if k = 0 ∧ c.ins ≤ n ∧ n < c.kinds.length ∧ a = c.kinds.getD n.toNat 0 then some r else none) := rfl

set_option maxHeartbeats 4000000 in
set_option maxRecDepth 100000 in
theorem rstep3_bad (w : World) (c : Cd.Code) (ka : Option Addr) (kc : Nat) (ia : Option Addr) (ic : Nat) (ba : Option Addr) (bc : Nat) (n k : Int) (s : List Int) (a : Option Addr) (cap : Nat) (_hc : NumsAt w ka c.kinds) (_hkl : c.kinds.length ≤ 8000) (_hi0 : 0 ≤ c.ins) (hn : NumsAt w a s.reverse) (hl : s.length ≤ 1000) (hcap : s.length ≤ cap) (hall : ¬ (k = 0 ∧ c.ins ≤ n ∧ n < c.kinds.length)) : Calls Tryz.prog 42 #[.agg (codeV c ka kc ia ic ba bc), .agg #[.int .i64 3, .int .i64 n, .int .i64 k], .slice a s.length cap] w (StepP w c ⟨3, n, k⟩ s) := by
  have HS : Hid (Cd.step c ⟨3, n, k⟩ s = none) := Lib.hid (by rw [step3]; cases s with | nil => rfl | cons x s => exact if_neg (fun h => hall ⟨h.1, h.2.1, h.2.2.1⟩))
  have hl2 : s.length ≤ 9223372036854775807 := by omega
  clear hn hcap hl
  generalize s.length = m at *
  by_cases hk : k = 0
  · subst hk
    by_cases h1 : c.ins ≤ n
    · have e1 : decide (n < c.ins) = false := by rw [decide_eq_false_iff_not]; omega
      have e2 : decide ((c.kinds.length : Int) ≤ n) = true := by rw [decide_eq_true_iff]; omega
      clear hall h1
      unfold codeV
      generalize c.kinds.length = nk at *
      generalize c.init.length = ni
      generalize c.body.length = nb
      generalize hx1 : c.ins = x1 at *
      generalize hx2 : c.outs = x2 at *
      generalize hx3 : c.cells = x3 at *
      generalize hx4 : c.stack = x4 at *
      clear hx1 hx2 hx3 hx4
      go_enter Tryz.func42, Tryz.ntmps42
      go_upto_region 11 with fail
      refine wp_as fun W hW => ?_
      have HG : Hid (w.grownBy W none) := Lib.hid (by rw [hW]; exact ga2 _ _ _)
      have kx0 : W.cell? ⟨w.heap.size + 1, 0, none⟩ = some (.int .i64 3) := by rw [hW]; exact box_at2 _ _ _ _ 0
      have kx1 : W.cell? ⟨w.heap.size + 1, 1, none⟩ = some (.int .i64 (n)) := by rw [hW]; exact box_at2 _ _ _ _ 1
      have kx2 : W.cell? ⟨w.heap.size + 1, 2, none⟩ = some (.int .i64 (0)) := by rw [hW]; exact box_at2 _ _ _ _ 2
      have ky0 : W.cell? ⟨w.heap.size, 0, none⟩ = some (.slice (ka) nk kc) := by rw [hW]; exact box_code2 _ _ _ _ 0
      have ky1 : W.cell? ⟨w.heap.size, 1, none⟩ = some (.int .i64 x1) := by rw [hW]; exact box_code2 _ _ _ _ 1
      clear hW
      refine wp_region_L (S := fun V => W.grownBy V none) (Z := []) (by kernel_rfl) ?_
      have hS : W.grownBy W.drew none := ⟨rfl, rfl, rfl, Nat.le_refl _, fun _ _ _ => rfl⟩
      (try simp only [Act.put, sA, sB, sC])
      refine t1 0 64 (.pointer (some ⟨w.heap.size + 1, 2, none⟩)) hS ?_
      (try simp only [Act.put, sA, sB, sC])
      refine t2 1 65 (.int .i64 (0)) (fun w' hw' => ?_) hS ?_
      · have z := hw'.cell kx2 (by simp); clear hw' hS; go_simp
      (try simp only [Act.put, sA, sB, sC])
      refine t2 2 66 (.bool false) (fun w' hw' => ?_) hS ?_
      · clear hw' hS; go_simp; (try (intro e; omega))
      (try simp only [Act.put, sA, sB, sC])
      refine t1 3 67 (.bool false) hS ?_
      (try simp only [Act.put, sA, sB, sC])
      refine t1 4 68 (.pointer (some ⟨w.heap.size + 1, 1, none⟩)) hS ?_
      (try simp only [Act.put, sA, sB, sC])
      refine t2 5 69 (.int .i64 (n)) (fun w' hw' => ?_) hS ?_
      · have z := hw'.cell kx1 (by simp); clear hw' hS; go_simp
      (try simp only [Act.put, sA, sB, sC])
      refine t1 6 70 (.pointer (some ⟨w.heap.size, 1, none⟩)) hS ?_
      (try simp only [Act.put, sA, sB, sC])
      refine t2 7 71 (.int .i64 x1) (fun w' hw' => ?_) hS ?_
      · have z := hw'.cell ky1 (by simp); clear hw' hS; go_simp
      (try simp only [Act.put, sA, sB, sC])
      refine t2 8 72 (.bool false) (fun w' hw' => ?_) hS ?_
      · clear hw' hS; go_simp; (try (intro e; omega))
      (try simp only [Act.put, sA, sB, sC])
      refine t1 9 73 (.bool false) hS ?_
      (try simp only [Act.put, sA, sB, sC])
      refine t1 10 74 (.bool false) hS ?_
      (try simp only [Act.put, sA, sB, sC])
      refine t1 11 75 (.pointer (some ⟨w.heap.size + 1, 1, none⟩)) hS ?_
      (try simp only [Act.put, sA, sB, sC])
      refine t2 12 76 (.int .i64 (n)) (fun w' hw' => ?_) hS ?_
      · have z := hw'.cell kx1 (by simp); clear hw' hS; go_simp
      (try simp only [Act.put, sA, sB, sC])
      refine t1 13 77 (.pointer (some ⟨w.heap.size, 0, none⟩)) hS ?_
      (try simp only [Act.put, sA, sB, sC])
      refine t2 14 78 (.slice ka nk kc) (fun w' hw' => ?_) hS ?_
      · have z := hw'.cell ky0 (by simp); clear hw' hS; go_simp
      (try simp only [Act.put, sA, sB, sC])
      refine t2 15 79 (.int .i64 (nk : Int)) (fun w' hw' => ?_) hS ?_
      · clear hw' hS; go_simp; (try (intro e; omega))
      (try simp only [Act.put, sA, sB, sC])
      refine t2 16 80 (.bool true) (fun w' hw' => ?_) hS ?_
      · clear hw' hS; go_simp; (try (intro e; omega))
      (try simp only [Act.put, sA, sB, sC])
      refine t1 17 81 (.bool true) hS ?_
      (try simp only [Act.put, sA, sB, sC])
      refine t1 18 82 (.bool true) hS ?_
      (try simp only [Act.put, sA, sB, sC])
      refine t3 19 83 hS ?_
      (try simp only [Act.put, sA, sB, sC])
      refine t3 20 84 hS ?_
      (try simp only [Act.put, sA, sB, sC])
      refine t1 21 85 (.bool true) hS ?_
      (try simp only [Act.put, sA, sB, sC])
      refine t1 22 86 (.bool true) hS ?_
      (try simp only [Act.put, sA, sB, sC])
      refine t3 23 87 hS ?_
      (try simp only [Act.put, sA, sB, sC])
      refine t3 24 88 hS ?_
      (try simp only [Act.put, sA, sB, sC])
      refine t3 25 89 hS ?_
      (try simp only [Act.put, sA, sB, sC])
      refine t3 26 90 hS ?_
      (try simp only [Act.put, sA, sB, sC])
      refine t3 27 91 hS ?_
      (try simp only [Act.put, sA, sB, sC])
      refine t3 28 92 hS ?_
      (try simp only [Act.put, sA, sB, sC])
      refine t3 29 93 hS ?_
      (try simp only [Act.put, sA, sB, sC])
      refine t3 30 94 hS ?_
      (try simp only [Act.put, sA, sB, sC])
      refine t3 31 95 hS ?_
      (try simp only [Act.put, sA, sB, sC])
      refine t3 32 96 hS ?_
      (try simp only [Act.put, sA, sB, sC])
      refine t3 33 97 hS ?_
      (try simp only [Act.put, sA, sB, sC])
      refine t1 34 98 (.bool true) hS ?_
      (try simp only [Act.put, sA, sB, sC])
      refine wpL_done (by kernel_rfl) ?_ _
      go_wp2
      go_ret2
      exact ⟨⟨HG.out.os, HG.out.tape, HG.out.output, HG.out.size, HG.out.block⟩, .inr ⟨HS.out, _, rfl⟩⟩
    · have e1 : decide (n < c.ins) = true := by rw [decide_eq_true_iff]; omega
      clear hall h1
      unfold codeV
      generalize c.kinds.length = nk at *
      generalize c.init.length = ni
      generalize c.body.length = nb
      generalize hx1 : c.ins = x1 at *
      generalize hx2 : c.outs = x2 at *
      generalize hx3 : c.cells = x3 at *
      generalize hx4 : c.stack = x4 at *
      clear hx1 hx2 hx3 hx4
      go_enter Tryz.func42, Tryz.ntmps42
      go_upto_region 11 with fail
      refine wp_as fun W hW => ?_
      have HG : Hid (w.grownBy W none) := Lib.hid (by rw [hW]; exact ga2 _ _ _)
      have kx0 : W.cell? ⟨w.heap.size + 1, 0, none⟩ = some (.int .i64 3) := by rw [hW]; exact box_at2 _ _ _ _ 0
      have kx1 : W.cell? ⟨w.heap.size + 1, 1, none⟩ = some (.int .i64 (n)) := by rw [hW]; exact box_at2 _ _ _ _ 1
      have kx2 : W.cell? ⟨w.heap.size + 1, 2, none⟩ = some (.int .i64 (0)) := by rw [hW]; exact box_at2 _ _ _ _ 2
      have ky0 : W.cell? ⟨w.heap.size, 0, none⟩ = some (.slice (ka) nk kc) := by rw [hW]; exact box_code2 _ _ _ _ 0
      have ky1 : W.cell? ⟨w.heap.size, 1, none⟩ = some (.int .i64 x1) := by rw [hW]; exact box_code2 _ _ _ _ 1
      clear hW
      refine wp_region_L (S := fun V => W.grownBy V none) (Z := []) (by kernel_rfl) ?_
      have hS : W.grownBy W.drew none := ⟨rfl, rfl, rfl, Nat.le_refl _, fun _ _ _ => rfl⟩
      (try simp only [Act.put, sA, sB, sC])
      refine t1 0 64 (.pointer (some ⟨w.heap.size + 1, 2, none⟩)) hS ?_
      (try simp only [Act.put, sA, sB, sC])
      refine t2 1 65 (.int .i64 (0)) (fun w' hw' => ?_) hS ?_
      · have z := hw'.cell kx2 (by simp); clear hw' hS; go_simp
      (try simp only [Act.put, sA, sB, sC])
      refine t2 2 66 (.bool false) (fun w' hw' => ?_) hS ?_
      · clear hw' hS; go_simp; (try (intro e; omega))
      (try simp only [Act.put, sA, sB, sC])
      refine t1 3 67 (.bool false) hS ?_
      (try simp only [Act.put, sA, sB, sC])
      refine t1 4 68 (.pointer (some ⟨w.heap.size + 1, 1, none⟩)) hS ?_
      (try simp only [Act.put, sA, sB, sC])
      refine t2 5 69 (.int .i64 (n)) (fun w' hw' => ?_) hS ?_
      · have z := hw'.cell kx1 (by simp); clear hw' hS; go_simp
      (try simp only [Act.put, sA, sB, sC])
      refine t1 6 70 (.pointer (some ⟨w.heap.size, 1, none⟩)) hS ?_
      (try simp only [Act.put, sA, sB, sC])
      refine t2 7 71 (.int .i64 x1) (fun w' hw' => ?_) hS ?_
      · have z := hw'.cell ky1 (by simp); clear hw' hS; go_simp
      (try simp only [Act.put, sA, sB, sC])
      refine t2 8 72 (.bool true) (fun w' hw' => ?_) hS ?_
      · clear hw' hS; go_simp; (try (intro e; omega))
      (try simp only [Act.put, sA, sB, sC])
      refine t1 9 73 (.bool true) hS ?_
      (try simp only [Act.put, sA, sB, sC])
      refine t1 10 74 (.bool true) hS ?_
      (try simp only [Act.put, sA, sB, sC])
      refine t3 11 75 hS ?_
      (try simp only [Act.put, sA, sB, sC])
      refine t3 12 76 hS ?_
      (try simp only [Act.put, sA, sB, sC])
      refine t3 13 77 hS ?_
      (try simp only [Act.put, sA, sB, sC])
      refine t3 14 78 hS ?_
      (try simp only [Act.put, sA, sB, sC])
      refine t3 15 79 hS ?_
      (try simp only [Act.put, sA, sB, sC])
      refine t3 16 80 hS ?_
      (try simp only [Act.put, sA, sB, sC])
      refine t1 17 81 (.bool true) hS ?_
      (try simp only [Act.put, sA, sB, sC])
      refine t1 18 82 (.bool true) hS ?_
      (try simp only [Act.put, sA, sB, sC])
      refine t3 19 83 hS ?_
      (try simp only [Act.put, sA, sB, sC])
      refine t3 20 84 hS ?_
      (try simp only [Act.put, sA, sB, sC])
      refine t1 21 85 (.bool true) hS ?_
      (try simp only [Act.put, sA, sB, sC])
      refine t1 22 86 (.bool true) hS ?_
      (try simp only [Act.put, sA, sB, sC])
      refine t3 23 87 hS ?_
      (try simp only [Act.put, sA, sB, sC])
      refine t3 24 88 hS ?_
      (try simp only [Act.put, sA, sB, sC])
      refine t3 25 89 hS ?_
      (try simp only [Act.put, sA, sB, sC])
      refine t3 26 90 hS ?_
      (try simp only [Act.put, sA, sB, sC])
      refine t3 27 91 hS ?_
      (try simp only [Act.put, sA, sB, sC])
      refine t3 28 92 hS ?_
      (try simp only [Act.put, sA, sB, sC])
      refine t3 29 93 hS ?_
      (try simp only [Act.put, sA, sB, sC])
      refine t3 30 94 hS ?_
      (try simp only [Act.put, sA, sB, sC])
      refine t3 31 95 hS ?_
      (try simp only [Act.put, sA, sB, sC])
      refine t3 32 96 hS ?_
      (try simp only [Act.put, sA, sB, sC])
      refine t3 33 97 hS ?_
      (try simp only [Act.put, sA, sB, sC])
      refine t1 34 98 (.bool true) hS ?_
      (try simp only [Act.put, sA, sB, sC])
      refine wpL_done (by kernel_rfl) ?_ _
      go_wp2
      go_ret2
      exact ⟨⟨HG.out.os, HG.out.tape, HG.out.output, HG.out.size, HG.out.block⟩, .inr ⟨HS.out, _, rfl⟩⟩
  · have e1 : (k != 0) = true := by simp [hk]
    clear hall hk
    unfold codeV
    generalize c.kinds.length = nk at *
    generalize c.init.length = ni
    generalize c.body.length = nb
    generalize hx1 : c.ins = x1 at *
    generalize hx2 : c.outs = x2 at *
    generalize hx3 : c.cells = x3 at *
    generalize hx4 : c.stack = x4 at *
    clear hx1 hx2 hx3 hx4
    go_enter Tryz.func42, Tryz.ntmps42
    go_upto_region 11 with fail
    refine wp_as fun W hW => ?_
    have HG : Hid (w.grownBy W none) := Lib.hid (by rw [hW]; exact ga2 _ _ _)
    have kx0 : W.cell? ⟨w.heap.size + 1, 0, none⟩ = some (.int .i64 3) := by rw [hW]; exact box_at2 _ _ _ _ 0
    have kx1 : W.cell? ⟨w.heap.size + 1, 1, none⟩ = some (.int .i64 (n)) := by rw [hW]; exact box_at2 _ _ _ _ 1
    have kx2 : W.cell? ⟨w.heap.size + 1, 2, none⟩ = some (.int .i64 (k)) := by rw [hW]; exact box_at2 _ _ _ _ 2
    have ky0 : W.cell? ⟨w.heap.size, 0, none⟩ = some (.slice (ka) nk kc) := by rw [hW]; exact box_code2 _ _ _ _ 0
    have ky1 : W.cell? ⟨w.heap.size, 1, none⟩ = some (.int .i64 x1) := by rw [hW]; exact box_code2 _ _ _ _ 1
    clear hW
    refine wp_region_L (S := fun V => W.grownBy V none) (Z := []) (by kernel_rfl) ?_
    have hS : W.grownBy W.drew none := ⟨rfl, rfl, rfl, Nat.le_refl _, fun _ _ _ => rfl⟩
    (try simp only [Act.put, sA, sB, sC])
    refine t1 0 64 (.pointer (some ⟨w.heap.size + 1, 2, none⟩)) hS ?_
    (try simp only [Act.put, sA, sB, sC])
    refine t2 1 65 (.int .i64 (k)) (fun w' hw' => ?_) hS ?_
    · have z := hw'.cell kx2 (by simp); clear hw' hS; go_simp
    (try simp only [Act.put, sA, sB, sC])
    refine t2 2 66 (.bool true) (fun w' hw' => ?_) hS ?_
    · clear hw' hS; go_simp; (try (intro e; omega))
    (try simp only [Act.put, sA, sB, sC])
    refine t1 3 67 (.bool true) hS ?_
    (try simp only [Act.put, sA, sB, sC])
    refine t3 4 68 hS ?_
    (try simp only [Act.put, sA, sB, sC])
    refine t3 5 69 hS ?_
    (try simp only [Act.put, sA, sB, sC])
    refine t3 6 70 hS ?_
    (try simp only [Act.put, sA, sB, sC])
    refine t3 7 71 hS ?_
    (try simp only [Act.put, sA, sB, sC])
    refine t3 8 72 hS ?_
    (try simp only [Act.put, sA, sB, sC])
    refine t1 9 73 (.bool true) hS ?_
    (try simp only [Act.put, sA, sB, sC])
    refine t1 10 74 (.bool true) hS ?_
    (try simp only [Act.put, sA, sB, sC])
    refine t3 11 75 hS ?_
    (try simp only [Act.put, sA, sB, sC])
    refine t3 12 76 hS ?_
    (try simp only [Act.put, sA, sB, sC])
    refine t3 13 77 hS ?_
    (try simp only [Act.put, sA, sB, sC])
    refine t3 14 78 hS ?_
    (try simp only [Act.put, sA, sB, sC])
    refine t3 15 79 hS ?_
    (try simp only [Act.put, sA, sB, sC])
    refine t3 16 80 hS ?_
    (try simp only [Act.put, sA, sB, sC])
    refine t1 17 81 (.bool true) hS ?_
    (try simp only [Act.put, sA, sB, sC])
    refine t1 18 82 (.bool true) hS ?_
    (try simp only [Act.put, sA, sB, sC])
    refine t3 19 83 hS ?_
    (try simp only [Act.put, sA, sB, sC])
    refine t3 20 84 hS ?_
    (try simp only [Act.put, sA, sB, sC])
    refine t1 21 85 (.bool true) hS ?_
    (try simp only [Act.put, sA, sB, sC])
    refine t1 22 86 (.bool true) hS ?_
    (try simp only [Act.put, sA, sB, sC])
    refine t3 23 87 hS ?_
    (try simp only [Act.put, sA, sB, sC])
    refine t3 24 88 hS ?_
    (try simp only [Act.put, sA, sB, sC])
    refine t3 25 89 hS ?_
    (try simp only [Act.put, sA, sB, sC])
    refine t3 26 90 hS ?_
    (try simp only [Act.put, sA, sB, sC])
    refine t3 27 91 hS ?_
    (try simp only [Act.put, sA, sB, sC])
    refine t3 28 92 hS ?_
    (try simp only [Act.put, sA, sB, sC])
    refine t3 29 93 hS ?_
    (try simp only [Act.put, sA, sB, sC])
    refine t3 30 94 hS ?_
    (try simp only [Act.put, sA, sB, sC])
    refine t3 31 95 hS ?_
    (try simp only [Act.put, sA, sB, sC])
    refine t3 32 96 hS ?_
    (try simp only [Act.put, sA, sB, sC])
    refine t3 33 97 hS ?_
    (try simp only [Act.put, sA, sB, sC])
    refine t1 34 98 (.bool true) hS ?_
    (try simp only [Act.put, sA, sB, sC])
    refine wpL_done (by kernel_rfl) ?_ _
    go_wp2
    go_ret2
    exact ⟨⟨HG.out.os, HG.out.tape, HG.out.output, HG.out.size, HG.out.block⟩, .inr ⟨HS.out, _, rfl⟩⟩

set_option maxHeartbeats 4000000 in
set_option maxRecDepth 100000 in
theorem rstep3 (w : World) (c : Cd.Code) (ka : Option Addr) (kc : Nat) (ia : Option Addr) (ic : Nat) (ba : Option Addr) (bc : Nat) (n k : Int) (s : List Int) (a : Option Addr) (cap : Nat) (hc : NumsAt w ka c.kinds) (hkl : c.kinds.length ≤ 8000) (hi0 : 0 ≤ c.ins) (hn : NumsAt w a s.reverse) (hl : s.length ≤ 1000) (hcap : s.length ≤ cap) : Calls Tryz.prog 42 #[.agg (codeV c ka kc ia ic ba bc), .agg #[.int .i64 3, .int .i64 n, .int .i64 k], .slice a s.length cap] w (StepP w c ⟨3, n, k⟩ s) := by
  by_cases hall : k = 0 ∧ c.ins ≤ n ∧ n < c.kinds.length
  · obtain ⟨rfl, h1, h2⟩ := hall
    obtain ⟨i, rfl⟩ : ∃ i : Nat, n = (i : Int) := ⟨n.toNat, by omega⟩
    obtain ⟨y, hy⟩ : ∃ y, c.kinds[i]? = some y := ⟨_, List.getElem?_eq_getElem (by omega)⟩
    have hgd : c.kinds.getD (i : Int).toNat 0 = y := by rw [Int.toNat_natCast, List.getD_eq_getElem?_getD, hy]; rfl
    obtain ⟨kb, ko, rfl, hcell⟩ := hc i y hy
    have e1 : decide ((i : Int) < c.ins) = false := by rw [decide_eq_false_iff_not]; omega
    have e2 : decide ((c.kinds.length : Int) ≤ (i : Int)) = false := by rw [decide_eq_false_iff_not]; omega
    have h3 : i < c.kinds.length := by omega
    cases s with
    | nil =>
      have HS : Hid (Cd.step c ⟨3, (i : Int), 0⟩ [] = none) := Lib.hid rfl
      clear hc hn hy hgd hcap hl h1 h2 hi0 hkl
      unfold codeV
      generalize c.kinds.length = nk at *
      generalize c.init.length = ni
      generalize c.body.length = nb
      generalize hx1 : c.ins = x1 at *
      generalize hx2 : c.outs = x2 at *
      generalize hx3 : c.cells = x3 at *
      generalize hx4 : c.stack = x4 at *
      clear hx1 hx2 hx3 hx4
      simp only [List.length_nil] at *
      go_enter Tryz.func42, Tryz.ntmps42
      go_upto_region 11 with fail
      refine wp_as fun W hW => ?_
      have HG : Hid (w.grownBy W none) := Lib.hid (by rw [hW]; exact ga2 _ _ _)
      have kx0 : W.cell? ⟨w.heap.size + 1, 0, none⟩ = some (.int .i64 3) := by rw [hW]; exact box_at2 _ _ _ _ 0
      have kx1 : W.cell? ⟨w.heap.size + 1, 1, none⟩ = some (.int .i64 ((i : Int))) := by rw [hW]; exact box_at2 _ _ _ _ 1
      have kx2 : W.cell? ⟨w.heap.size + 1, 2, none⟩ = some (.int .i64 (0)) := by rw [hW]; exact box_at2 _ _ _ _ 2
      have ky0 : W.cell? ⟨w.heap.size, 0, none⟩ = some (.slice (some ⟨kb, ko, none⟩) nk kc) := by rw [hW]; exact box_code2 _ _ _ _ 0
      have ky1 : W.cell? ⟨w.heap.size, 1, none⟩ = some (.int .i64 x1) := by rw [hW]; exact box_code2 _ _ _ _ 1
      clear hW
      clear hcell
      refine wp_region_L (S := fun V => W.grownBy V none) (Z := []) (by kernel_rfl) ?_
      have hS : W.grownBy W.drew none := ⟨rfl, rfl, rfl, Nat.le_refl _, fun _ _ _ => rfl⟩
      (try simp only [Act.put, sA, sB, sC])
      refine t1 0 64 (.pointer (some ⟨w.heap.size + 1, 2, none⟩)) hS ?_
      (try simp only [Act.put, sA, sB, sC])
      refine t2 1 65 (.int .i64 (0)) (fun w' hw' => ?_) hS ?_
      · have z := hw'.cell kx2 (by simp); clear hw' hS; go_simp
      (try simp only [Act.put, sA, sB, sC])
      refine t2 2 66 (.bool false) (fun w' hw' => ?_) hS ?_
      · clear hw' hS; go_simp; (try (intro e; omega))
      (try simp only [Act.put, sA, sB, sC])
      refine t1 3 67 (.bool false) hS ?_
      (try simp only [Act.put, sA, sB, sC])
      refine t1 4 68 (.pointer (some ⟨w.heap.size + 1, 1, none⟩)) hS ?_
      (try simp only [Act.put, sA, sB, sC])
      refine t2 5 69 (.int .i64 ((i : Int))) (fun w' hw' => ?_) hS ?_
      · have z := hw'.cell kx1 (by simp); clear hw' hS; go_simp
      (try simp only [Act.put, sA, sB, sC])
      refine t1 6 70 (.pointer (some ⟨w.heap.size, 1, none⟩)) hS ?_
      (try simp only [Act.put, sA, sB, sC])
      refine t2 7 71 (.int .i64 x1) (fun w' hw' => ?_) hS ?_
      · have z := hw'.cell ky1 (by simp); clear hw' hS; go_simp
      (try simp only [Act.put, sA, sB, sC])
      refine t2 8 72 (.bool false) (fun w' hw' => ?_) hS ?_
      · clear hw' hS; go_simp; (try (intro e; omega))
      (try simp only [Act.put, sA, sB, sC])
      refine t1 9 73 (.bool false) hS ?_
      (try simp only [Act.put, sA, sB, sC])
      refine t1 10 74 (.bool false) hS ?_
      (try simp only [Act.put, sA, sB, sC])
      refine t1 11 75 (.pointer (some ⟨w.heap.size + 1, 1, none⟩)) hS ?_
      (try simp only [Act.put, sA, sB, sC])
      refine t2 12 76 (.int .i64 ((i : Int))) (fun w' hw' => ?_) hS ?_
      · have z := hw'.cell kx1 (by simp); clear hw' hS; go_simp
      (try simp only [Act.put, sA, sB, sC])
      refine t1 13 77 (.pointer (some ⟨w.heap.size, 0, none⟩)) hS ?_
      (try simp only [Act.put, sA, sB, sC])
      refine t2 14 78 (.slice (some ⟨kb, ko, none⟩) nk kc) (fun w' hw' => ?_) hS ?_
      · have z := hw'.cell ky0 (by simp); clear hw' hS; go_simp
      (try simp only [Act.put, sA, sB, sC])
      refine t2 15 79 (.int .i64 (nk : Int)) (fun w' hw' => ?_) hS ?_
      · clear hw' hS; go_simp; (try (intro e; omega))
      (try simp only [Act.put, sA, sB, sC])
      refine t2 16 80 (.bool false) (fun w' hw' => ?_) hS ?_
      · clear hw' hS; go_simp; (try (intro e; omega))
      (try simp only [Act.put, sA, sB, sC])
      refine t1 17 81 (.bool false) hS ?_
      (try simp only [Act.put, sA, sB, sC])
      refine t1 18 82 (.bool false) hS ?_
      (try simp only [Act.put, sA, sB, sC])
      refine t1 19 83 (.int .i64 (-1)) hS ?_
      (try simp only [Act.put, sA, sB, sC])
      refine t2 20 84 (.bool true) (fun w' hw' => ?_) hS ?_
      · clear hw' hS; go_simp; (try (intro e; omega))
      (try simp only [Act.put, sA, sB, sC])
      refine t1 21 85 (.bool true) hS ?_
      (try simp only [Act.put, sA, sB, sC])
      refine t1 22 86 (.bool true) hS ?_
      (try simp only [Act.put, sA, sB, sC])
      refine t3 23 87 hS ?_
      (try simp only [Act.put, sA, sB, sC])
      refine t3 24 88 hS ?_
      (try simp only [Act.put, sA, sB, sC])
      refine t3 25 89 hS ?_
      (try simp only [Act.put, sA, sB, sC])
      refine t3 26 90 hS ?_
      (try simp only [Act.put, sA, sB, sC])
      refine t3 27 91 hS ?_
      (try simp only [Act.put, sA, sB, sC])
      refine t3 28 92 hS ?_
      (try simp only [Act.put, sA, sB, sC])
      refine t3 29 93 hS ?_
      (try simp only [Act.put, sA, sB, sC])
      refine t3 30 94 hS ?_
      (try simp only [Act.put, sA, sB, sC])
      refine t3 31 95 hS ?_
      (try simp only [Act.put, sA, sB, sC])
      refine t3 32 96 hS ?_
      (try simp only [Act.put, sA, sB, sC])
      refine t3 33 97 hS ?_
      (try simp only [Act.put, sA, sB, sC])
      refine t1 34 98 (.bool true) hS ?_
      (try simp only [Act.put, sA, sB, sC])
      refine wpL_done (by kernel_rfl) ?_ _
      go_wp2
      go_ret2
      exact ⟨⟨HG.out.os, HG.out.tape, HG.out.output, HG.out.size, HG.out.block⟩, .inr ⟨HS.out, _, rfl⟩⟩
    | cons x s =>
      obtain ⟨sb, so, rfl, htop⟩ := hn.top
      have hm : s.length ≤ 1000 := by simp at hl; omega
      have hm2 : s.length < cap := by simp at hcap; omega
      obtain ⟨w1, w2⟩ := wr_top hm
      have hbl := hn.below
      have HN := Lib.hid hbl
      clear hn hbl hc hl hcap
      simp only [List.length_cons]
      by_cases hxy : x = y
      · have HS : Hid (Cd.step c ⟨3, (i : Int), 0⟩ (x :: s) = some s) := Lib.hid (by rw [step3, hgd]; exact if_pos ⟨rfl, h1, h2, hxy⟩)
        have ex : (x != y) = false := by simp [hxy]
        clear hy hgd h1 h2 hi0 hkl hxy
        have HN2 : Hid (∀ V, w.grownBy V none → StepP w c ⟨3, (i : Int), 0⟩ (x :: s) (.returned (.tuple #[.slice (some ⟨sb, so, none⟩) s.length cap, .bool true])) V) := Lib.hid (fun V hg => StepP.keep HS.out hg HN.out (by omega))
        generalize s.length = m at *
        unfold codeV
        generalize c.kinds.length = nk at *
        generalize c.init.length = ni
        generalize c.body.length = nb
        generalize hx1 : c.ins = x1 at *
        generalize hx2 : c.outs = x2 at *
        generalize hx3 : c.cells = x3 at *
        generalize hx4 : c.stack = x4 at *
        clear hx1 hx2 hx3 hx4
        go_enter Tryz.func42, Tryz.ntmps42
        go_upto_region 11 with fail
        refine wp_as fun W hW => ?_
        have HG : Hid (w.grownBy W none) := Lib.hid (by rw [hW]; exact ga2 _ _ _)
        have kx0 : W.cell? ⟨w.heap.size + 1, 0, none⟩ = some (.int .i64 3) := by rw [hW]; exact box_at2 _ _ _ _ 0
        have kx1 : W.cell? ⟨w.heap.size + 1, 1, none⟩ = some (.int .i64 ((i : Int))) := by rw [hW]; exact box_at2 _ _ _ _ 1
        have kx2 : W.cell? ⟨w.heap.size + 1, 2, none⟩ = some (.int .i64 (0)) := by rw [hW]; exact box_at2 _ _ _ _ 2
        have ky0 : W.cell? ⟨w.heap.size, 0, none⟩ = some (.slice (some ⟨kb, ko, none⟩) nk kc) := by rw [hW]; exact box_code2 _ _ _ _ 0
        have ky1 : W.cell? ⟨w.heap.size, 1, none⟩ = some (.int .i64 x1) := by rw [hW]; exact box_code2 _ _ _ _ 1
        clear hW
        have kz := HG.out.cell hcell (by simp)
        have kt := HG.out.cell htop (by simp)
        clear hcell htop
        refine wp_region_L (S := fun V => W.grownBy V none) (Z := []) (by kernel_rfl) ?_
        have hS : W.grownBy W.drew none := ⟨rfl, rfl, rfl, Nat.le_refl _, fun _ _ _ => rfl⟩
        (try simp only [Act.put, sA, sB, sC])
        refine t1 0 64 (.pointer (some ⟨w.heap.size + 1, 2, none⟩)) hS ?_
        (try simp only [Act.put, sA, sB, sC])
        refine t2 1 65 (.int .i64 (0)) (fun w' hw' => ?_) hS ?_
        · have z := hw'.cell kx2 (by simp); clear hw' hS; go_simp
        (try simp only [Act.put, sA, sB, sC])
        refine t2 2 66 (.bool false) (fun w' hw' => ?_) hS ?_
        · clear hw' hS; go_simp; (try (intro e; omega))
        (try simp only [Act.put, sA, sB, sC])
        refine t1 3 67 (.bool false) hS ?_
        (try simp only [Act.put, sA, sB, sC])
        refine t1 4 68 (.pointer (some ⟨w.heap.size + 1, 1, none⟩)) hS ?_
        (try simp only [Act.put, sA, sB, sC])
        refine t2 5 69 (.int .i64 ((i : Int))) (fun w' hw' => ?_) hS ?_
        · have z := hw'.cell kx1 (by simp); clear hw' hS; go_simp
        (try simp only [Act.put, sA, sB, sC])
        refine t1 6 70 (.pointer (some ⟨w.heap.size, 1, none⟩)) hS ?_
        (try simp only [Act.put, sA, sB, sC])
        refine t2 7 71 (.int .i64 x1) (fun w' hw' => ?_) hS ?_
        · have z := hw'.cell ky1 (by simp); clear hw' hS; go_simp
        (try simp only [Act.put, sA, sB, sC])
        refine t2 8 72 (.bool false) (fun w' hw' => ?_) hS ?_
        · clear hw' hS; go_simp; (try (intro e; omega))
        (try simp only [Act.put, sA, sB, sC])
        refine t1 9 73 (.bool false) hS ?_
        (try simp only [Act.put, sA, sB, sC])
        refine t1 10 74 (.bool false) hS ?_
        (try simp only [Act.put, sA, sB, sC])
        refine t1 11 75 (.pointer (some ⟨w.heap.size + 1, 1, none⟩)) hS ?_
        (try simp only [Act.put, sA, sB, sC])
        refine t2 12 76 (.int .i64 ((i : Int))) (fun w' hw' => ?_) hS ?_
        · have z := hw'.cell kx1 (by simp); clear hw' hS; go_simp
        (try simp only [Act.put, sA, sB, sC])
        refine t1 13 77 (.pointer (some ⟨w.heap.size, 0, none⟩)) hS ?_
        (try simp only [Act.put, sA, sB, sC])
        refine t2 14 78 (.slice (some ⟨kb, ko, none⟩) nk kc) (fun w' hw' => ?_) hS ?_
        · have z := hw'.cell ky0 (by simp); clear hw' hS; go_simp
        (try simp only [Act.put, sA, sB, sC])
        refine t2 15 79 (.int .i64 (nk : Int)) (fun w' hw' => ?_) hS ?_
        · clear hw' hS; go_simp; (try (intro e; omega))
        (try simp only [Act.put, sA, sB, sC])
        refine t2 16 80 (.bool false) (fun w' hw' => ?_) hS ?_
        · clear hw' hS; go_simp; (try (intro e; omega))
        (try simp only [Act.put, sA, sB, sC])
        refine t1 17 81 (.bool false) hS ?_
        (try simp only [Act.put, sA, sB, sC])
        refine t1 18 82 (.bool false) hS ?_
        (try simp only [Act.put, sA, sB, sC])
        refine t1 19 83 (.int .i64 (m : Int)) hS ?_
        (try simp only [Act.put, sA, sB, sC])
        refine t2 20 84 (.bool false) (fun w' hw' => ?_) hS ?_
        · clear hw' hS; go_simp; (try (intro e; omega))
        (try simp only [Act.put, sA, sB, sC])
        refine t1 21 85 (.bool false) hS ?_
        (try simp only [Act.put, sA, sB, sC])
        refine t1 22 86 (.bool false) hS ?_
        (try simp only [Act.put, sA, sB, sC])
        refine t1 23 87 (.slice (some ⟨sb, so, none⟩) (m + 1) cap) hS ?_
        (try simp only [Act.put, sA, sB, sC])
        refine t1 24 88 (.int .i64 (m : Int)) hS ?_
        (try simp only [Act.put, sA, sB, sC])
        refine t2 25 89 (.pointer (some ⟨sb, so + m, none⟩)) (fun w' hw' => ?_) hS ?_
        · clear hw' hS; go_simp; (try (intro e; omega))
        (try simp only [Act.put, sA, sB, sC])
        refine t2 26 90 (.int .i64 x) (fun w' hw' => ?_) hS ?_
        · have z := hw'.cell kt (by simp); clear hw' hS; go_simp
        (try simp only [Act.put, sA, sB, sC])
        refine t1 27 91 (.pointer (some ⟨w.heap.size, 0, none⟩)) hS ?_
        (try simp only [Act.put, sA, sB, sC])
        refine t2 28 92 (.slice (some ⟨kb, ko, none⟩) nk kc) (fun w' hw' => ?_) hS ?_
        · have z := hw'.cell ky0 (by simp); clear hw' hS; go_simp
        (try simp only [Act.put, sA, sB, sC])
        refine t1 29 93 (.pointer (some ⟨w.heap.size + 1, 1, none⟩)) hS ?_
        (try simp only [Act.put, sA, sB, sC])
        refine t2 30 94 (.int .i64 ((i : Int))) (fun w' hw' => ?_) hS ?_
        · have z := hw'.cell kx1 (by simp); clear hw' hS; go_simp
        (try simp only [Act.put, sA, sB, sC])
        refine t2 31 95 (.pointer (some ⟨kb, ko + i, none⟩)) (fun w' hw' => ?_) hS ?_
        · clear hw' hS; go_simp; (try (intro e; omega))
        (try simp only [Act.put, sA, sB, sC])
        refine t2 32 96 (.int .i64 y) (fun w' hw' => ?_) hS ?_
        · have z := hw'.cell kz (by simp); clear hw' hS; go_simp
        (try simp only [Act.put, sA, sB, sC])
        refine t2 33 97 (.bool false) (fun w' hw' => ?_) hS ?_
        · clear hw' hS; go_simp; (try (intro e; omega))
        (try simp only [Act.put, sA, sB, sC])
        refine t1 34 98 (.bool false) hS ?_
        (try simp only [Act.put, sA, sB, sC])
        refine wpL_done (by kernel_rfl) ?_ _
        go_wp2
        go_ret2
        exact HN2.out _ (by first | exact HG.out | exact drewG HG.out)
      · have HS : Hid (Cd.step c ⟨3, (i : Int), 0⟩ (x :: s) = none) := Lib.hid (by rw [step3, hgd]; exact if_neg (fun h => hxy h.2.2.2))
        have ex : (x != y) = true := by simp [hxy]
        clear hy hgd h1 h2 hi0 hkl hxy HN
        generalize s.length = m at *
        unfold codeV
        generalize c.kinds.length = nk at *
        generalize c.init.length = ni
        generalize c.body.length = nb
        generalize hx1 : c.ins = x1 at *
        generalize hx2 : c.outs = x2 at *
        generalize hx3 : c.cells = x3 at *
        generalize hx4 : c.stack = x4 at *
        clear hx1 hx2 hx3 hx4
        go_enter Tryz.func42, Tryz.ntmps42
        go_upto_region 11 with fail
        refine wp_as fun W hW => ?_
        have HG : Hid (w.grownBy W none) := Lib.hid (by rw [hW]; exact ga2 _ _ _)
        have kx0 : W.cell? ⟨w.heap.size + 1, 0, none⟩ = some (.int .i64 3) := by rw [hW]; exact box_at2 _ _ _ _ 0
        have kx1 : W.cell? ⟨w.heap.size + 1, 1, none⟩ = some (.int .i64 ((i : Int))) := by rw [hW]; exact box_at2 _ _ _ _ 1
        have kx2 : W.cell? ⟨w.heap.size + 1, 2, none⟩ = some (.int .i64 (0)) := by rw [hW]; exact box_at2 _ _ _ _ 2
        have ky0 : W.cell? ⟨w.heap.size, 0, none⟩ = some (.slice (some ⟨kb, ko, none⟩) nk kc) := by rw [hW]; exact box_code2 _ _ _ _ 0
        have ky1 : W.cell? ⟨w.heap.size, 1, none⟩ = some (.int .i64 x1) := by rw [hW]; exact box_code2 _ _ _ _ 1
        clear hW
        have kz := HG.out.cell hcell (by simp)
        have kt := HG.out.cell htop (by simp)
        clear hcell htop
        refine wp_region_L (S := fun V => W.grownBy V none) (Z := []) (by kernel_rfl) ?_
        have hS : W.grownBy W.drew none := ⟨rfl, rfl, rfl, Nat.le_refl _, fun _ _ _ => rfl⟩
        (try simp only [Act.put, sA, sB, sC])
        refine t1 0 64 (.pointer (some ⟨w.heap.size + 1, 2, none⟩)) hS ?_
        (try simp only [Act.put, sA, sB, sC])
        refine t2 1 65 (.int .i64 (0)) (fun w' hw' => ?_) hS ?_
        · have z := hw'.cell kx2 (by simp); clear hw' hS; go_simp
        (try simp only [Act.put, sA, sB, sC])
        refine t2 2 66 (.bool false) (fun w' hw' => ?_) hS ?_
        · clear hw' hS; go_simp; (try (intro e; omega))
        (try simp only [Act.put, sA, sB, sC])
        refine t1 3 67 (.bool false) hS ?_
        (try simp only [Act.put, sA, sB, sC])
        refine t1 4 68 (.pointer (some ⟨w.heap.size + 1, 1, none⟩)) hS ?_
        (try simp only [Act.put, sA, sB, sC])
        refine t2 5 69 (.int .i64 ((i : Int))) (fun w' hw' => ?_) hS ?_
        · have z := hw'.cell kx1 (by simp); clear hw' hS; go_simp
        (try simp only [Act.put, sA, sB, sC])
        refine t1 6 70 (.pointer (some ⟨w.heap.size, 1, none⟩)) hS ?_
        (try simp only [Act.put, sA, sB, sC])
        refine t2 7 71 (.int .i64 x1) (fun w' hw' => ?_) hS ?_
        · have z := hw'.cell ky1 (by simp); clear hw' hS; go_simp
        (try simp only [Act.put, sA, sB, sC])
        refine t2 8 72 (.bool false) (fun w' hw' => ?_) hS ?_
        · clear hw' hS; go_simp; (try (intro e; omega))
        (try simp only [Act.put, sA, sB, sC])
        refine t1 9 73 (.bool false) hS ?_
        (try simp only [Act.put, sA, sB, sC])
        refine t1 10 74 (.bool false) hS ?_
        (try simp only [Act.put, sA, sB, sC])
        refine t1 11 75 (.pointer (some ⟨w.heap.size + 1, 1, none⟩)) hS ?_
        (try simp only [Act.put, sA, sB, sC])
        refine t2 12 76 (.int .i64 ((i : Int))) (fun w' hw' => ?_) hS ?_
        · have z := hw'.cell kx1 (by simp); clear hw' hS; go_simp
        (try simp only [Act.put, sA, sB, sC])
        refine t1 13 77 (.pointer (some ⟨w.heap.size, 0, none⟩)) hS ?_
        (try simp only [Act.put, sA, sB, sC])
        refine t2 14 78 (.slice (some ⟨kb, ko, none⟩) nk kc) (fun w' hw' => ?_) hS ?_
        · have z := hw'.cell ky0 (by simp); clear hw' hS; go_simp
        (try simp only [Act.put, sA, sB, sC])
        refine t2 15 79 (.int .i64 (nk : Int)) (fun w' hw' => ?_) hS ?_
        · clear hw' hS; go_simp; (try (intro e; omega))
        (try simp only [Act.put, sA, sB, sC])
        refine t2 16 80 (.bool false) (fun w' hw' => ?_) hS ?_
        · clear hw' hS; go_simp; (try (intro e; omega))
        (try simp only [Act.put, sA, sB, sC])
        refine t1 17 81 (.bool false) hS ?_
        (try simp only [Act.put, sA, sB, sC])
        refine t1 18 82 (.bool false) hS ?_
        (try simp only [Act.put, sA, sB, sC])
        refine t1 19 83 (.int .i64 (m : Int)) hS ?_
        (try simp only [Act.put, sA, sB, sC])
        refine t2 20 84 (.bool false) (fun w' hw' => ?_) hS ?_
        · clear hw' hS; go_simp; (try (intro e; omega))
        (try simp only [Act.put, sA, sB, sC])
        refine t1 21 85 (.bool false) hS ?_
        (try simp only [Act.put, sA, sB, sC])
        refine t1 22 86 (.bool false) hS ?_
        (try simp only [Act.put, sA, sB, sC])
        refine t1 23 87 (.slice (some ⟨sb, so, none⟩) (m + 1) cap) hS ?_
        (try simp only [Act.put, sA, sB, sC])
        refine t1 24 88 (.int .i64 (m : Int)) hS ?_
        (try simp only [Act.put, sA, sB, sC])
        refine t2 25 89 (.pointer (some ⟨sb, so + m, none⟩)) (fun w' hw' => ?_) hS ?_
        · clear hw' hS; go_simp; (try (intro e; omega))
        (try simp only [Act.put, sA, sB, sC])
        refine t2 26 90 (.int .i64 x) (fun w' hw' => ?_) hS ?_
        · have z := hw'.cell kt (by simp); clear hw' hS; go_simp
        (try simp only [Act.put, sA, sB, sC])
        refine t1 27 91 (.pointer (some ⟨w.heap.size, 0, none⟩)) hS ?_
        (try simp only [Act.put, sA, sB, sC])
        refine t2 28 92 (.slice (some ⟨kb, ko, none⟩) nk kc) (fun w' hw' => ?_) hS ?_
        · have z := hw'.cell ky0 (by simp); clear hw' hS; go_simp
        (try simp only [Act.put, sA, sB, sC])
        refine t1 29 93 (.pointer (some ⟨w.heap.size + 1, 1, none⟩)) hS ?_
        (try simp only [Act.put, sA, sB, sC])
        refine t2 30 94 (.int .i64 ((i : Int))) (fun w' hw' => ?_) hS ?_
        · have z := hw'.cell kx1 (by simp); clear hw' hS; go_simp
        (try simp only [Act.put, sA, sB, sC])
        refine t2 31 95 (.pointer (some ⟨kb, ko + i, none⟩)) (fun w' hw' => ?_) hS ?_
        · clear hw' hS; go_simp; (try (intro e; omega))
        (try simp only [Act.put, sA, sB, sC])
        refine t2 32 96 (.int .i64 y) (fun w' hw' => ?_) hS ?_
        · have z := hw'.cell kz (by simp); clear hw' hS; go_simp
        (try simp only [Act.put, sA, sB, sC])
        refine t2 33 97 (.bool true) (fun w' hw' => ?_) hS ?_
        · clear hw' hS; go_simp; (try (intro e; omega))
        (try simp only [Act.put, sA, sB, sC])
        refine t1 34 98 (.bool true) hS ?_
        (try simp only [Act.put, sA, sB, sC])
        refine wpL_done (by kernel_rfl) ?_ _
        go_wp2
        go_ret2
        exact ⟨⟨HG.out.os, HG.out.tape, HG.out.output, HG.out.size, HG.out.block⟩, .inr ⟨HS.out, _, rfl⟩⟩
  · exact rstep3_bad w c ka kc ia ic ba bc n k s a cap hc hkl hi0 hn hl hcap hall
end Go.Proofs.YtfbhflpjhbemlaaGreat
