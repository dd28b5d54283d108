/- Stage 19: CodeWrong's memory: the numbers that are asked for, the example's three rows. -/
import Derived.Test.YtcjainfcndlllaaCeF
import Derived.Lib.FrozenHead
import Derived.Deep.WholeRow
import Derived.Deep.CutRange
import Derived.ArgAppend
namespace Go.Proofs.Ytcjainfcndlllaa
open Go.RowKit Go.Maps Go.WideMaps

def wantsC : List Value := [.int .i64 0, .int .i64 40, .int .i64 40, .int .i64 40, .int .i64 40, .int .i64 40, .int .i64 40, .int .i64 40, .int .i64 50, .int .i64 50, .int .i64 50, .int .i64 50, .int .i64 50, .int .i64 50, .int .i64 50, .int .i64 50, .int .i64 50, .int .i64 50, .int .i64 0, .int .i64 2, .int .i64 40, .int .i64 50]
/-- the four rows -/
structure Cw (w wr : World) (V : Nat) (ks : List Int) (bs : List Cd.Ins) (cs : List Value) : Prop where
  vrow : wr.heap[V]? = some (.cells wantsC.toArray 3 (0, 0))
  krow : wr.heap[V + 1 + 1]? = some (.cells (ks.map (Value.int .i64)).toArray 3 (0, 0))
  brow : wr.heap[V + 1 + 1 + 1]? = some (.cells (insC bs).toArray 33 (0, 0))
  crow : wr.heap[V + 1 + 1 + 1 + 1]? = some (.cells cs.toArray 25 (0, 0))
  gr : w.grownBy wr none
  le : w.heap.size ≤ V
theorem gr_set {w wr : World} {g : Nat} (gr : w.grownBy wr none) (h : w.heap.size ≤ g) (k : Nat) (v : Value) : w.grownBy (wr.setCell ⟨g, k, none⟩ v) none := by
  refine ⟨gr.os, gr.tape, gr.output, ?_, fun j hj _ => ?_⟩
  · have := gr.size
    simpa [World.setCell] using this
  · rw [Below.heap_setCell _ _ _ _ (show j ≠ g by omega)]
    exact gr.block j hj (by simp)
theorem Cw.setC {w wr : World} {V : Nat} {ks : List Int} {bs : List Cd.Ins} {cs : List Value} (h : Cw w wr V ks bs cs) (k : Nat) (v : Value) : Cw w (wr.setCell ⟨V + 1 + 1 + 1 + 1, k, none⟩ v) V ks bs (cs.set k v) :=
  ⟨set_other h.vrow (by omega) _ _, set_other h.krow (by omega) _ _, set_other h.brow (by omega) _ _, set_row h.crow _ _, gr_set h.gr (by have := h.le; omega) _ _, h.le⟩
theorem Cw.setK {w wr : World} {V : Nat} {ks : List Int} {bs : List Cd.Ins} {cs : List Value} (h : Cw w wr V ks bs cs) (k : Nat) (n : Int) : Cw w (wr.setCell ⟨V + 1 + 1, k, none⟩ (.int .i64 n)) V (ks.set k n) bs cs :=
  ⟨set_other h.vrow (by omega) _ _, by rw [List.map_set]; exact set_row h.krow _ _, set_other h.brow (by omega) _ _, set_other h.crow (by omega) _ _, gr_set h.gr (by have := h.le; omega) _ _, h.le⟩
theorem Cw.setB {w wr : World} {V : Nat} {ks : List Int} {bs bs' : List Cd.Ins} {cs : List Value} (h : Cw w wr V ks bs cs) (k : Nat) (v : Value) (e : insC bs' = (insC bs).set k v) : Cw w (wr.setCell ⟨V + 1 + 1 + 1, k, none⟩ v) V ks bs' cs :=
  ⟨set_other h.vrow (by omega) _ _, set_other h.krow (by omega) _ _, by rw [e]; exact set_row h.brow _ _, set_other h.crow (by omega) _ _, gr_set h.gr (by have := h.le; omega) _ _, h.le⟩
theorem Cw.alloc {w wr : World} {V : Nat} {ks : List Int} {bs : List Cd.Ins} {cs : List Value} (h : Cw w wr V ks bs cs) (o : Obj) : Cw w (wr.alloc o) V ks bs cs :=
  ⟨alloc_row h.vrow _, alloc_row h.krow _, alloc_row h.brow _, alloc_row h.crow _, h.gr.trans (World.grownBy_alloc wr o none), h.le⟩
theorem Cw.on {w wr wr' : World} {V : Nat} {ks : List Int} {bs : List Cd.Ins} {cs : List Value} (h : Cw w wr V ks bs cs) (g : wr.grownBy wr' none) : Cw w wr' V ks bs cs :=
  have k : ∀ {b : Nat} {o : Obj}, wr.heap[b]? = some o → wr'.heap[b]? = some o := fun hb => (g.block _ (Array.getElem?_eq_some_iff.1 hb).1 (by simp)).trans hb
  ⟨k h.vrow, k h.krow, k h.brow, k h.crow, h.gr.trans g, h.le⟩
theorem Cw.onto {w wr wr' : World} {V : Nat} {ks : List Int} {bs : List Cd.Ins} {cs : List Value} {row : Option Nat} (h : Cw w wr V ks bs cs) (g : wr.grownBy wr' row) (hr : ∀ k, row = some k → V + 1 + 1 + 1 + 1 < k) : Cw w wr' V ks bs cs := by
  have k : ∀ {b : Nat} {o : Obj}, b ≤ V + 1 + 1 + 1 + 1 → wr.heap[b]? = some o → wr'.heap[b]? = some o := fun hle hb => (g.block _ (Array.getElem?_eq_some_iff.1 hb).1 (fun e => by have := hr _ e.symm; omega)).trans hb
  refine ⟨k (by omega) h.vrow, k (by omega) h.krow, k (by omega) h.brow, k (by omega) h.crow, ?_, h.le⟩
  have hC := (Array.getElem?_eq_some_iff.1 h.crow).1
  refine ⟨g.os.trans h.gr.os, g.tape.trans h.gr.tape, g.output.trans h.gr.output, Nat.le_trans h.gr.size g.size, fun j hj _ => ?_⟩
  have := h.le
  have := h.gr.size
  rw [g.block j (by omega) (fun e => by have := hr _ e.symm; omega), h.gr.block j hj (by simp)]
theorem row_cells {w : World} {b : Nat} {cs : List Value} {t : TypeId} {fr : Nat × Nat} (h : w.heap[b]? = some (.cells cs.toArray t fr)) : ∀ j u, cs[j]? = some u → w.cell? ((⟨b, 0, none⟩ : Addr).add j) = some u := fun j u hu => by
  have e : (⟨b, 0, none⟩ : Addr).add j = ⟨b, j, none⟩ := by unfold Addr.add; split <;> simp_all
  rw [e]
  unfold World.cell?
  rw [h]
  simpa using hu
/-- append onto a list without room, at the operation -/
theorem wp_append_grows1 {P : Program} (w : World) {o : Oper} {a : Act} {K : Act → World → Prop} {Q : Exit → Act → World → Prop} (s x : Operand) (t : TypeId)
    (ho : o.op = .call { callee := .builtin .append, args := #[s, x], argTypes := #[t, t] })
    (e : TypeId) (i : TypeInfo) (z : Value) (size bytes : Nat) (ht : P.underlying t = some (.slice e)) (hi : P.info? e = some i) (hz : i.zero = some z) (hsize : i.size = size) (hby : i.bytes = bytes) (hzs : z.cells.size = size) (hsz : 0 < size)
    (b : Addr) (n cap : Nat) (olds : List Value) (hs : a.eval s = .slice (some b) n cap) (hlo : olds.length = n * size) (holds : ∀ j u, olds[j]? = some u → w.cell? (b.add j) = some u)
    (ad : Addr) (m c : Nat) (news : List Value) (hx : a.eval x = .slice (some ad) m c) (hl : news.length = m * size) (hnews : ∀ j u, news[j]? = some u → w.cell? (ad.add j) = some u)
    (hg : cap < n + m) (h63 : n + m ≤ maxLen) (hbytes : (n + m) * bytes ≤ 140737488355328)
    (h : ∀ v' w', w'.ownsRow w.heap.size e size v' (n + m) (olds ++ news) → w.grownBy w' none → K (a.put o.dst v') w') : o.wp P a w K Q := by
  obtain ⟨v', w', hrun, r1, r2⟩ := run_append_arg_grows (P := P) w t o.type e i z size bytes ht hi hz hsize hby hzs hsz b n cap olds hlo holds ad m c news hl hnews hg h63 hbytes
  unfold Oper.wp
  simp [execOp, ho, resolve, invoke, builtin, hs, hx, hrun, Result.andThen]
  exact h v' w' r1 r2
/-- a list of its own, behind a store in another block -/
theorem own_set {wr : World} {B n g : Nat} {T : TypeId} {z : Nat} {v : Value} {xs : List Value} (h : wr.ownsRow B T z v n xs) (hg : g < B) (k : Nat) (u : Value) : (wr.setCell ⟨g, k, none⟩ u).ownsRow B T z v n xs := by
  have gs : wr.grownBy (wr.setCell ⟨g, k, none⟩ u) (some g) := ⟨rfl, rfl, rfl, by simp [World.setCell], fun k _ hk => Below.heap_setCell _ _ _ _ (fun e => hk (by simp [e]))⟩
  refine h.kept gs (.inr ?_)
  intro e
  have := h.lt g e
  omega
theorem Cw.start {w w1 w3 : World} (hg1 : w.grownBy w1 none) (cs : List Value)
    (hk : w3.heap[w1.heap.size + 1 + 1]? = some (.cells ([2, 2].map (Value.int .i64)).toArray 3 (0, 0))) (hb : w3.heap[w1.heap.size + 1 + 1 + 1]? = some (.cells (insC Cd.small.body).toArray 33 (0, 0)))
    (hg3 : (w1.alloc (.cells wantsC.toArray 3)).grownBy w3 none) (hs3 : w3.heap.size = w1.heap.size + 1 + 1 + 1 + 1) :
    Cw w (w3.alloc (.cells cs.toArray 25)) w1.heap.size [2, 2] Cd.small.body cs := by
  have hv := heap_alloc_new w1 (.cells wantsC.toArray 3)
  have hv3 := (hg3.block _ (Array.getElem?_eq_some_iff.1 hv).1 (by simp)).trans hv
  have hc := heap_alloc_new w3 (.cells cs.toArray 25)
  rw [hs3] at hc
  exact ⟨alloc_row hv3 _, alloc_row hk _, alloc_row hb _, hc, (hg1.trans ((World.grownBy_alloc w1 _ none).trans hg3)).trans (World.grownBy_alloc w3 _ none), hg1.size⟩

theorem InssAt.take {w : World} {a : Option Addr} {l : List Cd.Ins} (h : InssAt w a l) (k : Nat) : InssAt w a (l.take k) := fun i x hi => by
  rw [List.getElem?_take] at hi
  split at hi
  · exact h i x hi
  · cases hi

/-- the memory of a body that is not empty -/
theorem Bd.inner {w0 wr : World} {C : Nat} {r : List Value} {v : Value} {body : List Cd.Ins} (h : Bd w0 wr C r v body) (h0 : 0 < body.length) :
    ∃ g cap, v = .slice (some ⟨g, 0, none⟩) body.length cap ∧ C + 1 ≤ g ∧ body.length ≤ cap ∧ cap ≤ maxLen ∧ (∀ k, wr.frozen? ⟨g, k, none⟩ = false) ∧ ∀ j u, (insC body)[j]? = some u → wr.cell? ⟨g, j, none⟩ = some u := by
  rcases h.own.2 with ⟨_, h1⟩ | ⟨g, cap, cur, rfl, hB, hh, h1, h2, h3, h4⟩
  · omega
  refine ⟨g, cap, rfl, hB, h1, h2, fun k => Lib.frozen_of_heap hh k, fun j u hj => ?_⟩
  have hjl : j < body.length * 3 := by rw [← insC_len]; exact (List.getElem?_eq_some_iff.1 hj).1
  rw [← h4, List.getElem?_take, if_pos hjl] at hj
  unfold World.cell?
  rw [hh]
  simpa using hj
theorem Bd.set {w0 wr : World} {C g n cap : Nat} {r : List Value} {body body' : List Cd.Ins} (h : Bd w0 wr C r (.slice (some ⟨g, 0, none⟩) n cap) body) (h0 : 0 < body.length) (k : Nat) (x : Value) (e : insC body' = (insC body).set k x) (hl : body'.length = body.length) :
    Bd w0 (wr.setCell ⟨g, k, none⟩ x) C r (.slice (some ⟨g, 0, none⟩) n cap) body' := by
  rcases h.own.2 with ⟨_, h1⟩ | ⟨g', cap', cur, hv, hB, hh, h1, h2, h3, h4⟩
  · omega
  cases hv
  refine ⟨set_other h.row (by omega) _ _, ?_, gr_set h.gr (by have := h.le; omega) _ _, h.le⟩
  rw [hl]
  refine ⟨by rw [insC_len, hl], .inr ⟨g, cap, cur.setIfInBounds k x, rfl, hB, ?_, h1, h2, by simpa using h3, ?_⟩⟩
  · simp [World.setCell, Array.getElem?_modify, hh]
  · rw [e, Array.toList_setIfInBounds, List.take_set, h4]
/-- another body in its place -/
theorem Bd.swap {w0 wr : World} {C B n : Nat} {r : List Value} {v v' : Value} {body b' : List Cd.Ins} (h : Bd w0 wr C r v body) (ho : wr.ownsRow B 33 3 v' n (insC b')) (hB : C < B) (hn : n = b'.length) (hr : r.length = 6) : Bd w0 (wr.setCell ⟨C, 6, none⟩ v') C r v' b' := by
  subst hn
  refine ⟨?_, ?_, gr_set h.gr h.le _ _, h.le⟩
  · have e : (r ++ [v]).set 6 v' = r ++ [v'] := by rw [← hr]; simp
    rw [← e]
    exact set_row h.row _ _
  · have := own_set ho hB 6 v'
    refine ⟨this.1, this.2.imp id ?_⟩
    rintro ⟨g, cap, cur, a1, a2, a3⟩
    exact ⟨g, cap, cur, a1, by omega, a3⟩
/-- others' memory is written -/
theorem Bd.onto {w0 wr wr' : World} {C B : Nat} {r : List Value} {v : Value} {body : List Cd.Ins} {row : Option Nat} (h : Bd w0 wr C r v body) (g : wr.grownBy wr' row) (hB : wr.heap.size ≤ B ∨ (C < B ∧ ∀ k, v.ownBlock = some k → k < B)) (hr : ∀ k, row = some k → B ≤ k) : Bd w0 wr' C r v body := by
  have hC := (Array.getElem?_eq_some_iff.1 h.row).1
  have hCB : C < B := by rcases hB with hB | hB; omega; exact hB.1
  have hvB : ∀ k, v.ownBlock = some k → k < B := by
    rcases hB with hB | hB
    · intro k hk
      rcases h.own.2 with ⟨rfl, _⟩ | ⟨g', cap, cur, rfl, _, hh, _⟩
      · simp [Value.ownBlock] at hk
      · simp [Value.ownBlock] at hk
        have := (Array.getElem?_eq_some_iff.1 hh).1
        omega
    · exact hB.2
  refine ⟨(g.block C hC (fun e => by have := hr _ e.symm; omega)).trans h.row, h.own.kept g ?_, ?_, h.le⟩
  · cases hv : v.ownBlock with
    | none => exact .inl rfl
    | some k =>
      right
      intro e
      have a1 := hr k e.symm
      have a2 := hvB k hv
      omega
  · refine ⟨g.os.trans h.gr.os, g.tape.trans h.gr.tape, g.output.trans h.gr.output, Nat.le_trans h.gr.size g.size, fun j hj _ => ?_⟩
    have h1 := h.le
    have h2 := h.gr.size
    rw [g.block j (by omega) (fun e => by have := hr _ e.symm; omega), h.gr.block j hj (by simp)]

/-- A whole struct stored into the block that was made last. -/
theorem store_lastc {P : Program} {w1 : World} {ops : Array Oper} {rest : List Oper} {d : Option Tmp} {p v : Operand} {t ty : TypeId} {s : String} {af : Array Edge} {a : Act} {Q : Exit → Act → World → Prop} {c : Array Value}
    (c' : Array Value) (hp : a.eval p = .pointer (some ⟨w1.heap.size, 0, none⟩)) (hv : a.eval v = .agg c') (hi : (P.info? t).map (·.size) = some c'.size) (ho : c.size = c'.size) (h1 : c'.all (·.oneCell') = true)
    (hK : wpList P ops Q rest (a.put d undef) (w1.alloc (.cells c' t))) :
    wpList P ops Q ({ dst := d, op := Op.store t p v, type := ty, pos := s, after := af, guard := none } :: rest) a (w1.alloc (.cells c t)) := by
  refine wpList_plain rfl fun K hK' => ?_
  unfold Oper.wp
  have hrun := run_storeAt_new (P := P) w1 t c c' hi ho h1
  simp [execOp, hp, hv, hrun, Result.andThen]
  exact hK' _ _ hK
theorem hold_st {P : Program} {ops : Array Oper} {rest : List Oper} {p v : Operand} {t ty : TypeId} {s : String} {af : Array Edge} {g : Option (Nat × Bool)} {a : Act} {w : World} {Q : Exit → Act → World → Prop}
    (hK : Hid (wpList P ops Q ({ dst := none, op := Op.store t p v, type := ty, pos := s, after := af, guard := g } :: rest) a w)) :
    wpList P ops Q ({ dst := none, op := Op.store t p v, type := ty, pos := s, after := af, guard := g } :: rest) a w := hK
theorem hold_ld {P : Program} {ops : Array Oper} {rest : List Oper} {d : Option Tmp} {p : Operand} {ty : TypeId} {s : String} {af : Array Edge} {g : Option (Nat × Bool)} {a : Act} {w : World} {Q : Exit → Act → World → Prop}
    (hK : Hid (wpList P ops Q ({ dst := d, op := Op.load 25 p, type := ty, pos := s, after := af, guard := g } :: rest) a w)) :
    wpList P ops Q ({ dst := d, op := Op.load 25 p, type := ty, pos := s, after := af, guard := g } :: rest) a w := hK
theorem small_one (g h : Nat) : (#[Value.slice (some ⟨g, 0, none⟩) 2 2, .int .i64 1, .int .i64 1, .int .i64 0, .int .i64 2, .slice none 0 0, .slice (some ⟨h, 0, none⟩) 5 5].all (·.oneCell')) = true := by simp [Value.oneCell']

end Go.Proofs.Ytcjainfcndlllaa
