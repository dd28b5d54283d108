/- Stage 21: one machine of the code and the document's own one. -/
import Derived.Test.YtlppifnepckpiaaGreatExO
namespace Go.Proofs.YtlppifnepckpiaaGreat
open Go.RowKit Go.Maps Go.WideMaps

structure TsR (w wr : World) (Bm m Br r : Nat) (c : Cd.Code) (cm cr : List Int) (X : List Nat) (iv nv kv bv : Value) (ka : Option Addr) (kc : Nat) (ia : Option Addr) (ic : Nat) (ba : Option Addr) (bc : Nat) (cv : Value) : Prop where
  gw : w.grownBy wr none
  M : MachR Bm wr m c cm iv nv kv bv
  R : RMachR w Br wr r c cr ka kc ia ic ba bc cv
  mr : m ≠ r
  lo : w.heap.size ≤ Bm
  a1 : Apx [r] iv
  a2 : Apx [r] nv
  a3 : Apx [r] kv
  a4 : Apx [r] bv
  c1 : Apx [m] cv
  x1 : Apx X iv
  x2 : Apx X nv
  x3 : Apx X kv
  x4 : Apx X bv
  x5 : Apx X cv
  xm : m ∉ X
  xr : r ∉ X
  xw : ∀ k ∈ X, w.heap.size ≤ k ∧ k < wr.heap.size
/-- both machines, apart from one another and from the blocks X -/
def Ts (w wr : World) (Bm m Br r : Nat) (c : Cd.Code) (cm cr : List Int) (X : List Nat) : Prop := ∃ iv nv kv bv ka kc ia ic ba bc cv, TsR w wr Bm m Br r c cm cr X iv nv kv bv ka kc ia ic ba bc cv
/-- what a machine's tick answers, and leaves; the answer's block -/
def TsP (Q : World → List Nat → Prop) (wr : World) (m : Nat) (T : List Int × Nat × Int × List Int) (e : Ending) (w' : World) : Prop :=
  Kp [m] wr w' ∧ ∃ v, Q w' v.ownBlock.toList ∧ e = .returned (.tuple #[v, .int .i64 (T.2.1 : Int), .int .i64 T.2.2.1]) ∧ w'.ownsRow wr.heap.size 3 1 v T.1.length (ints T.1)
theorem Apx.nil (v : Value) : Apx [] v := fun k _ h => by cases h
section
variable {w wr : World} {Bm m Br r : Nat} {c : Cd.Code} {cm cr : List Int} {X : List Nat}
theorem Ts.gw (h : Ts w wr Bm m Br r c cm cr X) : w.grownBy wr none := by
  obtain ⟨_, _, _, _, _, _, _, _, _, _, _, h⟩ := h
  exact h.gw
theorem Ts.rlt (h : Ts w wr Bm m Br r c cm cr X) : m < wr.heap.size ∧ r < wr.heap.size := by
  obtain ⟨_, _, _, _, _, _, _, _, _, _, _, h⟩ := h
  exact ⟨gl h.M.row, gl h.R.row⟩
theorem Ts.on {w' : World} (h : Ts w wr Bm m Br r c cm cr X) (hg : wr.grownBy w' none) : Ts w w' Bm m Br r c cm cr X := by
  obtain ⟨iv, nv, kv, bv, ka, kc, ia, ic, ba, bc, cv, h⟩ := h
  exact ⟨iv, nv, kv, bv, ka, kc, ia, ic, ba, bc, cv, h.gw.trans hg, h.M.on hg, h.R.on hg, h.mr, h.lo, h.a1, h.a2, h.a3, h.a4, h.c1, h.x1, h.x2, h.x3, h.x4, h.x5, h.xm, h.xr, fun k hk => ⟨(h.xw k hk).1, Nat.lt_of_lt_of_le (h.xw k hk).2 hg.size⟩⟩
theorem Ts.nil (h : Ts w wr Bm m Br r c cm cr X) : Ts w wr Bm m Br r c cm cr [] := by
  obtain ⟨iv, nv, kv, bv, ka, kc, ia, ic, ba, bc, cv, h⟩ := h
  exact ⟨iv, nv, kv, bv, ka, kc, ia, ic, ba, bc, cv, h.gw, h.M, h.R, h.mr, h.lo, h.a1, h.a2, h.a3, h.a4, h.c1, Apx.nil _, Apx.nil _, Apx.nil _, Apx.nil _, Apx.nil _, by simp, by simp, fun k hk => by cases hk⟩
/-- stores into the blocks X -/
theorem Ts.kp {w' : World} (h : Ts w wr Bm m Br r c cm cr X) (hk : Kp X wr w') : Ts w w' Bm m Br r c cm cr X := by
  obtain ⟨iv, nv, kv, bv, ka, kc, ia, ic, ba, bc, cv, h⟩ := h
  exact ⟨iv, nv, kv, bv, ka, kc, ia, ic, ba, bc, cv, Kp.grown h.gw hk (fun k hk => (h.xw k hk).1), h.M.kp hk h.xm h.x1 h.x2 h.x3 h.x4, h.R.kp hk h.xr h.x5 (fun k hk => (h.xw k hk).1), h.mr, h.lo, h.a1, h.a2, h.a3, h.a4, h.c1, h.x1, h.x2, h.x3, h.x4, h.x5, h.xm, h.xr, fun k hk2 => ⟨(h.xw k hk2).1, Nat.lt_of_lt_of_le (h.xw k hk2).2 hk.size⟩⟩
theorem Ts.tick_m (h : Ts w wr Bm m Br r c cm cr X) (hok : Cd.check c = 0) (h64 : I64s c) {a : Option Addr} (cap : Nat) {ins : List Int} (hi : NumsAt wr a ins) (hm : ins.length ≤ maxLen) (hii : ∀ y ∈ ins, Bv.I64 y) :
    Calls Tryz.prog 14 #[.pointer (some ⟨m, 0, none⟩), .slice a ins.length cap] wr (TsP (fun w' Y => Ts w w' Bm m Br r c (Ex.tickR c cm ins).2.2.2 cr Y) wr m (Ex.tickR c cm ins)) := by
  obtain ⟨iv, nv, kv, bv, ka, kc, ia, ic, ba, bc, cv, h⟩ := h
  refine (xtickq_any h.M hok h64 cap hi hm hii).mono ?_
  rintro e w' ⟨hk, nv', v, hM', hn, hap, he, ho⟩
  have hml := gl h.M.row
  have hrl := gl h.R.row
  have e1 := h.M.mb
  have e2 := h.lo
  have hX : ∀ k ∈ v.ownBlock.toList, wr.heap.size ≤ k ∧ k < w'.heap.size := fun k hk => ho.lt k (by simpa using hk)
  have off : ∀ {B : Nat} {T : TypeId} {z n : Nat} {u : Value} {xs : List Value}, wr.ownsRow B T z u n xs → Apx v.ownBlock.toList u := fun h => Apx.below h (fun k hk => .inr (hX k hk).1)
  refine ⟨hk, v, ⟨iv, nv', kv, bv, ka, kc, ia, ic, ba, bc, cv, Kp.grown h.gw hk (fun k hk => by simp at hk; omega), hM', h.R.kp hk (by simp; exact fun e => h.mr e.symm) h.c1 (fun k hk => by simp at hk; omega), h.mr, h.lo, h.a1, h.a2.next (w := wr) (fun k hk => by simp at hk; omega) hn, h.a3, h.a4, h.c1, off h.M.init, fun k hk1 hk2 => hap k (by simpa using hk2) hk1, off h.M.kinds, off h.M.body, off h.R.now, fun hx => by have := (hX m hx).1; omega, fun hx => by have := (hX r hx).1; omega, fun k hk => ⟨Nat.le_trans h.gw.size (hX k hk).1, (hX k hk).2⟩⟩, he, ho⟩
theorem Ts.tick_r (h : Ts w wr Bm m Br r c cm cr X) (hok : Cd.check c = 0) (h64 : I64s c) {a : Option Addr} (cap : Nat) {ins : List Int} (hi : NumsAt wr a ins) (hm : ins.length ≤ maxLen) (hii : ∀ y ∈ ins, Bv.I64 y) :
    Calls Tryz.prog 15 #[.pointer (some ⟨r, 0, none⟩), .slice a ins.length cap] wr (TwP (fun w' => Ts w w' Bm m Br r c cm (Ex.tickR c cr ins).2.2.2 X) wr r (Ex.tickR c cr ins)) := by
  obtain ⟨iv, nv, kv, bv, ka, kc, ia, ic, ba, bc, cv, h⟩ := h
  refine (rtick_any h.R hok h64 cap hi hm hii).mono ?_
  rintro e w' ⟨hk, ⟨cv', hR', hn⟩, hv⟩
  have hml := gl h.M.row
  have hrl := gl h.R.row
  have e1 := h.R.mb
  refine ⟨⟨iv, nv, kv, bv, ka, kc, ia, ic, ba, bc, cv', Kp.grown h.gw hk (fun k hk => by simp at hk; omega), h.M.kp hk (by simp; exact h.mr) h.a1 h.a2 h.a3 h.a4, hR', h.mr, h.lo, h.a1, h.a2, h.a3, h.a4, h.c1.next (w := wr) (fun k hk => by simp at hk; omega) hn, h.x1, h.x2, h.x3, h.x4, h.x5.next (w := wr) (fun k hk => (h.xw k hk).2) hn, h.xm, h.xr, fun k hk2 => ⟨(h.xw k hk2).1, Nat.lt_of_lt_of_le (h.xw k hk2).2 hk.size⟩⟩, hk, hv⟩
end
/-- what is lent: a copy of the ticks' numbers with one more behind -/
theorem lent_own {w W1 W2 : World} {l : List Int} {n : Int} {v1 v2 : Value} {ob : Obj} (h1 : W1.ownsRow w.heap.size 3 1 v1 l.length (l.map (Value.int .i64))) (g1 : w.grownBy W1 none) (h2 : W2.ownsRow w.heap.size 3 1 v2 (l ++ [n]).length ((l ++ [n]).map (Value.int .i64))) (g2 : (W1.alloc ob).grownBy W2 v1.ownBlock) :
    ∃ g c2, v2 = .slice (some ⟨g, 0, none⟩) (l.length + 1) c2 ∧ w.grownBy W2 none ∧ w.heap.size ≤ g ∧ l.length + 1 ≤ c2 ∧ NumsAt W2 (some ⟨g, 0, none⟩) (l ++ [n]) := by
  have hgr := grown_ov (g1.trans (World.grownBy_alloc W1 ob none)) g2 (fun k e => (h1.lt k e).1)
  obtain ⟨a', c', e', hn⟩ := NumsAt.own h2
  rcases h2.2 with ⟨_, h0⟩ | ⟨g, cp, cur, e, hb, _, hc, _⟩
  · simp at h0
  · rw [e, Value.slice.injEq] at e'
    obtain ⟨rfl, _, _⟩ := e'
    simp only [List.length_append, List.length_singleton] at e hc
    exact ⟨g, cp, e, hgr, hb, hc, hn⟩
theorem lent_of (g n c2 : Nat) (h : n ≤ c2) (V : World) : (Instr.slice 22 (.slice (some ⟨g, 0, none⟩) (n + 1) c2) none (some (.int .i64 (n : Int))) none).run Tryz.prog V = .ok (.slice (some ⟨g, 0, none⟩) n c2) V := by
  have hs : ∀ V, (sizeOf (Tryz.prog.elem 22)).run Tryz.prog V = .ok 1 V := fun V => by kernel_rfl
  rw [run_slice_h (P := Tryz.prog) V 22 (some ⟨g, 0, none⟩) (n + 1) c2 (by kernel_rfl) .i64 (n : Int) (by omega) (by omega), hs]
  simp [Result.andThen, sliced, addr_at]
theorem NumsAt.left {w : World} {a : Option Addr} {l r : List Int} (h : NumsAt w a (l ++ r)) : NumsAt w a l := fun i n hi => h i n (by rw [List.getElem?_append_left (List.getElem?_eq_some_iff.1 hi).1]; exact hi)
theorem NumsAt.end_ {w : World} {g : Nat} {l : List Int} {n : Int} (h : NumsAt w (some ⟨g, 0, none⟩) (l ++ [n])) : w.cell? ⟨g, l.length, none⟩ = some (.int .i64 n) := by
  obtain ⟨b, o, e, hc⟩ := h l.length n (by simp)
  cases e
  simpa using hc
theorem MachR.reset {B : Nat} {w : World} {m : Nat} {c : Cd.Code} {cells : List Int} {iv nv kv bv : Value} (h : MachR B w m c cells iv nv kv bv) (hok : Cd.check c = 0) (h64 : I64s c) : MachR B (w.setCell ⟨m, 1, none⟩ iv) m c c.init iv iv kv bv := by
  have own : ∀ {T : TypeId} {z n : Nat} {u : Value} {xs : List Value}, w.ownsRow B T z u n xs → u.ownBlock ≠ some m → (w.setCell ⟨m, 1, none⟩ iv).ownsRow B T z u n xs := fun h hn => owns_on h (fun j e => heap_setCell_other w ⟨m, 1, none⟩ j iv (fun e2 => hn (by rw [e, e2])))
  exact ⟨setrow2 iv h.row rfl, h.mb, own h.init h.ni, own h.init h.ni, own h.kinds h.nk, own h.body h.nb, h.ni, h.ni, h.nk, h.nb, (Ex.ok_parts hok).2.2.2.2.2.2.2.2.1, h64.2.2.2.2.2.1⟩
/-- cells that are there, and may be turned -/
def Thr (w : World) (a : Option Addr) (n : Nat) : Prop := ∀ t, t < n → ∃ g, a = some ⟨g, 0, none⟩ ∧ ∃ v, w.cell? ⟨g, t, none⟩ = some v ∧ w.frozen? ⟨g, t, none⟩ = false
theorem thr_own {w : World} {B n c : Nat} {T : TypeId} {a : Option Addr} {xs : List Value} (h : w.ownsRow B T 1 (.slice a n c) n xs) : Thr w a n := fun t ht => by
  rcases h.2 with ⟨e, h0⟩ | ⟨g, cap, cur, e, _, hg, _, _, _, ht2⟩
  · rw [h0] at ht; simp at ht
  · cases e
    have hl : t < xs.length := by rw [h.1]; omega
    refine ⟨g, rfl, xs[t], ?_, frozen_of_row w g t _ _ hg⟩
    have := h.cells (g := g) rfl t xs[t] (List.getElem?_eq_getElem hl)
    rwa [addr_at, Nat.zero_add] at this
theorem Thr.set {w : World} {a : Option Addr} {n g j : Nat} (h : Thr w a n) (v : Value) : Thr (w.setCell ⟨g, j, none⟩ v) a n := fun t ht => by
  obtain ⟨g2, e, u, hu, hf⟩ := h t ht
  obtain ⟨y, hy⟩ := cell?_setCell_some (p := ⟨g, j, none⟩) (x := v) hu
  exact ⟨g2, e, y, hy, (World.frozen?_setCell ..).trans hf⟩
/-- ticks that Big lets pass are short, where none is too great for it -/
theorem bg_rows : ∀ (L : List (List Int)) (z : Int), 0 ≤ z → z ≤ 2000 → (∀ l ∈ L, l.length ≤ 1048576) → bg L z ≤ 2000 → ∀ l ∈ L, l.length ≤ 2000
  | [], _, _, _, _, _ => fun l h => by cases h
  | l :: r, z, h0, h1, h2, h3 => by
    have hl := h2 l (List.mem_cons_self ..)
    rw [bg, if_pos h1] at h3
    have e : wrap64 (wrap64 (z + 1) + l.length) = z + 1 + l.length := by unfold wrap64; omega
    rw [e] at h3
    by_cases h4 : z + 1 + l.length ≤ 2000
    · intro x hx
      rcases List.mem_cons.1 hx with rfl | hx
      · omega
      · exact bg_rows r _ (by omega) h4 (fun y hy => h2 y (List.mem_cons_of_mem _ hy)) h3 x hx
    · rw [bg_over h4] at h3
      exact absurd h3 h4
end Go.Proofs.YtlppifnepckpiaaGreat
