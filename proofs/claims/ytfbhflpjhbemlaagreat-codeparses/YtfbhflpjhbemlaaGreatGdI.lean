/- Stage 19: metronomeref19.Parse: what its walk keeps. -/
import Derived.Test.YtfbhflpjhbemlaaGreatGdG
import Derived.Test.YtfbhflpjhbemlaaGreatGdF
import Derived.Test.YtfbhflpjhbemlaaGreatJnN
namespace Go.Proofs.YtfbhflpjhbemlaaGreat
open Go.RowKit Go.Maps Go.WideMaps

namespace Cd
theorem rl_le : ∀ (k : Nat) (l : List UInt8), (rl k l).1.length ≤ l.length + 1
  | 0, l => Nat.zero_le _
  | k + 1, l => by
    rw [rl]
    split
    · simp
    · rename_i h
      have h1 := rn_lt 10 0 0 l (by simpa using h)
      have h2 := rl_le k (rn 10 0 0 l).2.1
      simp only [List.length_cons]
      omega
def rlB (bad : Bool) (k : Nat) (l : List UInt8) : List Int × List UInt8 × Bool := if bad = true then ([], l, true) else rl k l
def riB (bad : Bool) (k : Nat) (l : List UInt8) : List Ins × List UInt8 × Bool := if bad = true then ([], l, true) else ri k l
theorem rlB_64 (bad : Bool) (k : Nat) (l : List UInt8) : ∀ n ∈ (rlB bad k l).1, I64 n := by
  unfold rlB
  split
  · intro n h; cases h
  · exact rl_64 k l
theorem rlB_le (bad : Bool) (k : Nat) (l : List UInt8) : (rlB bad k l).1.length ≤ l.length + 1 := by
  unfold rlB
  split
  · exact Nat.zero_le _
  · exact rl_le k l
theorem riB_64 (bad : Bool) (k : Nat) (l : List UInt8) : ∀ x ∈ (riB bad k l).1, I64 x.op ∧ I64 x.n ∧ I64 x.k := by
  unfold riB
  split
  · intro n h; cases h
  · exact ri_64 k l
/-- the whole reading, where the head is right: kinds, init, body, bad -/
def rdA (l : List UInt8) : List Int × List Int × List Ins × Bool :=
  let T1 := rl 5 (l.drop 4)
  let T2 := rl (T1.1.getD 0 0).toNat T1.2.1
  let T3 := rlB T2.2.2 (T1.1.getD 3 0).toNat T2.2.1
  let N := rn 10 0 0 T3.2.1
  let T5 := riB (T3.2.2 || N.2.2) N.1.toNat N.2.1
  (T2.1, T3.1, T5.1, T5.2.2)
theorem rdA_write {c : Code} (h64 : I64s c) (hz : check c = 0) : (rl 5 ((write c).drop 4)).1 = [(c.kinds.length : Int), c.ins, c.outs, c.cells, c.stack] ∧ rdA (write c) = (c.kinds, c.init, c.body, false) := by
  obtain ⟨R1, R2, R3, R4, e0, e1, e2, e3, e4, e5⟩ := read_write h64 hz
  refine ⟨by rw [e1], ?_⟩
  unfold rdA
  simp only [e1, List.getD_cons_zero, List.getD_cons_succ, Int.toNat_natCast, e2, rlB, Bool.false_eq_true, if_false, e3, e4, riB, Bool.or_self, e5]
end Cd
theorem rlistB_any (w : World) (rb : Nat) (a : Option Addr) (cp : Nat) (b : List UInt8) (p : Nat) (bad : Bool) (n : Int) (hn : Cd.I64 n) (h : Rx w rb a cp b p bad) (hl : b.length ≤ 4000000) :
    Calls Tryz.prog 13 #[.pointer (some ⟨rb, 0, none⟩), .int .i64 n] w (RlP w rb a cp b (Cd.rlB bad n.toNat (b.drop p))) := by
  cases bad with
  | false => exact rlist_any w rb a cp b p n hn h hl
  | true => exact (rlist_bad w rb a cp b p n h).mono fun e w' ⟨he, hg⟩ => ⟨Kp.of0 hg _, _, he, World.ownsRow_nil _ _ _ _, p, h.on hg, rfl⟩
/-- what the walk keeps: the result's row, the reader, the heads, the code under way -/
structure Ps (w V : World) (rb C g : Nat) (a : Option Addr) (cap : Nat) (l : List UInt8) (q : Nat) (bad : Bool) (hs : List Int) (row : Array Value) : Prop where
  gr : w.grownBy V none
  xr : V.heap[w.heap.size]? = some (.cells #[.slice none 0 0, .int .i64 0, .int .i64 0, .int .i64 0, .int .i64 0, .slice none 0 0, .slice none 0 0] 27 (0, 0))
  rx : Rx V rb a cap l q bad
  hc : ∀ i x, hs[i]? = some x → V.cell? ⟨g, i, none⟩ = some (.int .i64 x)
  cr : V.heap[C]? = some (.cells row 27 (0, 0))
  lt : w.heap.size < rb ∧ rb < g ∧ g < C
  ga : ∀ g o, a = some ⟨g, o, none⟩ → l ≠ [] → g < w.heap.size
section
variable {w V V' : World} {rb C g : Nat} {a : Option Addr} {cap : Nat} {l : List UInt8} {q q' : Nat} {bad bad' : Bool} {hs : List Int} {row : Array Value}
theorem Ps.rd (h : Ps w V rb C g a cap l q bad hs row) (hk : Kp [rb] V V') (hr : Rx V' rb a cap l q' bad') : Ps w V' rb C g a cap l q' bad' hs row := by
  have hl := h.lt
  exact ⟨Kp.grown h.gr hk (fun k hk => by simp at hk; omega), (hk.block _ (gl h.xr) (by simp; omega)).trans h.xr, hr, fun i x hx => hk.cell (h.hc i x hx) (by simp; omega), (hk.block _ (gl h.cr) (by simp; omega)).trans h.cr, h.lt, h.ga⟩
theorem Ps.on (h : Ps w V rb C g a cap l q bad hs row) (hg : V.grownBy V' none) : Ps w V' rb C g a cap l q bad hs row := h.rd (Kp.of0 hg _) (h.rx.on hg)
theorem Ps.over {r : Option Nat} (h : Ps w V rb C g a cap l q bad hs row) (hg : V.grownBy V' r) (hr : ∀ k, r = some k → C < k) : Ps w V' rb C g a cap l q bad hs row := by
  have hl := h.lt
  have hk : Kp r.toList V V' := Kp.of hg _ (fun k e _ => by rw [e]; simp)
  have hn : ∀ k, k ≤ C → k ∉ r.toList := fun k hk hx => by have := hr k (by simpa using hx); omega
  exact ⟨Kp.grown h.gr hk (fun k hk => by have := hr k (by simpa using hk); omega), (hk.block _ (gl h.xr) (hn _ (by omega))).trans h.xr, h.rx.kp hk (hn _ (by omega)) (fun g o e hne => hn _ (by have := h.ga g o e hne; omega)), fun i x hx => hk.cell (h.hc i x hx) (hn _ (by omega)), (hk.block _ (gl h.cr) (hn _ (by omega))).trans h.cr, h.lt, h.ga⟩
theorem Ps.set (h : Ps w V rb C g a cap l q bad hs row) (i : Nat) (v : Value) : Ps w (V.setCell ⟨C, i, none⟩ v) rb C g a cap l q bad hs (row.setIfInBounds i v) := by
  have hl := h.lt
  have hk : Kp [C] V (V.setCell ⟨C, i, none⟩ v) := (Kp.refl _ _).set (by simp) _
  exact ⟨Kp.grown h.gr hk (fun k hk => by simp at hk; omega), (hk.block _ (gl h.xr) (by simp; omega)).trans h.xr, h.rx.kp hk (by simp; omega) (fun g o e hne => by have := h.ga g o e hne; simp; omega), fun i x hx => hk.cell (h.hc i x hx) (by simp; omega), heap_setCell_same _ _ _ _ _ _ h.cr, h.lt, h.ga⟩
end
theorem own_kp {V V' : World} {X : List Nat} {B : Nat} {T : TypeId} {z n : Nat} {v : Value} {xs : List Value} (h : V.ownsRow B T z v n xs) (hk : Kp X V V') (hX : ∀ x ∈ X, x < B) : V'.ownsRow B T z v n xs := gowns_on h (fun k e => hk.block k (h.lt k e).2 (fun hx => by have := hX k hx; have := (h.lt k e).1; omega))
theorem own_form {w : World} {B n s : Nat} {T : TypeId} {v : Value} {xs : List Value} (h : w.ownsRow B T s v n xs) : ∃ a c, v = .slice a n c := by
  rcases h.2 with ⟨rfl, h0⟩ | ⟨g, cap, cur, rfl, _⟩
  · exact ⟨none, 0, by rw [h0]⟩
  · exact ⟨_, _, rfl⟩
theorem gwpL_skip {P : Program} {ops : Array Oper} {Q : Exit → Act → World → Prop} {md : Region.Mode} {S : World → Prop} {Z : List Nat} {i : Nat} {oi : Oper} {f : Nat} {l : Array Bool} {a : Act} {w w' : World} (hr : Region.ready md ops l = [i]) (hi : ops[i]? = some oi)
    (hdst : oi.dst = none) (hw : Region.wanted oi (yielded ops a.tmps) = true) (hrun : (execOp a.eval oi).run P w = .ok .skip w') (hS : i ∉ Z → S w') (h : wpL P md ops Q S Z f (l.setIfInBounds i true) a w') : wpL P md ops Q S Z (f + 1) l a w := by
  refine wpL_one hr (wpOp_now hi hw (fun K' hK => ?_))
  unfold Oper.wp
  rw [hrun]
  refine hK _ _ ⟨hS, ?_⟩
  rw [hdst]
  exact h
theorem gexec_app {oi : Oper} {a : Act} {w w' : World} {s x : Operand} {t : TypeId} {v sl v' : Value} (ho : oi.op = .call { callee := .builtin .append, args := #[s, x], argTypes := #[t, t] }) (hs : a.eval s = v) (hx : a.eval x = sl) (hr : (Builtin.append_ #[t, t] oi.type #[v, sl]).run Tryz.prog w = .ok v' w') :
    (execOp a.eval oi).run Tryz.prog w = .ok (.value v') w' := by
  unfold execOp
  simp only [ho, resolve, invoke, builtin, Sem.run_bind, Sem.run_pure, Result.andThen_ok, List.map_toArray, List.map_cons, List.map_nil, hs, hx, hr]
/-- the instructions' loop -/
structure LpI (w V : World) (rb C g : Nat) (a : Option Addr) (cap : Nat) (l : List UInt8) (q : Nat) (bad : Bool) (hs : List Int) (row0 : Value → Array Value) (kv iv bv : Value) (ks is : List Int) (bs : List Cd.Ins) (T5 : List Cd.Ins × List UInt8 × Bool) (k : Nat) : Prop where
  P : Ps w V rb C g a cap l q bad hs (row0 bv)
  kO : V.ownsRow (C + 1) 3 1 kv ks.length (ks.map (Value.int .i64))
  iO : V.ownsRow (C + 1) 3 1 iv is.length (is.map (Value.int .i64))
  bO : V.ownsRow (C + 1) 32 3 bv bs.length (insC bs)
  ap : ∀ k, bv.ownBlock = some k → kv.ownBlock ≠ some k ∧ iv.ownBlock ≠ some k
  go : if bad = true then T5 = (bs, l.drop q, true) else T5 = (bs ++ (Cd.ri (k - bs.length) (l.drop q)).1, (Cd.ri (k - bs.length) (l.drop q)).2)
  ln : bs.length ≤ k ∧ bs.length ≤ q + 1 ∧ (bad = false → bs.length ≤ q)
theorem LpI.next {w V V3 V5 : World} {rb C g : Nat} {a : Option Addr} {cap : Nat} {l : List UInt8} {q q3 : Nat} {hs : List Int} {row0 : Value → Array Value} {kv iv bv v' : Value} {ks is : List Int} {bs : List Cd.Ins} {T5 : List Cd.Ins × List UInt8 × Bool} {k : Nat}
    (h : LpI w V rb C g a cap l q false hs row0 kv iv bv ks is bs T5 k) (hk : bs.length < k) (hkp : Kp [rb] V V3) {bad3 : Bool} (hr3 : Rx V3 rb a cap l q3 bad3) {x : Cd.Ins} (hx : Cd.rn3 (l.drop q) = (x, l.drop q3, bad3)) {ob : Obj}
    (ho : V5.ownsRow (C + 1) 32 3 v' (bs.length + 1) (insC bs ++ insC [x])) (hg5 : (V3.alloc ob).grownBy V5 bv.ownBlock) (hat : v'.ownBlock = bv.ownBlock ∨ v'.ownBlock = some (V3.alloc ob).heap.size) (hrow : (row0 bv).setIfInBounds 6 v' = row0 v') :
    LpI w (V5.setCell ⟨C, 6, none⟩ v') rb C g a cap l q3 bad3 hs row0 kv iv v' ks is (bs ++ [x]) T5 k := by
  have hl := h.P.lt
  have hga := World.grownBy_alloc V3 ob none
  have hblow : ∀ j, bv.ownBlock = some j → C < j := fun j e => by have := (h.bO.lt j e).1; omega
  have hP := (((h.P.rd hkp hr3).on hga).over hg5 hblow).set 6 v'
  rw [hrow] at hP
  have hV : C + 1 ≤ V.heap.size := gl h.P.cr
  have hs1 := hkp.size
  have hs2 := hga.size
  have keep : ∀ {T : TypeId} {n : Nat} {u : Value} {xs : List Value}, V.ownsRow (C + 1) T 1 u n xs → (∀ j, bv.ownBlock = some j → u.ownBlock ≠ some j) → (V5.setCell ⟨C, 6, none⟩ v').ownsRow (C + 1) T 1 u n xs := fun h1 h2 => by
    have e1 := own_kp (own_kp h1 hkp (fun x hx => by simp at hx; omega)) (Kp.of0 hga []) (fun x hx => by cases hx)
    have e2 := gowns_on e1 (fun j e => hg5.block j (e1.lt j e).2 (fun e3 => h2 j e3.symm e))
    exact own_kp e2 ((Kp.refl [C] V5).set (by simp) _) (fun x hx => by simp at hx; omega)
  have hbl : (bs ++ [x]).length = bs.length + 1 := by simp
  have hgo := h.go
  rw [if_neg (by simp)] at hgo
  obtain ⟨j, hj⟩ : ∃ j, k - bs.length = j + 1 := ⟨k - bs.length - 1, by omega⟩
  rw [hj, Cd.ri, hx] at hgo
  have hq3 := hr3.2.1
  have hq := h.P.rx.2.1
  have h3l := Cd.rn3_len (l.drop q)
  rw [hx, List.length_drop, List.length_drop] at h3l
  refine ⟨hP, keep h.kO (fun j e => (h.ap j e).1), keep h.iO (fun j e => (h.ap j e).2), ?_, fun j e => ?_, ?_, ?_⟩
  · rw [hbl]
    have e3 : insC (bs ++ [x]) = insC bs ++ insC [x] := by simp [insC]
    rw [e3]
    exact own_kp ho ((Kp.refl [C] V5).set (by simp) _) (fun x hx => by simp at hx; omega)
  · rcases hat with h2 | h2
    · exact h.ap j (h2.symm.trans e)
    · have e4 := Option.some.inj (h2.symm.trans e)
      exact ⟨fun e5 => by have := (h.kO.lt j e5).2; omega, fun e5 => by have := (h.iO.lt j e5).2; omega⟩
  · cases bad3 with
    | true =>
      rw [if_pos rfl]
      rw [if_pos rfl] at hgo
      exact hgo
    | false =>
      rw [if_neg (by simp)]
      rw [if_neg (by simp)] at hgo
      rw [hbl, show k - (bs.length + 1) = j by omega, hgo]
      simp
  · rw [hbl]
    have h5 := h.ln.2.2 rfl
    refine ⟨by omega, by omega, fun hb => ?_⟩
    have h6 := Cd.rn3_lt (l := l.drop q) (by rw [hx]; exact hb)
    rw [hx, List.length_drop, List.length_drop] at h6
    omega
theorem ginsC_one (l : List Cd.Ins) : ∀ u ∈ insC l, u.oneCell' = true := fun u hu => by
  unfold insC at hu
  rw [List.mem_flatten] at hu
  obtain ⟨x, hx, hu⟩ := hu
  obtain ⟨y, -, rfl⟩ := List.mem_map.1 hx
  simp at hu
  rcases hu with rfl | rfl | rfl <;> rfl
theorem noC_rdbad {l : List UInt8} (h : (Cd.rdA l).2.2.2 = true) : NoC l := fun c h1 h2 e => by
  have := (Cd.rdA_write h1 h2).2
  rw [e] at this
  rw [this] at h
  cases h
theorem noC_rd {l : List UInt8} {ks is : List Int} {bs : List Cd.Ins} {h0 x1 x2 x3 x4 : Int} (hA : Cd.rdA l = (ks, is, bs, false)) (hH : (Cd.rl 5 (l.drop 4)).1 = [h0, x1, x2, x3, x4])
    (hne : Cd.check { kinds := ks, ins := x1, outs := x2, cells := x3, stack := x4, init := is, body := bs } ≠ 0 ∨ Cd.write { kinds := ks, ins := x1, outs := x2, cells := x3, stack := x4, init := is, body := bs } ≠ l) : NoC l := fun c h1 h2 e => by
  obtain ⟨q1, q2⟩ := Cd.rdA_write h1 h2
  rw [e, hH] at q1
  rw [e, hA] at q2
  have hc : c = { kinds := ks, ins := x1, outs := x2, cells := x3, stack := x4, init := is, body := bs } := by
    cases c
    simp at q1 q2
    simp [q1, q2]
  rw [hc] at h2 e
  rcases hne with h | h
  · exact h h2
  · exact h e
theorem gstr_of {W : World} {a : Option Addr} {cap : Nat} {P : List UInt8} (hb : BytesAt W a P) (hne : P ≠ []) : (convert 22 9 (.slice a P.length cap)).run Tryz.prog W = .ok (.string ⟨P.toArray⟩) W := by
  obtain ⟨x, t, hx⟩ : ∃ x t, P = x :: t := by cases P with | nil => exact absurd rfl hne | cons x t => exact ⟨x, t, rfl⟩
  obtain ⟨g, o, rfl, -⟩ := hb 0 x (by rw [hx]; rfl)
  exact cvp W g o cap P (fun j b hj => by
    obtain ⟨g', o', e, h⟩ := hb j b hj
    cases e
    exact h)
end Go.Proofs.YtfbhflpjhbemlaaGreat
