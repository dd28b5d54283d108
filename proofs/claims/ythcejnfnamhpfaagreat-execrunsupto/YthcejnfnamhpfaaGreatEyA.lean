/- Stage 21: lists of rows that are made one by one, each row in a block of its own; the runs (plain). -/
import Derived.Test.YthcejnfnamhpfaaGreatExL
import Derived.Test.YthcejnfnamhpfaaGreatExJ
import Derived.Test.YthcejnfnamhpfaaGreatJnH
import Derived.Maps.AppendAt
namespace Go.Proofs.YthcejnfnamhpfaaGreat
open Go.RowKit Go.Maps Go.WideMaps

theorem xowns_form {w : World} {B n : Nat} {T : TypeId} {v : Value} {xs : List Value} (h : w.ownsRow B T 1 v n xs) : ∃ a c, v = .slice a n c := by
  rcases h.2 with ⟨rfl, h0⟩ | ⟨g, cap, cur, rfl, _⟩
  · exact ⟨none, 0, by rw [h0]⟩
  · exact ⟨_, _, rfl⟩
theorem xinfo_sl : (Tryz.prog.info? 22).map (fun i => (i.zero, i.size, i.bytes)) = some (some (.slice none 0 0), 1, 24) := by kernel_rfl
theorem NumsAt.lft {w : World} {a : Option Addr} {l r : List Int} (h : NumsAt w a (l ++ r)) : NumsAt w a l := fun i n hi => h i n (by rw [List.getElem?_append_left (List.getElem?_eq_some_iff.1 hi).1]; exact hi)
/-- a row: what is put to the list, and the whole row, its numbers -/
structure Lx where
  st : Value
  fu : Value
  l : List Int
structure LsI (w W : World) (ms : List Nat) (xs : List Lx) (v : Value) : Prop where
  gw : w.grownBy W none
  own : W.ownsRow w.heap.size 22 1 v xs.length (xs.map (·.st))
  lo : ∀ k ∈ ms, w.heap.size ≤ k
  vm : ∀ k ∈ ms, v.ownBlock ≠ some k
  rows : ∀ x ∈ xs, W.ownsRow w.heap.size 3 1 x.fu x.l.length (ints x.l) ∧ (∀ k ∈ ms, x.fu.ownBlock ≠ some k) ∧ ∀ k, v.ownBlock = some k → x.fu.ownBlock ≠ some k
section
variable {w W W1 W3 : World} {ms : List Nat} {xs : List Lx} {v v' : Value}
theorem LsI.nil (hg : w.grownBy W none) (hm : ∀ k ∈ ms, w.heap.size ≤ k) : LsI w W ms [] (.slice none 0 0) :=
  ⟨hg, World.ownsRow_nil _ _ _ _, hm, fun k _ e => (by cases e), fun x hx => (by cases hx)⟩
theorem LsI.fresh (h : LsI w W ms xs v) (hg : W.grownBy W1 none) : LsI w W1 ms xs v :=
  ⟨h.gw.trans hg, h.own.kept hg (by cases v.ownBlock <;> simp), h.lo, h.vm, fun x hx => ⟨(h.rows x hx).1.kept hg (by cases x.fu.ownBlock <;> simp), (h.rows x hx).2⟩⟩
theorem LsI.turn (h : LsI w W ms xs v) (hk : Kp ms W W1) : LsI w W1 ms xs v :=
  ⟨Kp.grown h.gw hk h.lo, owns_on h.own (fun k e => hk.block k (h.own.lt k e).2 (fun hx => h.vm k hx e)), h.lo, h.vm, fun x hx => ⟨owns_on (h.rows x hx).1 (fun k e => hk.block k ((h.rows x hx).1.lt k e).2 (fun hy => (h.rows x hx).2.1 k hy e)), (h.rows x hx).2⟩⟩
theorem LsI.app (h : LsI w W ms xs v) {x : Lx} (hx : W.ownsRow w.heap.size 3 1 x.fu x.l.length (ints x.l)) (hxm : ∀ k ∈ ms, x.fu.ownBlock ≠ some k) (hxv : ∀ k, v.ownBlock = some k → x.fu.ownBlock ≠ some k) (hg : W.grownBy W1 none)
    (ho : W3.ownsRow w.heap.size 22 1 v' (xs.length + 1) (xs.map (·.st) ++ [x.st])) (hg3 : W1.grownBy W3 v.ownBlock) (hat : v'.ownBlock = v.ownBlock ∨ v'.ownBlock = some W1.heap.size) (hml : ∀ k ∈ ms, k < W1.heap.size) : LsI w W3 ms (xs ++ [x]) v' := by
  have h1 := h.fresh hg
  have hx1 : W1.ownsRow w.heap.size 3 1 x.fu x.l.length (ints x.l) := hx.kept hg (by cases x.fu.ownBlock <;> simp)
  have hvk : ∀ k, v'.ownBlock = some k → k < W1.heap.size → v.ownBlock = some k := fun k e hk => by
    rcases hat with h2 | h2
    · exact h2.symm.trans e
    · have := Option.some.inj (h2.symm.trans e); omega
  have key : ∀ y : Lx, W1.ownsRow w.heap.size 3 1 y.fu y.l.length (ints y.l) → (∀ k ∈ ms, y.fu.ownBlock ≠ some k) → (∀ k, v.ownBlock = some k → y.fu.ownBlock ≠ some k) → W3.ownsRow w.heap.size 3 1 y.fu y.l.length (ints y.l) ∧ (∀ k ∈ ms, y.fu.ownBlock ≠ some k) ∧ ∀ k, v'.ownBlock = some k → y.fu.ownBlock ≠ some k := fun y h2 h3 h4 =>
    ⟨owns_on h2 (fun k e => hg3.block k (h2.lt k e).2 (fun e2 => h4 k e2.symm e)), h3, fun k e e2 => h4 k (hvk k e (h2.lt k e2).2) e2⟩
  refine ⟨⟨hg3.os.trans h1.gw.os, hg3.tape.trans h1.gw.tape, hg3.output.trans h1.gw.output, Nat.le_trans h1.gw.size hg3.size, fun k hk _ => ?_⟩, ?_, h.lo, fun k hk e => ?_, fun y hy => ?_⟩
  · have := h1.gw.size
    exact (hg3.block k (by omega) (fun e => by have := (h1.own.lt k e.symm).1; omega)).trans (h1.gw.block k hk (by simp))
  · rw [List.length_append, List.length_singleton, List.map_append]
    exact ho
  · exact h.vm k hk (hvk k e (hml k hk))
  · rcases List.mem_append.1 hy with hy | hy
    · exact key y (h1.rows y hy).1 (h1.rows y hy).2.1 (h1.rows y hy).2.2
    · rw [List.mem_singleton.1 hy]
      exact key x hx1 hxm hxv
end
/-- rows to be read -/
def RowsQ (w : World) (a : Option Addr) (L : List (List Int)) : Prop := ∀ i l, L[i]? = some l → ∃ b o ra rc, a = some ⟨b, o, none⟩ ∧ w.cell? ⟨b, o + i, none⟩ = some (.slice ra l.length rc) ∧ NumsAt w ra l ∧ l.length ≤ rc ∧ l.length ≤ maxLen
theorem RowsQ.on {w w' : World} {a : Option Addr} {L : List (List Int)} (h : RowsQ w a L) (hg : w.grownBy w' none) : RowsQ w' a L := fun i l hi => by
  obtain ⟨b, o, ra, rc, e, h1, h2, h3⟩ := h i l hi
  exact ⟨b, o, ra, rc, e, hg.cell h1 (by simp), h2.on hg, h3⟩
theorem RowsAt.q {w : World} {a : Option Addr} {L : List (List Int)} (h : RowsAt w a L) : RowsQ w a L := fun i l hi => by
  obtain ⟨b, o, ra, rc, e, h1, h2, h3, h4, _⟩ := h i l hi
  exact ⟨b, o, ra, rc, e, h1, h2, h3, h4⟩
theorem RowsQ.nil (w : World) (a : Option Addr) : RowsQ w a [] := fun i l h => by simp at h
theorem LsI.q {w W : World} {ms : List Nat} {xs : List Lx} {a : Option Addr} {n c : Nat} (h : LsI w W ms xs (.slice a n c)) (hs : ∀ x ∈ xs, x.st = x.fu) : n = xs.length ∧ RowsQ W a (xs.map (·.l)) := by
  rcases h.own.2 with ⟨e, h0⟩ | ⟨g, cap, cur, e, hb, hg, hc, _⟩
  · have hx : xs = [] := List.eq_nil_of_length_eq_zero h0
    subst hx
    cases e
    exact ⟨rfl, RowsQ.nil _ _⟩
  · cases e
    refine ⟨rfl, fun i l hi => ?_⟩
    rw [List.getElem?_map, Option.map_eq_some_iff] at hi
    obtain ⟨x, hx, rfl⟩ := hi
    have hxm := List.mem_of_getElem? hx
    have hce := h.own.cells (g := g) rfl i x.st (by rw [List.getElem?_map, hx]; rfl)
    rw [addr_at] at hce
    have hr := (h.rows x hxm).1
    obtain ⟨ra, rc, e2, hn⟩ := NumsAt.own hr
    rw [hs x hxm, e2] at hce
    refine ⟨g, 0, ra, rc, rfl, hce, hn, ?_, ?_⟩
    · rcases hr.2 with ⟨e3, h3⟩ | ⟨g2, cap2, cur2, e3, _, _, hc2, _⟩
      · omega
      · rw [e2] at e3
        cases e3
        exact hc2
    · rcases hr.2 with ⟨e3, h3⟩ | ⟨g2, cap2, cur2, e3, _, _, hc2, hm2, _⟩
      · rw [h3]; unfold maxLen; omega
      · omega
namespace Ex
/-- tick by tick, up to the first that is refused -/
def runGo (c : Cd.Code) : List Int → List (List Int) → List (List Int) → List (List Int) × Int
  | _, [], acc => (acc, 0)
  | cells, i :: r, acc => if (tickR c cells i).2.2.1 = 0 then runGo c (tickR c cells i).2.2.2 r (acc ++ [(tickR c cells i).1]) else ([], (tickR c cells i).2.2.1)
def runR (c : Cd.Code) (ins : List (List Int)) : List (List Int) × Int := if Cd.check c = 0 then (if 1000 < ins.length then ([], 2) else runGo c c.init ins []) else ([], 40)
theorem runGo_step {c : Cd.Code} {cells : List Int} {L acc : List (List Int)} {t : Nat} {l : List Int} (h : L[t]? = some l) : runGo c cells (L.drop t) acc = if (tickR c cells l).2.2.1 = 0 then runGo c (tickR c cells l).2.2.2 (L.drop (t + 1)) (acc ++ [(tickR c cells l).1]) else ([], (tickR c cells l).2.2.1) := by
  obtain ⟨ht, rfl⟩ := List.getElem?_eq_some_iff.1 h
  rw [List.drop_eq_getElem_cons ht, runGo]
end Ex
end Go.Proofs.YthcejnfnamhpfaaGreat
