/- Code in memory: lists of numbers and of instructions. -/
import Derived.Test.YtlppifnepckpiaaRaW
import Derived.Test.YtlppifnepckpiaaCdN
namespace Go.Proofs.Ytlppifnepckpiaa
open Go.RowKit Go.Maps Go.WideMaps

/-- a list of numbers from an address on -/
def NumsAt (w : World) (a : Option Addr) (l : List Int) : Prop := ∀ i n, l[i]? = some n → ∃ b o, a = some ⟨b, o, none⟩ ∧ w.cell? ⟨b, o + i, none⟩ = some (.int .i64 n)
theorem NumsAt.on {w w' : World} {a : Option Addr} {l : List Int} (h : NumsAt w a l) (hg : w.grownBy w' none) : NumsAt w' a l := fun i n hi => by
  obtain ⟨b, o, e, hc⟩ := h i n hi
  exact ⟨b, o, e, hg.cell hc (by simp)⟩
theorem NumsAt.nil (w : World) (a : Option Addr) : NumsAt w a [] := fun i n h => by simp at h
theorem NumsAt.take {w : World} {a : Option Addr} {l : List Int} (h : NumsAt w a l) (k : Nat) : NumsAt w a (l.take k) := fun i n hi => by
  rw [List.getElem?_take] at hi
  split at hi
  · exact h i n hi
  · cases hi
/-- a list that was laid by appends -/
theorem NumsAt.own {w : World} {B : Nat} {v : Value} {l : List Int} (h : w.ownsRow B 3 1 v l.length (l.map (Value.int .i64))) : ∃ a c, v = .slice a l.length c ∧ NumsAt w a l := by
  rcases h.2 with ⟨rfl, h0⟩ | ⟨g, cap, cur, rfl, hB, hh, h1, h2, h3, h4⟩
  · refine ⟨none, 0, by rw [h0], ?_⟩
    have : l = [] := List.eq_nil_of_length_eq_zero h0
    rw [this]
    exact NumsAt.nil w _
  · refine ⟨_, cap, rfl, fun i n hi => ⟨g, 0, rfl, ?_⟩⟩
    have hl : i < l.length := (List.getElem?_eq_some_iff.1 hi).1
    have e : cur.toList[i]? = some (.int .i64 n) := by
      have : (cur.toList.take (l.length * 1))[i]? = some (.int .i64 n) := by rw [h4, List.getElem?_map, hi]; rfl
      rw [List.getElem?_take] at this
      split at this
      · exact this
      · cases this
    rw [Nat.zero_add]
    unfold World.cell?
    rw [hh]
    simpa using e
/-- a list of instructions from an address on -/
def InssAt (w : World) (a : Option Addr) (l : List Cd.Ins) : Prop := ∀ i x, l[i]? = some x → ∃ b o, a = some ⟨b, o, none⟩ ∧ w.cell? ⟨b, o + i * 3, none⟩ = some (.int .i64 x.op) ∧ w.cell? ⟨b, o + i * 3 + 1, none⟩ = some (.int .i64 x.n) ∧ w.cell? ⟨b, o + i * 3 + 2, none⟩ = some (.int .i64 x.k)
theorem InssAt.on {w w' : World} {a : Option Addr} {l : List Cd.Ins} (h : InssAt w a l) (hg : w.grownBy w' none) : InssAt w' a l := fun i x hi => by
  obtain ⟨b, o, e, h1, h2, h3⟩ := h i x hi
  exact ⟨b, o, e, hg.cell h1 (by simp), hg.cell h2 (by simp), hg.cell h3 (by simp)⟩
def insC (l : List Cd.Ins) : List Value := (l.map fun x => [Value.int .i64 x.op, .int .i64 x.n, .int .i64 x.k]).flatten
theorem insC_at : ∀ (l : List Cd.Ins) (i : Nat) (x : Cd.Ins), l[i]? = some x → (insC l)[i * 3]? = some (.int .i64 x.op) ∧ (insC l)[i * 3 + 1]? = some (.int .i64 x.n) ∧ (insC l)[i * 3 + 2]? = some (.int .i64 x.k)
  | [], i, x, h => by simp at h
  | y :: l, 0, x, h => by
    simp at h
    subst h
    exact ⟨rfl, rfl, rfl⟩
  | y :: l, i + 1, x, h => by
    have := insC_at l i x (by simpa using h)
    have e : insC (y :: l) = .int .i64 y.op :: .int .i64 y.n :: .int .i64 y.k :: insC l := rfl
    rw [e, show (i + 1) * 3 = i * 3 + 1 + 1 + 1 by omega]
    simpa using this
theorem insC_len (l : List Cd.Ins) : (insC l).length = l.length * 3 := by
  induction l with
  | nil => rfl
  | cons y l ih =>
    have e : insC (y :: l) = .int .i64 y.op :: .int .i64 y.n :: .int .i64 y.k :: insC l := rfl
    rw [e]
    simp only [List.length_cons, ih]
    omega
theorem InssAt.own {w : World} {B : Nat} {v : Value} {l : List Cd.Ins} (h : w.ownsRow B 41 3 v l.length (insC l)) : ∃ a c, v = .slice a l.length c ∧ InssAt w a l := by
  rcases h.2 with ⟨rfl, h0⟩ | ⟨g, cap, cur, rfl, hB, hh, h1, h2, h3, h4⟩
  · refine ⟨none, 0, by rw [h0], ?_⟩
    have : l = [] := List.eq_nil_of_length_eq_zero h0
    rw [this]
    exact fun i x h => by simp at h
  · refine ⟨_, cap, rfl, fun i x hi => ?_⟩
    have hl : i < l.length := (List.getElem?_eq_some_iff.1 hi).1
    obtain ⟨a1, a2, a3⟩ := insC_at l i x hi
    have key : ∀ j u, (insC l)[j]? = some u → w.cell? ⟨g, 0 + j, none⟩ = some u := by
      intro j u hj
      have hjl : j < l.length * 3 := by rw [← insC_len]; exact (List.getElem?_eq_some_iff.1 hj).1
      rw [← h4, List.getElem?_take, if_pos hjl] at hj
      rw [Nat.zero_add]
      unfold World.cell?
      rw [hh]
      simpa using hj
    exact ⟨g, 0, rfl, key _ _ a1, key _ _ a2, key _ _ a3⟩
/-- code as a value: its seven cells -/
def codeV (c : Cd.Code) (ka : Option Addr) (kc : Nat) (ia : Option Addr) (ic : Nat) (ba : Option Addr) (bc : Nat) : Array Value :=
  #[.slice ka c.kinds.length kc, .int .i64 c.ins, .int .i64 c.outs, .int .i64 c.cells, .int .i64 c.stack, .slice ia c.init.length ic, .slice ba c.body.length bc]
structure CodeAt (w : World) (c : Cd.Code) (ka ia ba : Option Addr) : Prop where
  kinds : NumsAt w ka c.kinds
  init : NumsAt w ia c.init
  body : InssAt w ba c.body
theorem CodeAt.on {w w' : World} {c : Cd.Code} {ka ia ba : Option Addr} (h : CodeAt w c ka ia ba) (hg : w.grownBy w' none) : CodeAt w' c ka ia ba := ⟨h.kinds.on hg, h.init.on hg, h.body.on hg⟩

end Go.Proofs.Ytlppifnepckpiaa
