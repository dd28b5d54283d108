/- My texts GtA GtB GtC GtD GtE GtF GtG, joined. -/
import Derived.Test.YtachmiajldeakaaGreatDoorMgF
set_option linter.unusedVariables false
/- How edges, variables, transitions, items, states and nodes lie in memory; lists of rows that grow. -/
namespace Go.Proofs.YtachmiajldeakaaGreatDoor
open Go.RowKit Go.Maps Go.WideMaps

def edgeD (e : Gram.Edge) : List D := [.c (.string ⟨e.name.toArray⟩), .c (.bool e.on)]
def varD (v : Gram.Var) : List D := [.c (.string ⟨v.name.toArray⟩), .c (.int .i64 v.tk), .c (.int .i64 v.tl), .l 150 2 (v.clock.map edgeD), .c (.int .i64 v.at_)]
def transD (t : Gram.Trans) : List D := expD t.cond ++ [.c (.string ⟨t.to.toArray⟩), .c (.bool t.cont), .c (.int .i64 t.at_)]
def nameD (n : Gram.B) : List D := [.c (.string ⟨n.toArray⟩)]
mutual
def itemD : Gram.Item → List D
  | .mk ns e ss a => .l 9 1 (ns.map nameD) :: (expD e ++ [.l 182 6 (statesD ss), .c (.int .i64 a)])
def itemsD : List Gram.Item → List (List D)
  | [] => []
  | x :: r => itemD x :: itemsD r
def stateD : Gram.State → List D
  | .mk nm us ut ls its a => [.c (.string ⟨nm.toArray⟩), .l 222 12 (us.map transD), .l 222 12 (ut.map transD), .l 139 5 (ls.map varD), .l 41 12 (itemsD its), .c (.int .i64 a)]
def statesD : List Gram.State → List (List D)
  | [] => []
  | x :: r => stateD x :: statesD r
end
def nodeD (n : Gram.Node) : List D := [.c (.string ⟨n.name.toArray⟩), .l 139 5 (n.ins.map varD), .l 139 5 (n.outs.map varD), .l 139 5 (n.locals.map varD), .l 41 12 (itemsD n.items), .c (.int .i64 n.at_)]
theorem itemsD_map : ∀ l, itemsD l = l.map itemD
  | [] => by simp [itemsD]
  | x :: r => by simp [itemsD, itemsD_map r]
theorem statesD_map : ∀ l, statesD l = l.map stateD
  | [] => by simp [statesD]
  | x :: r => by simp [statesD, statesD_map r]
theorem expsD_map : ∀ l, expsD l = l.map expD
  | [] => by simp [expsD]
  | x :: r => by simp [expsD, expsD_map r]

section
variable {w w' : World} {B : Nat} {E : List Nat}
theorem RepRow.cInv {v : Value} {ds : List D} {vs : List Value} (h : RepRow w B E (.c v :: ds) vs) : ∃ us, vs = v :: us ∧ RepRow w B E ds us := by
  cases h with
  | cons h t => cases h; exact ⟨_, rfl, t⟩
theorem RepC.form {e : TypeId} {sz : Nat} {rows : List (List D)} {v : Value} (h : RepC w B E (.l e sz rows) v) : ∃ a n c, v = .slice a n c := by
  cases h with
  | l ho _ _ =>
    rcases ho.2 with ⟨rfl, _⟩ | ⟨g, cap, cur, rfl, _⟩
    · exact ⟨_, _, _, rfl⟩
    · exact ⟨_, _, _, rfl⟩
theorem RepRow.lInv {e : TypeId} {sz : Nat} {rows : List (List D)} {ds : List D} {vs : List Value} (h : RepRow w B E (.l e sz rows :: ds) vs) : ∃ a n c us, vs = .slice a n c :: us ∧ RepC w B E (.l e sz rows) (.slice a n c) ∧ RepRow w B E ds us := by
  cases h with
  | cons h t =>
    obtain ⟨a, n, c, rfl⟩ := h.form
    exact ⟨a, n, c, _, rfl, h, t⟩
theorem RepRow.nInv {vs : List Value} (h : RepRow w B E [] vs) : vs = [] := by cases h; rfl
theorem RepRow.appInv : ∀ {ds es : List D} {vs : List Value}, RepRow w B E (ds ++ es) vs → ∃ us ts, vs = us ++ ts ∧ RepRow w B E ds us ∧ RepRow w B E es ts
  | [], _, vs, h => ⟨[], vs, rfl, .nil, h⟩
  | d :: ds, es, vs, h => by
    cases h with
    | cons h t =>
      obtain ⟨us, ts, rfl, h1, h2⟩ := RepRow.appInv t
      exact ⟨_ :: us, ts, rfl, .cons h h1, h2⟩
theorem RepRow.len : ∀ {ds : List D} {vs : List Value}, RepRow w B E ds vs → vs.length = ds.length
  | _, _, .nil => rfl
  | _, _, .cons _ t => by simp [RepRow.len t]
/-- one cell another -/
theorem RepRow.set : ∀ {ds : List D} {vs : List Value} (j : Nat) {d : D} {u : Value}, RepRow w B E ds vs → RepC w B E d u → RepRow w B E (ds.set j d) (vs.set j u)
  | _, _, _, _, _, .nil, _ => by simpa using RepRow.nil
  | _, _, 0, _, _, .cons _ t, h => .cons h t
  | _, _, j + 1, _, _, .cons a t, h => .cons a (RepRow.set j t h)
/-- the nine cells of an expression -/
theorem expInv {x : Gram.Exp} {vs : List Value} (h : RepRow w B E (expD x) vs) : ∃ a n c, vs = expCells x (.slice a n c) ∧ KidsX w B E x.kids (.slice a n c) := by
  cases x with
  | mk f s nm tk tl nn m ks at_ =>
    simp only [expD] at h
    obtain ⟨u1, rfl, h_1⟩ := h.cInv
    obtain ⟨u2, rfl, h_2⟩ := h_1.cInv
    obtain ⟨u3, rfl, h_3⟩ := h_2.cInv
    obtain ⟨u4, rfl, h_4⟩ := h_3.cInv
    obtain ⟨u5, rfl, h_5⟩ := h_4.cInv
    obtain ⟨u6, rfl, h_6⟩ := h_5.cInv
    obtain ⟨u7, rfl, h_7⟩ := h_6.cInv
    obtain ⟨a, n, c, u8, rfl, hk, h_8⟩ := h_7.lInv
    obtain ⟨u9, rfl, h_9⟩ := h_8.cInv
    obtain rfl := h_9.nInv
    exact ⟨a, n, c, rfl, hk⟩
theorem edgeInv {x : Gram.Edge} {vs : List Value} (h : RepRow w B E (edgeD x) vs) : vs = [.string ⟨x.name.toArray⟩, .bool x.on] := by
  obtain ⟨u1, rfl, h_1⟩ := h.cInv
  obtain ⟨u2, rfl, h_2⟩ := h_1.cInv
  obtain rfl := h_2.nInv
  rfl
theorem nameInv {x : Gram.B} {vs : List Value} (h : RepRow w B E (nameD x) vs) : vs = [.string ⟨x.toArray⟩] := by
  obtain ⟨u1, rfl, h_1⟩ := h.cInv
  obtain rfl := h_1.nInv
  rfl
theorem transInv {x : Gram.Trans} {vs : List Value} (h : RepRow w B E (transD x) vs) : ∃ a n c, vs = expCells x.cond (.slice a n c) ++ [.string ⟨x.to.toArray⟩, .bool x.cont, .int .i64 x.at_] := by
  obtain ⟨u, t, rfl, h1, h_1⟩ := RepRow.appInv h
  obtain ⟨a, n, c, rfl, _⟩ := expInv h1
  obtain ⟨u1, rfl, h_2⟩ := h_1.cInv
  obtain ⟨u2, rfl, h_3⟩ := h_2.cInv
  obtain ⟨u3, rfl, h_4⟩ := h_3.cInv
  obtain rfl := h_4.nInv
  exact ⟨a, n, c, rfl⟩
theorem stateInv {nm : Gram.B} {us ut : List Gram.Trans} {ls : List Gram.Var} {its : List Gram.Item} {at_ : Int} {vs : List Value} (h : RepRow w B E (stateD (.mk nm us ut ls its at_)) vs) : ∃ a1 n1 c1 a2 n2 c2 a3 n3 c3 a4 n4 c4, vs = [.string ⟨nm.toArray⟩, .slice a1 n1 c1, .slice a2 n2 c2, .slice a3 n3 c3, .slice a4 n4 c4, .int .i64 at_] := by
  simp only [stateD] at h
  obtain ⟨u1, rfl, h_1⟩ := h.cInv
  obtain ⟨a1, n1, c1, u2, rfl, _, h_2⟩ := h_1.lInv
  obtain ⟨a2, n2, c2, u3, rfl, _, h_3⟩ := h_2.lInv
  obtain ⟨a3, n3, c3, u4, rfl, _, h_4⟩ := h_3.lInv
  obtain ⟨a4, n4, c4, u5, rfl, _, h_5⟩ := h_4.lInv
  obtain ⟨u6, rfl, h_6⟩ := h_5.cInv
  obtain rfl := h_6.nInv
  exact ⟨_, _, _, _, _, _, _, _, _, _, _, _, rfl⟩
theorem itemInv {ns : List Gram.B} {e : Gram.Exp} {ss : List Gram.State} {at_ : Int} {vs : List Value} (h : RepRow w B E (itemD (.mk ns e ss at_)) vs) : ∃ a1 n1 c1 a2 n2 c2 a3 n3 c3, vs = .slice a1 n1 c1 :: (expCells e (.slice a2 n2 c2) ++ [.slice a3 n3 c3, .int .i64 at_]) := by
  simp only [itemD] at h
  obtain ⟨a1, n1, c1, u1, rfl, _, h_1⟩ := h.lInv
  obtain ⟨u, t, rfl, h1, h_2⟩ := RepRow.appInv h_1
  obtain ⟨a2, n2, c2, rfl, _⟩ := expInv h1
  obtain ⟨a3, n3, c3, u3, rfl, _, h_3⟩ := h_2.lInv
  obtain ⟨u4, rfl, h_4⟩ := h_3.cInv
  obtain rfl := h_4.nInv
  exact ⟨_, _, _, _, _, _, _, _, _, rfl⟩
theorem nodeInv {x : Gram.Node} {vs : List Value} (h : RepRow w B E (nodeD x) vs) : ∃ a1 n1 c1 a2 n2 c2 a3 n3 c3 a4 n4 c4, vs = [.string ⟨x.name.toArray⟩, .slice a1 n1 c1, .slice a2 n2 c2, .slice a3 n3 c3, .slice a4 n4 c4, .int .i64 x.at_] := by
  obtain ⟨u1, rfl, h_1⟩ := h.cInv
  obtain ⟨a1, n1, c1, u2, rfl, _, h_2⟩ := h_1.lInv
  obtain ⟨a2, n2, c2, u3, rfl, _, h_3⟩ := h_2.lInv
  obtain ⟨a3, n3, c3, u4, rfl, _, h_4⟩ := h_3.lInv
  obtain ⟨a4, n4, c4, u5, rfl, _, h_5⟩ := h_4.lInv
  obtain ⟨u6, rfl, h_6⟩ := h_5.cInv
  obtain rfl := h_6.nInv
  exact ⟨_, _, _, _, _, _, _, _, _, _, _, _, rfl⟩
theorem varInv {x : Gram.Var} {vs : List Value} (h : RepRow w B E (varD x) vs) : ∃ a n c, vs = [.string ⟨x.name.toArray⟩, .int .i64 x.tk, .int .i64 x.tl, .slice a n c, .int .i64 x.at_] := by
  obtain ⟨u1, rfl, h_1⟩ := h.cInv
  obtain ⟨u2, rfl, h_2⟩ := h_1.cInv
  obtain ⟨u3, rfl, h_3⟩ := h_2.cInv
  obtain ⟨a, n, c, u4, rfl, _, h_4⟩ := h_3.lInv
  obtain ⟨u5, rfl, h_5⟩ := h_4.cInv
  obtain rfl := h_5.nInv
  exact ⟨_, _, _, rfl⟩
end

/-- a list of rows that is being made: no list of its parts lies in its own block -/
def GrowD (w : World) (B : Nat) (e : TypeId) (sz : Nat) (rows : List (List D)) (v : Value) : Prop := ∃ xs, w.ownsRow B e sz v rows.length xs ∧ RepRow w B v.ownBlock.toList rows.flatten xs
section
variable {w w' : World} {B B' : Nat} {e : TypeId} {sz : Nat} {rows : List (List D)} {v : Value}
theorem GrowD.rep (h : GrowD w B e sz rows v) : RepC w B [] (.l e sz rows) v := by
  obtain ⟨xs, ho, hx⟩ := h
  exact .l ho (fun _ e => by cases e) (RepRow.noX hx)
theorem GrowD.nil (w : World) (B : Nat) (e : TypeId) (sz : Nat) : GrowD w B e sz [] (.slice none 0 0) := ⟨[], World.ownsRow_nil w B _ _, .nil⟩
theorem GrowD.kept {row : Option Nat} (hg : w.grownBy w' row) (hr : ∀ k, row = some k → k < B) (h : GrowD w B e sz rows v) : GrowD w' B e sz rows v := by
  obtain ⟨xs, ho, hx⟩ := h
  refine ⟨xs, ho.kept hg ?_, RepRow.keptX hg (fun k e => .inl (hr k e)) hx⟩
  cases hv : v.ownBlock with
  | none => exact .inl rfl
  | some k => exact .inr (fun e => by have h1 := (ho.lt k hv).1; have h2 := hr k e.symm; omega)
theorem GrowD.keptB {b : Nat} (h : GrowD w B e sz rows v) (hg : w.grownBy w' (some b)) (hb : b < B) : GrowD w' B e sz rows v := GrowD.kept hg (fun k e => by cases e; exact hb) h
theorem GrowD.kept0 (h : GrowD w B e sz rows v) (hg : w.grownBy w' none) : GrowD w' B e sz rows v := GrowD.kept hg (fun k e => by cases e) h
theorem GrowD.mono (h : GrowD w B e sz rows v) (hB : B' ≤ B) : GrowD w B' e sz rows v := by
  obtain ⟨xs, ho, hx⟩ := h
  exact ⟨xs, ho.mono hB, RepRow.mono hB hx⟩
theorem GrowD.form (h : GrowD w B e sz rows v) : ∃ a n c, v = .slice a n c := h.rep.form
theorem GrowD.lt (h : GrowD w B e sz rows v) : ∀ k ∈ v.ownBlock.toList, k < w.heap.size := by
  obtain ⟨xs, ho, hx⟩ := h
  intro k hk
  exact (ho.lt k (by simpa using hk)).2
theorem GrowD.ge (h : GrowD w B e sz rows v) : ∀ k, v.ownBlock = some k → B ≤ k := by
  obtain ⟨xs, ho, hx⟩ := h
  exact fun k hk => (ho.lt k hk).1
theorem growD_snoc {v' : Value} {r : List D} {xs ys : List Value} (hg : w.grownBy w' v.ownBlock) (ho : w'.ownsRow B e sz v' (rows.length + 1) (xs ++ ys)) (hx : RepRow w B v.ownBlock.toList rows.flatten xs)
    (hk : RepRow w B v.ownBlock.toList r ys) (hv : v'.ownBlock = v.ownBlock ∨ v'.ownBlock = some w.heap.size) : GrowD w' B e sz (rows ++ [r]) v' := by
  have ha := hx.append hk
  refine ⟨_, by simpa using ho, ?_⟩
  have e1 : (rows ++ [r]).flatten = rows.flatten ++ r := by simp
  rw [e1]
  rcases hv with hv | hv
  · rw [hv]; exact RepRow.keptX hg (fun k e => .inr (by rw [e]; simp)) ha
  · rw [hv]; exact RepRow.keptN hg (fun k e => .inr (by rw [e]; simp)) _ (fun k e => by simp at e; omega) ha
end
/-- what a part that reads one thing does -/
def rPost {α : Type} (F : α → List D) (w : World) (b g cap : Nat) (rv : Value) (T : List Lex.Tk) (d : Nat) (r : Gram.PR α) (e : Ending) (w' : World) : Prop :=
  match r with
  | .ok x i => ∃ vs, e = .returned (.agg vs.toArray) ∧ RepRow w' w.heap.size [] (F x) vs ∧ Pa w' b g cap rv T i d ∧ w.grownBy w' (some b)
  | .bad a er => gBad w b a er e w'
  | .fuel => False
/-- what a part that reads a list does -/
def lPost {α : Type} (F : α → List D) (ty : TypeId) (sz : Nat) (w : World) (b g cap : Nat) (rv : Value) (T : List Lex.Tk) (d : Nat) (r : Gram.PR (List α)) (e : Ending) (w' : World) : Prop :=
  match r with
  | .ok l i => ∃ v, e = .returned v ∧ GrowD w' w.heap.size ty sz (l.map F) v ∧ Pa w' b g cap rv T i d ∧ w.grownBy w' (some b)
  | .bad a er => gBad w b a er e w'
  | .fuel => False

end Go.Proofs.YtachmiajldeakaaGreatDoor

/- gram's tests ahead of lists, and what lists of each type need (made by mklist.py). -/
namespace Go.Proofs.YtachmiajldeakaaGreatDoor
open Go.RowKit Go.Maps Go.WideMaps

theorem info_Trans : (Tryz.prog.info? 222).map (fun i => (i.zero, i.size, i.bytes)) = some (some (.agg #[.int .i64 0, .int .i64 0, .string ⟨#[]⟩, .int .i64 0, .int .i64 0, .int .i64 0, .int .i64 0, .slice none 0 0, .int .i64 0, .string ⟨#[]⟩, .bool false, .int .i64 0]), 12, 128) := by kernel_rfl
theorem len_Trans {w : World} {base : Nat} {v : Value} {n : Nat} {xs : List Value} (h : w.ownsRow base 222 12 v n xs) (ty : TypeId) (wx : World) :
    (Builtin.len_ #[180] ty #[v]).run Tryz.prog wx = .ok (.int .i64 (n : Int)) wx := by
  rcases h.2 with ⟨rfl, rfl⟩ | ⟨g, cap, cur, rfl, _⟩
  · simp [Builtin.len_, run_underlying Tryz.underlying180, goInt, Result.andThen]
  · simp [Builtin.len_, run_underlying Tryz.underlying180, goInt, Result.andThen]

theorem info_State : (Tryz.prog.info? 182).map (fun i => (i.zero, i.size, i.bytes)) = some (some (.agg #[.string ⟨#[]⟩, .slice none 0 0, .slice none 0 0, .slice none 0 0, .slice none 0 0, .int .i64 0]), 6, 120) := by kernel_rfl
theorem len_State {w : World} {base : Nat} {v : Value} {n : Nat} {xs : List Value} (h : w.ownsRow base 182 6 v n xs) (ty : TypeId) (wx : World) :
    (Builtin.len_ #[39] ty #[v]).run Tryz.prog wx = .ok (.int .i64 (n : Int)) wx := by
  rcases h.2 with ⟨rfl, rfl⟩ | ⟨g, cap, cur, rfl, _⟩
  · simp [Builtin.len_, run_underlying Tryz.underlying39, goInt, Result.andThen]
  · simp [Builtin.len_, run_underlying Tryz.underlying39, goInt, Result.andThen]

theorem info_Item : (Tryz.prog.info? 41).map (fun i => (i.zero, i.size, i.bytes)) = some (some (.agg #[.slice none 0 0, .int .i64 0, .int .i64 0, .string ⟨#[]⟩, .int .i64 0, .int .i64 0, .int .i64 0, .int .i64 0, .slice none 0 0, .int .i64 0, .slice none 0 0, .int .i64 0]), 12, 152) := by kernel_rfl
theorem len_Item {w : World} {base : Nat} {v : Value} {n : Nat} {xs : List Value} (h : w.ownsRow base 41 12 v n xs) (ty : TypeId) (wx : World) :
    (Builtin.len_ #[43] ty #[v]).run Tryz.prog wx = .ok (.int .i64 (n : Int)) wx := by
  rcases h.2 with ⟨rfl, rfl⟩ | ⟨g, cap, cur, rfl, _⟩
  · simp [Builtin.len_, run_underlying Tryz.underlying43, goInt, Result.andThen]
  · simp [Builtin.len_, run_underlying Tryz.underlying43, goInt, Result.andThen]

theorem info_Node : (Tryz.prog.info? 45).map (fun i => (i.zero, i.size, i.bytes)) = some (some (.agg #[.string ⟨#[]⟩, .slice none 0 0, .slice none 0 0, .slice none 0 0, .slice none 0 0, .int .i64 0]), 6, 120) := by kernel_rfl
theorem len_Node {w : World} {base : Nat} {v : Value} {n : Nat} {xs : List Value} (h : w.ownsRow base 45 6 v n xs) (ty : TypeId) (wx : World) :
    (Builtin.len_ #[30] ty #[v]).run Tryz.prog wx = .ok (.int .i64 (n : Int)) wx := by
  rcases h.2 with ⟨rfl, rfl⟩ | ⟨g, cap, cur, rfl, _⟩
  · simp [Builtin.len_, run_underlying Tryz.underlying30, goInt, Result.andThen]
  · simp [Builtin.len_, run_underlying Tryz.underlying30, goInt, Result.andThen]

theorem info_Edge : (Tryz.prog.info? 150).map (fun i => (i.zero, i.size, i.bytes)) = some (some (.agg #[.string ⟨#[]⟩, .bool false]), 2, 24) := by kernel_rfl
theorem len_Edge {w : World} {base : Nat} {v : Value} {n : Nat} {xs : List Value} (h : w.ownsRow base 150 2 v n xs) (ty : TypeId) (wx : World) :
    (Builtin.len_ #[137] ty #[v]).run Tryz.prog wx = .ok (.int .i64 (n : Int)) wx := by
  rcases h.2 with ⟨rfl, rfl⟩ | ⟨g, cap, cur, rfl, _⟩
  · simp [Builtin.len_, run_underlying Tryz.underlying137, goInt, Result.andThen]
  · simp [Builtin.len_, run_underlying Tryz.underlying137, goInt, Result.andThen]

theorem info_string : (Tryz.prog.info? 9).map (fun i => (i.zero, i.size, i.bytes)) = some (some (.string ⟨#[]⟩), 1, 16) := by kernel_rfl
theorem len_string {w : World} {base : Nat} {v : Value} {n : Nat} {xs : List Value} (h : w.ownsRow base 9 1 v n xs) (ty : TypeId) (wx : World) :
    (Builtin.len_ #[38] ty #[v]).run Tryz.prog wx = .ok (.int .i64 (n : Int)) wx := by
  rcases h.2 with ⟨rfl, rfl⟩ | ⟨g, cap, cur, rfl, _⟩
  · simp [Builtin.len_, run_underlying Tryz.underlying38, goInt, Result.andThen]
  · simp [Builtin.len_, run_underlying Tryz.underlying38, goInt, Result.andThen]

theorem info_Var : (Tryz.prog.info? 139).map (fun i => (i.zero, i.size, i.bytes)) = some (some (.agg #[.string ⟨#[]⟩, .int .i64 0, .int .i64 0, .slice none 0 0, .int .i64 0]), 5, 64) := by kernel_rfl
theorem len_Var {w : World} {base : Nat} {v : Value} {n : Nat} {xs : List Value} (h : w.ownsRow base 139 5 v n xs) (ty : TypeId) (wx : World) :
    (Builtin.len_ #[42] ty #[v]).run Tryz.prog wx = .ok (.int .i64 (n : Int)) wx := by
  rcases h.2 with ⟨rfl, rfl⟩ | ⟨g, cap, cur, rfl, _⟩
  · simp [Builtin.len_, run_underlying Tryz.underlying42, goInt, Result.andThen]
  · simp [Builtin.len_, run_underlying Tryz.underlying42, goInt, Result.andThen]

section
variable (b g cap : Nat) (rv : Value) (T : List Lex.Tk) (i d : Nat)

set_option maxHeartbeats 800000 in
set_option maxRecDepth 20000 in
theorem gseesUnless_any (w : World) (h : Pa w b g cap rv T i d) :
    Calls Tryz.prog 205 #[.pointer (some ⟨b, 0, none⟩)] w fun e w' => e = .returned (.bool (Gram.sees T i [117, 110, 108, 101, 115, 115])) ∧ w.grownBy w' none := by
  have hs := gsees_any b g cap rv T i d ⟨#[117, 110, 108, 101, 115, 115]⟩ w h
  clear h
  go_enter Tryz.func205, Tryz.ntmps205
  go_wp2_with (go_at_call 76; refine hs.mono ?_; rintro e w1 ⟨rfl, hg1⟩)
  go_ret
  exact ⟨rfl, hg1⟩

set_option maxHeartbeats 800000 in
set_option maxRecDepth 20000 in
theorem gseesUntil_any (w : World) (h : Pa w b g cap rv T i d) :
    Calls Tryz.prog 207 #[.pointer (some ⟨b, 0, none⟩)] w fun e w' => e = .returned (.bool (Gram.sees T i [117, 110, 116, 105, 108])) ∧ w.grownBy w' none := by
  have hs := gsees_any b g cap rv T i d ⟨#[117, 110, 116, 105, 108]⟩ w h
  clear h
  go_enter Tryz.func207, Tryz.ntmps207
  go_wp2_with (go_at_call 76; refine hs.mono ?_; rintro e w1 ⟨rfl, hg1⟩)
  go_ret
  exact ⟨rfl, hg1⟩

set_option maxHeartbeats 800000 in
set_option maxRecDepth 20000 in
theorem gseesState_any (w : World) (h : Pa w b g cap rv T i d) :
    Calls Tryz.prog 185 #[.pointer (some ⟨b, 0, none⟩)] w fun e w' => e = .returned (.bool (Gram.sees T i [115, 116, 97, 116, 101])) ∧ w.grownBy w' none := by
  have hs := gsees_any b g cap rv T i d ⟨#[115, 116, 97, 116, 101]⟩ w h
  clear h
  go_enter Tryz.func185, Tryz.ntmps185
  go_wp2_with (go_at_call 76; refine hs.mono ?_; rintro e w1 ⟨rfl, hg1⟩)
  go_ret
  exact ⟨rfl, hg1⟩

set_option maxHeartbeats 800000 in
set_option maxRecDepth 20000 in
theorem gseesNode_any (w : World) (h : Pa w b g cap rv T i d) :
    Calls Tryz.prog 34 #[.pointer (some ⟨b, 0, none⟩)] w fun e w' => e = .returned (.bool (Gram.sees T i [110, 111, 100, 101])) ∧ w.grownBy w' none := by
  have hs := gsees_any b g cap rv T i d ⟨#[110, 111, 100, 101]⟩ w h
  clear h
  go_enter Tryz.func34, Tryz.ntmps34
  go_wp2_with (go_at_call 76; refine hs.mono ?_; rintro e w1 ⟨rfl, hg1⟩)
  go_ret
  exact ⟨rfl, hg1⟩

set_option maxHeartbeats 800000 in
set_option maxRecDepth 20000 in
theorem gseesItem_any (w : World) (h : Pa w b g cap rv T i d) :
    Calls Tryz.prog 126 #[.pointer (some ⟨b, 0, none⟩)] w fun e w' => e = .returned (.bool (Gram.seesItem T i)) ∧ w.grownBy w' none := by
  have hN := gname_sees b g cap rv T i d w h
  have hA := fun wx (hx : w.grownBy wx none) => gsees_any b g cap rv T i d ⟨#[40]⟩ wx (h.kept hx)
  have hB := fun wx (hx : w.grownBy wx none) => gsees_any b g cap rv T i d ⟨#[97, 117, 116, 111, 109, 97, 116, 111, 110]⟩ wx (h.kept hx)
  clear h
  unfold Gram.seesItem
  generalize Gram.isName T i = bn at hN
  generalize hx : Gram.sees T i [40] = bx
  generalize hy : Gram.sees T i [97, 117, 116, 111, 109, 97, 116, 111, 110] = bz
  simp only [hx] at hA
  simp only [hy] at hB
  clear hx hy
  cases bn
  · cases bx
    · go_enter Tryz.func126, Tryz.ntmps126
      go_wp2_with (first | (go_at_call 121; refine hN.mono ?_; rintro e w1 ⟨rfl, hg1⟩) | (go_at_call 76; first | (refine (hA _ hg1).mono ?_; rintro e w2 ⟨rfl, hg2⟩) | (refine (hB _ (hg1.trans hg2)).mono ?_; rintro e w3 ⟨rfl, hg3⟩)))
      go_ret
      exact ⟨rfl, (hg1.trans hg2).trans hg3⟩
    · go_enter Tryz.func126, Tryz.ntmps126
      go_wp2_with (first | (go_at_call 121; refine hN.mono ?_; rintro e w1 ⟨rfl, hg1⟩) | (go_at_call 76; refine (hA _ hg1).mono ?_; rintro e w2 ⟨rfl, hg2⟩))
      go_ret
      exact ⟨rfl, hg1.trans hg2⟩
  · go_enter Tryz.func126, Tryz.ntmps126
    go_wp2_with (first | (go_at_call 121; refine hN.mono ?_; rintro e w1 ⟨rfl, hg1⟩))
    go_ret
    exact ⟨rfl, hg1⟩
end

end Go.Proofs.YtachmiajldeakaaGreatDoor

/- gram's lists of edges and names with words or commas between (made by mklist.py). -/
namespace Go.Proofs.YtachmiajldeakaaGreatDoor
open Go.RowKit Go.Maps Go.WideMaps

/-- what a part that reads a name does -/
def nmPost (w : World) (b g cap : Nat) (rv : Value) (T : List Lex.Tk) (d : Nat) (r : Gram.PR Gram.B) (e : Ending) (w' : World) : Prop :=
  match r with
  | .ok x i => e = .returned (.string ⟨x.toArray⟩) ∧ Pa w' b g cap rv T i d ∧ w.grownBy w' (some b)
  | .bad a er => gBad w b a er e w'
  | .fuel => False
theorem gname_any (b g cap : Nat) (rv : Value) (T : List Lex.Tk) (i d : Nat) (w : World) (h : Pa w b g cap rv T i d) :
    Calls Tryz.prog 78 #[.pointer (some ⟨b, 0, none⟩)] w fun e w' => nmPost w b g cap rv T d (Gram.name T i) e w' := by
  unfold Gram.name Gram.need
  rcases Bool.eq_false_or_eq_true (Gram.isName T i) with hs | hs
  · rw [if_pos hs]; exact gname_yes b g cap rv T i d w h hs
  · rw [if_neg (by rw [hs]; decide)]; exact gname_no b g cap rv T i d w h hs

section
variable (b g cap : Nat) (rv : Value) (T : List Lex.Tk) (d : Nat)

set_option maxHeartbeats 3200000 in
set_option maxRecDepth 20000 in
theorem gparted_edges (f : Nat)  (i : Nat) (w : World) (h : Pa w b g cap rv T i d) (hf : (Gram.edges T f [] i).isFuel = false) :
    Calls Tryz.prog 148 #[.pointer (some ⟨b, 0, none⟩), .string ⟨#[97, 110, 100]⟩, .func (.func 149) #[.pointer (some ⟨b, 0, none⟩)] #[], .func (.func 150) #[.pointer (some ⟨b, 0, none⟩)] #[]] w fun e w' => lPost edgeD 150 2 w b g cap rv T d (Gram.edges T f [] i) e w' := by
  obtain ⟨it, hit, hz, hsz, hby⟩ := infoP info_Edge
  have hbw := h.bl
  have HH := Lib.hid h
  clear h
  go_enter Tryz.func148, Tryz.ntmps148
  go_wp2
  go_loopg [9, 10] f (fun (f' : Nat) (s9 : Value) (s10 : Value) (wr : World) => ∃ (acc : List _) (j : Nat), f' ≤ f ∧ Hid (GrowD wr w.heap.size 150 2 (acc.map edgeD) s9 ∧ Pa wr b g cap rv T j d ∧ w.grownBy wr (some b) ∧ ((s10 = .bool true ∧ Gram.edges T f' acc j = Gram.edges T f [] i) ∨ (s10 = .bool false ∧ Gram.edges T f [] i = .ok acc j))))
  case atStart => exact ⟨[], i, Nat.le_refl _, Lib.hid ⟨GrowD.nil _ _ _ _, HH.out, World.grownBy.refl _ _, .inl ⟨rfl, rfl⟩⟩⟩
  case round =>
    obtain ⟨acc, j, hff, HG⟩ := hrel
    obtain ⟨hA, hP, hg, hL⟩ := HG.out
    clear HG
    rcases hL with ⟨rfl, hL⟩ | ⟨rfl, hL⟩
    case inr =>
      have HR := Lib.hid hL
      clear hL hf
      go_wp2
      go_ret
      rw [HR.out]
      exact ⟨_, rfl, hA, hP, hg⟩
    rcases Nat.eq_zero_or_pos gk with hz0 | hz0
    · rw [hz0] at hL; rw [← hL] at hf; exact absurd hf (by simp [Gram.edges, Gram.PR.isFuel])
    obtain ⟨f', hfe⟩ : ∃ f', gk = f' + 1 := ⟨gk - 1, by omega⟩
    subst hfe
    have hr : Gram.edges T f [] i = Gram.need T j ((Gram.isName T j || Gram.sees T j [110, 111, 116])) (Gram.room T j acc.length 16 ((Gram.edge T j).bind fun x k => if Gram.sees T k [97, 110, 100] then Gram.edges T f' (acc ++ [x]) (k + 1) else .ok (acc ++ [x]) k)) := by rw [← hL]; conv => lhs; unfold Gram.edges
    rw [hr] at hf
    have HR := Lib.hid hr
    clear hr hL
    have hD := gedge_sees b g cap rv T j d wr hP
    have hy := fun wx => gneed_yes b wx
    obtain ⟨xs, hown, hrow⟩ := hA
    rw [List.length_map] at hown
    have hlf := fun ty wx => len_Edge hown ty wx
    have HA := Lib.hid (show GrowD wr w.heap.size 150 2 (acc.map edgeD) u9 from ⟨xs, by rw [List.length_map]; exact hown, hrow⟩)
    clear hown hrow
    unfold Gram.need at hf
    rcases Bool.eq_false_or_eq_true ((Gram.isName T j || Gram.sees T j [110, 111, 116])) with hs | hs
    case inr =>
      rw [hs] at hD
      have hno := fun wx (hx : wr.grownBy wx none) => gneed_no b g cap rv T j d wx (hP.kept hx)
      go_wp2_with (first | (go_at_call 149; refine hD.mono ?_; rintro e w1 ⟨rfl, hg1⟩) | (go_at_call 36; refine (hno _ hg1).mono ?_; rintro e w2 ⟨rfl, hg2⟩))
      refine ⟨rfl, ?_⟩
      rw [HR.out]
      unfold Gram.need Gram.fail
      rw [if_neg (by rw [hs]; decide)]
      exact ⟨rfl, (hg.trans (grown_some hg1 b)).trans hg2⟩
    rw [hs] at hD
    rw [if_pos hs] at hf
    unfold Gram.room at hf
    by_cases hm : 16 ≤ acc.length
    · have hrm := fun wx (hx : wr.grownBy wx none) => groom_no b g cap rv T j d (acc.length : Int) 16 (by omega) wx (hP.kept hx)
      go_wp2_with (first | (go_at_call 149; refine hD.mono ?_; rintro e w1 ⟨rfl, hg1⟩) | (go_at_call 36; refine (hy _).mono ?_; rintro e w9 ⟨rfl, hw9⟩; rw [hw9]; clear hw9) | (go_at_call 75; refine (hrm _ hg1).mono ?_; rintro e w2 ⟨rfl, hg2⟩))
      refine ⟨rfl, ?_⟩
      rw [HR.out]
      unfold Gram.need Gram.room Gram.fail
      rw [if_pos hs, if_pos hm]
      exact ⟨rfl, (hg.trans (grown_some hg1 b)).trans hg2⟩
    rw [if_neg hm] at hf
    have hrm := fun wx => groom_yes b (acc.length : Int) 16 (by omega) wx
    have HM := Lib.hid hm
    clear hm
    have HR1 : Hid (Gram.edges T f [] i = (Gram.edge T j).bind fun x k => if Gram.sees T k [97, 110, 100] then Gram.edges T f' (acc ++ [x]) (k + 1) else .ok (acc ++ [x]) k) := by show _ = _; rw [HR.out]; unfold Gram.need Gram.room; rw [if_pos hs, if_neg HM.out]
    clear HR
    have hEf : (Gram.edge T j).isFuel = false := Gram.PR.bind_fuel hf
    have hc := fun wx (hx : Pa wx b g cap rv T j d) => gedge_any b g cap rv T j d wx hx
    cases hex : Gram.edge T j with
    | fuel => rw [hex] at hEf; cases hEf
    | bad a er =>
      simp only [hex, edPost] at hc
      go_wp2_with (first | (go_at_call 149; refine hD.mono ?_; rintro e w1 ⟨rfl, hg1⟩) | (go_at_call 36; refine (hy _).mono ?_; rintro e w9 ⟨rfl, hw9⟩; rw [hw9]; clear hw9) | (go_at_call 75; refine (hrm _).mono ?_; rintro e w8 ⟨rfl, hw8⟩; rw [hw8]; clear hw8) | (go_at_call 150; refine (hc _ (hP.kept hg1)).mono ?_; rintro e w2 ⟨rfl, hg2⟩))
      refine ⟨rfl, ?_⟩
      rw [HR1.out, hex]
      exact ⟨rfl, (hg.trans (grown_some hg1 b)).trans hg2⟩
    | ok x k =>
    obtain ⟨nm, on⟩ := x
    have hc2 : ∀ wx, Pa wx b g cap rv T j d → Calls Tryz.prog 150 #[.pointer (some ⟨b, 0, none⟩)] wx fun e w' => e = .returned (.agg #[.string ⟨nm.toArray⟩, .bool on]) ∧ RepRow w' wx.heap.size [] (edgeD ⟨nm, on⟩) [.string ⟨nm.toArray⟩, .bool on] ∧ Pa w' b g cap rv T k d ∧ wx.grownBy w' (some b) := by
      intro wx hx
      have h9 := hc wx hx
      simp only [hex, edPost] at h9
      refine h9.mono ?_
      rintro e w' ⟨rfl, hP9, hg9⟩
      exact ⟨rfl, .cons (.c _) (.cons (.c _) .nil), hP9, hg9⟩
    clear hc
    have HE : Hid (Gram.edges T f [] i = if Gram.sees T k [97, 110, 100] then Gram.edges T f' (acc ++ [⟨nm, on⟩]) (k + 1) else .ok (acc ++ [⟨nm, on⟩]) k) := by show _ = _; rw [HR1.out, hex]; rfl
    clear HR1 hex hf hEf
    go_wp2_with (first | (go_at_call 149; refine hD.mono ?_; rintro e w1 ⟨rfl, hg1⟩) | (go_at_call 36; refine (hy _).mono ?_; rintro e w9 ⟨rfl, hw9⟩; rw [hw9]; clear hw9) | (go_at_call 75; refine (hrm _).mono ?_; rintro e w8 ⟨rfl, hw8⟩; rw [hw8]; clear hw8) | (go_at_call 150; refine (hc2 _ (hP.kept hg1)).mono ?_; rintro e w2 ⟨rfl, hk2, hP2, hg2⟩; refine Hid.out ?_))
    have hgA : wr.grownBy w2 (some b) := (grown_some hg1 b).trans hg2
    obtain ⟨xs2, ho2, hr2⟩ := GrowD.keptB HA.out hgA hbw
    rw [List.length_map] at ho2
    have hl16 := HM.out
    have hszw := hg.size
    have hszA := hgA.size
    have hsz1 := hg1.size
    refine Lib.hid ?_
    go_wp2_with (at_builtin; refine wpList_append_own_at _ rfl _ _ 137 rfl w.heap.size 150 it _ 2 24 Tryz.underlying137 hit hz hsz hby rfl (by decide) _ acc.length xs2 rfl (ho2.alloc _) ⟨w2.heap.size, 0, none⟩ 1 1 [.string ⟨nm.toArray⟩, .bool on] rfl rfl (cell_row_new w2 [.string ⟨nm.toArray⟩, .bool on] 150) (by simp [Value.oneCell']) ?_ ?_ ?_ ?_)
    · unfold maxLen; omega
    · omega
    · simp only [World.size_alloc]; omega
    intro v' w3 hown' hgrow3 _ hvb
    have hG3 : GrowD w3 w.heap.size 150 2 (acc.map edgeD ++ [edgeD ⟨nm, on⟩]) v' := growD_snoc hgrow3 (by rw [List.length_map]; exact hown') (RepRow.keptX (World.grownBy_alloc w2 _ none) (fun k e => by cases e) hr2) (RepRow.keptX (World.grownBy_alloc w2 _ none) (fun k e => by cases e) (RepRow.mono (by omega) (RepRow.toX u9.ownBlock.toList (fun k e => .inr (by have := HA.out.lt k e; omega)) hk2))) (by rw [World.size_alloc]; exact hvb)
    have hg3 : w.grownBy w3 (some b) := (galloc (hg.trans hgA) _).andThen hgrow3 (fun j e => .inl (ho2.lt j e).1)
    have hP3 : Pa w3 b g cap rv T k d := HH.out.to hg3 ((hP2.st.kept (World.grownBy_alloc w2 _ none) (by simp)).kept hgrow3 (by intro e; have := ho2.lt b (by first | exact e | exact e.symm); omega)) hP2.lt
    have HG3 := Lib.hid hG3
    clear hG3 hown' hvb
    rcases Bool.eq_false_or_eq_true (Gram.sees T k [97, 110, 100]) with hsx | hsx
    · have hi3 := hP3.nextSees hsx (by decide)
      have hAc := gaccept_yes b g cap rv T k d ⟨#[97, 110, 100]⟩ w3 hP3 hsx hi3
      go_wp2_with (go_at_call 123; refine hAc.mono ?_; rintro e w4 ⟨rfl, hP4, hg4⟩)
      go_roundg f'
      case measure => exact Nat.lt_succ_self _
      case rel => exact ⟨acc ++ [⟨nm, on⟩], k + 1, by omega, Lib.hid ⟨by rw [List.map_append]; exact HG3.out.keptB hg4 hbw, hP4, hg3.trans hg4, .inl ⟨rfl, by rw [HE.out, if_pos hsx]⟩⟩⟩
    · have hAc := gaccept_no b g cap rv T k d ⟨#[97, 110, 100]⟩ w3 hP3 hsx
      go_wp2_with (go_at_call 123; refine hAc.mono ?_; rintro e w4 ⟨rfl, hg4⟩)
      go_roundg f'
      case measure => exact Nat.lt_succ_self _
      case rel => exact ⟨acc ++ [⟨nm, on⟩], k, by omega, Lib.hid ⟨by rw [List.map_append]; exact HG3.out.kept0 hg4, hP3.kept hg4, hg3.trans (grown_some hg4 b), .inr ⟨rfl, by rw [HE.out, if_neg (by rw [hsx]; decide)]⟩⟩⟩

set_option maxHeartbeats 3200000 in
set_option maxRecDepth 20000 in
theorem gparted_names (f : Nat)  (i : Nat) (w : World) (h : Pa w b g cap rv T i d) (hf : (Gram.lhs T f [] i).isFuel = false) :
    Calls Tryz.prog 187 #[.pointer (some ⟨b, 0, none⟩), .string ⟨#[44]⟩, .func (.func 121) #[.pointer (some ⟨b, 0, none⟩)] #[], .func (.func 78) #[.pointer (some ⟨b, 0, none⟩)] #[]] w fun e w' => lPost nameD 9 1 w b g cap rv T d (Gram.lhs T f [] i) e w' := by
  obtain ⟨it, hit, hz, hsz, hby⟩ := infoP info_string
  have hbw := h.bl
  have HH := Lib.hid h
  clear h
  go_enter Tryz.func187, Tryz.ntmps187
  go_wp2
  go_loopg [9, 10] f (fun (f' : Nat) (s9 : Value) (s10 : Value) (wr : World) => ∃ (acc : List _) (j : Nat), f' ≤ f ∧ Hid (GrowD wr w.heap.size 9 1 (acc.map nameD) s9 ∧ Pa wr b g cap rv T j d ∧ w.grownBy wr (some b) ∧ ((s10 = .bool true ∧ Gram.lhs T f' acc j = Gram.lhs T f [] i) ∨ (s10 = .bool false ∧ Gram.lhs T f [] i = .ok acc j))))
  case atStart => exact ⟨[], i, Nat.le_refl _, Lib.hid ⟨GrowD.nil _ _ _ _, HH.out, World.grownBy.refl _ _, .inl ⟨rfl, rfl⟩⟩⟩
  case round =>
    obtain ⟨acc, j, hff, HG⟩ := hrel
    obtain ⟨hA, hP, hg, hL⟩ := HG.out
    clear HG
    rcases hL with ⟨rfl, hL⟩ | ⟨rfl, hL⟩
    case inr =>
      have HR := Lib.hid hL
      clear hL hf
      go_wp2
      go_ret
      rw [HR.out]
      exact ⟨_, rfl, hA, hP, hg⟩
    rcases Nat.eq_zero_or_pos gk with hz0 | hz0
    · rw [hz0] at hL; rw [← hL] at hf; exact absurd hf (by simp [Gram.lhs, Gram.PR.isFuel])
    obtain ⟨f', hfe⟩ : ∃ f', gk = f' + 1 := ⟨gk - 1, by omega⟩
    subst hfe
    have hr : Gram.lhs T f [] i = Gram.need T j (Gram.isName T j) (Gram.room T j acc.length 16 ((Gram.name T j).bind fun x k => if Gram.sees T k [44] then Gram.lhs T f' (acc ++ [x]) (k + 1) else .ok (acc ++ [x]) k)) := by rw [← hL]; conv => lhs; unfold Gram.lhs
    rw [hr] at hf
    have HR := Lib.hid hr
    clear hr hL
    have hD := gname_sees b g cap rv T j d wr hP
    have hy := fun wx => gneed_yes b wx
    obtain ⟨xs, hown, hrow⟩ := hA
    rw [List.length_map] at hown
    have hlf := fun ty wx => len_string hown ty wx
    have HA := Lib.hid (show GrowD wr w.heap.size 9 1 (acc.map nameD) u9 from ⟨xs, by rw [List.length_map]; exact hown, hrow⟩)
    clear hown hrow
    unfold Gram.need at hf
    rcases Bool.eq_false_or_eq_true (Gram.isName T j) with hs | hs
    case inr =>
      rw [hs] at hD
      have hno := fun wx (hx : wr.grownBy wx none) => gneed_no b g cap rv T j d wx (hP.kept hx)
      go_wp2_with (first | (go_at_call 121; refine hD.mono ?_; rintro e w1 ⟨rfl, hg1⟩) | (go_at_call 36; refine (hno _ hg1).mono ?_; rintro e w2 ⟨rfl, hg2⟩))
      refine ⟨rfl, ?_⟩
      rw [HR.out]
      unfold Gram.need Gram.fail
      rw [if_neg (by rw [hs]; decide)]
      exact ⟨rfl, (hg.trans (grown_some hg1 b)).trans hg2⟩
    rw [hs] at hD
    rw [if_pos hs] at hf
    unfold Gram.room at hf
    by_cases hm : 16 ≤ acc.length
    · have hrm := fun wx (hx : wr.grownBy wx none) => groom_no b g cap rv T j d (acc.length : Int) 16 (by omega) wx (hP.kept hx)
      go_wp2_with (first | (go_at_call 121; refine hD.mono ?_; rintro e w1 ⟨rfl, hg1⟩) | (go_at_call 36; refine (hy _).mono ?_; rintro e w9 ⟨rfl, hw9⟩; rw [hw9]; clear hw9) | (go_at_call 75; refine (hrm _ hg1).mono ?_; rintro e w2 ⟨rfl, hg2⟩))
      refine ⟨rfl, ?_⟩
      rw [HR.out]
      unfold Gram.need Gram.room Gram.fail
      rw [if_pos hs, if_pos hm]
      exact ⟨rfl, (hg.trans (grown_some hg1 b)).trans hg2⟩
    rw [if_neg hm] at hf
    have hrm := fun wx => groom_yes b (acc.length : Int) 16 (by omega) wx
    have HM := Lib.hid hm
    clear hm
    have HR1 : Hid (Gram.lhs T f [] i = (Gram.name T j).bind fun x k => if Gram.sees T k [44] then Gram.lhs T f' (acc ++ [x]) (k + 1) else .ok (acc ++ [x]) k) := by show _ = _; rw [HR.out]; unfold Gram.need Gram.room; rw [if_pos hs, if_neg HM.out]
    clear HR
    have hEf : (Gram.name T j).isFuel = false := Gram.PR.bind_fuel hf
    have hc := fun wx (hx : Pa wx b g cap rv T j d) => gname_any b g cap rv T j d wx hx
    cases hex : Gram.name T j with
    | fuel => rw [hex] at hEf; cases hEf
    | bad a er =>
      simp only [hex, nmPost] at hc
      go_wp2_with (first | (go_at_call 121; refine hD.mono ?_; rintro e w1 ⟨rfl, hg1⟩) | (go_at_call 36; refine (hy _).mono ?_; rintro e w9 ⟨rfl, hw9⟩; rw [hw9]; clear hw9) | (go_at_call 75; refine (hrm _).mono ?_; rintro e w8 ⟨rfl, hw8⟩; rw [hw8]; clear hw8) | (go_at_call 78; refine (hc _ (hP.kept hg1)).mono ?_; rintro e w2 ⟨rfl, hg2⟩))
      refine ⟨rfl, ?_⟩
      rw [HR1.out, hex]
      exact ⟨rfl, (hg.trans (grown_some hg1 b)).trans hg2⟩
    | ok x k =>
    have hc2 : ∀ wx, Pa wx b g cap rv T j d → Calls Tryz.prog 78 #[.pointer (some ⟨b, 0, none⟩)] wx fun e w' => e = .returned (.string ⟨x.toArray⟩) ∧ RepRow w' wx.heap.size [] (nameD x) [.string ⟨x.toArray⟩] ∧ Pa w' b g cap rv T k d ∧ wx.grownBy w' (some b) := by
      intro wx hx
      have h9 := hc wx hx
      simp only [hex, nmPost] at h9
      refine h9.mono ?_
      rintro e w' ⟨rfl, hP9, hg9⟩
      exact ⟨rfl, .cons (.c _) .nil, hP9, hg9⟩
    clear hc
    have HE : Hid (Gram.lhs T f [] i = if Gram.sees T k [44] then Gram.lhs T f' (acc ++ [x]) (k + 1) else .ok (acc ++ [x]) k) := by show _ = _; rw [HR1.out, hex]; rfl
    clear HR1 hex hf hEf
    go_wp2_with (first | (go_at_call 121; refine hD.mono ?_; rintro e w1 ⟨rfl, hg1⟩) | (go_at_call 36; refine (hy _).mono ?_; rintro e w9 ⟨rfl, hw9⟩; rw [hw9]; clear hw9) | (go_at_call 75; refine (hrm _).mono ?_; rintro e w8 ⟨rfl, hw8⟩; rw [hw8]; clear hw8) | (go_at_call 78; refine (hc2 _ (hP.kept hg1)).mono ?_; rintro e w2 ⟨rfl, hk2, hP2, hg2⟩; refine Hid.out ?_))
    have hgA : wr.grownBy w2 (some b) := (grown_some hg1 b).trans hg2
    obtain ⟨xs2, ho2, hr2⟩ := GrowD.keptB HA.out hgA hbw
    rw [List.length_map] at ho2
    have hl16 := HM.out
    have hszw := hg.size
    have hszA := hgA.size
    have hsz1 := hg1.size
    refine Lib.hid ?_
    go_wp2_with (at_builtin; refine wpList_append_own_at _ rfl _ _ 38 rfl w.heap.size 9 it _ 1 16 Tryz.underlying38 hit hz hsz hby rfl (by decide) _ acc.length xs2 rfl (ho2.alloc _) ⟨w2.heap.size, 0, none⟩ 1 1 [.string ⟨x.toArray⟩] rfl rfl (cell_row_new w2 [.string ⟨x.toArray⟩] 9) (by simp [Value.oneCell']) ?_ ?_ ?_ ?_)
    · unfold maxLen; omega
    · omega
    · simp only [World.size_alloc]; omega
    intro v' w3 hown' hgrow3 _ hvb
    have hG3 : GrowD w3 w.heap.size 9 1 (acc.map nameD ++ [nameD x]) v' := growD_snoc hgrow3 (by rw [List.length_map]; exact hown') (RepRow.keptX (World.grownBy_alloc w2 _ none) (fun k e => by cases e) hr2) (RepRow.keptX (World.grownBy_alloc w2 _ none) (fun k e => by cases e) (RepRow.mono (by omega) (RepRow.toX u9.ownBlock.toList (fun k e => .inr (by have := HA.out.lt k e; omega)) hk2))) (by rw [World.size_alloc]; exact hvb)
    have hg3 : w.grownBy w3 (some b) := (galloc (hg.trans hgA) _).andThen hgrow3 (fun j e => .inl (ho2.lt j e).1)
    have hP3 : Pa w3 b g cap rv T k d := HH.out.to hg3 ((hP2.st.kept (World.grownBy_alloc w2 _ none) (by simp)).kept hgrow3 (by intro e; have := ho2.lt b (by first | exact e | exact e.symm); omega)) hP2.lt
    have HG3 := Lib.hid hG3
    clear hG3 hown' hvb
    rcases Bool.eq_false_or_eq_true (Gram.sees T k [44]) with hsx | hsx
    · have hi3 := hP3.nextSees hsx (by decide)
      have hAc := gaccept_yes b g cap rv T k d ⟨#[44]⟩ w3 hP3 hsx hi3
      go_wp2_with (go_at_call 123; refine hAc.mono ?_; rintro e w4 ⟨rfl, hP4, hg4⟩)
      go_roundg f'
      case measure => exact Nat.lt_succ_self _
      case rel => exact ⟨acc ++ [x], k + 1, by omega, Lib.hid ⟨by rw [List.map_append]; exact HG3.out.keptB hg4 hbw, hP4, hg3.trans hg4, .inl ⟨rfl, by rw [HE.out, if_pos hsx]⟩⟩⟩
    · have hAc := gaccept_no b g cap rv T k d ⟨#[44]⟩ w3 hP3 hsx
      go_wp2_with (go_at_call 123; refine hAc.mono ?_; rintro e w4 ⟨rfl, hg4⟩)
      go_roundg f'
      case measure => exact Nat.lt_succ_self _
      case rel => exact ⟨acc ++ [x], k, by omega, Lib.hid ⟨by rw [List.map_append]; exact HG3.out.kept0 hg4, hP3.kept hg4, hg3.trans (grown_some hg4 b), .inr ⟨rfl, by rw [HE.out, if_neg (by rw [hsx]; decide)]⟩⟩⟩
end

end Go.Proofs.YtachmiajldeakaaGreatDoor

/- gram's lists of transitions and states (made by mklist.py). -/
namespace Go.Proofs.YtachmiajldeakaaGreatDoor
open Go.RowKit Go.Maps Go.WideMaps

section
variable (b g cap : Nat) (rv : Value) (T : List Lex.Tk) (d : Nat)

set_option maxHeartbeats 3200000 in
set_option maxRecDepth 20000 in
theorem gmany_unless (f : Nat) (hC : ∀ f', f' < f → ∀ (i : Nat) (w : World), Pa w b g cap rv T i d → (Gram.sees T i [117, 110, 108, 101, 115, 115]) = true → (Gram.trans T f' d i).isFuel = false → Calls Tryz.prog 206 #[.pointer (some ⟨b, 0, none⟩)] w fun e w' => rPost transD w b g cap rv T d (Gram.trans T f' d i) e w') (i : Nat) (w : World) (h : Pa w b g cap rv T i d) (hf : (Gram.transs T [117, 110, 108, 101, 115, 115] d f [] i).isFuel = false) :
    Calls Tryz.prog 204 #[.pointer (some ⟨b, 0, none⟩), .int .i64 16, .func (.func 205) #[.pointer (some ⟨b, 0, none⟩)] #[], .func (.func 206) #[.pointer (some ⟨b, 0, none⟩)] #[]] w fun e w' => lPost transD 222 12 w b g cap rv T d (Gram.transs T [117, 110, 108, 101, 115, 115] d f [] i) e w' := by
  obtain ⟨it, hit, hz, hsz, hby⟩ := infoP info_Trans
  have hbw := h.bl
  have HH := Lib.hid h
  clear h
  go_enter Tryz.func204, Tryz.ntmps204
  go_wp2
  go_loopg [9] f (fun (f' : Nat) (s9 : Value) (wr : World) => ∃ (acc : List _) (j : Nat), f' ≤ f ∧ Hid (GrowD wr w.heap.size 222 12 (acc.map transD) s9 ∧ Pa wr b g cap rv T j d ∧ w.grownBy wr (some b) ∧ Gram.transs T [117, 110, 108, 101, 115, 115] d f' acc j = Gram.transs T [117, 110, 108, 101, 115, 115] d f [] i))
  case atStart => exact ⟨[], i, Nat.le_refl _, Lib.hid ⟨GrowD.nil _ _ _ _, HH.out, World.grownBy.refl _ _, rfl⟩⟩
  case round =>
    obtain ⟨acc, j, hff, HG⟩ := hrel
    obtain ⟨hA, hP, hg, hL⟩ := HG.out
    clear HG
    rcases Nat.eq_zero_or_pos gk with hz0 | hz0
    · rw [hz0] at hL; rw [← hL] at hf; exact absurd hf (by simp [Gram.transs, Gram.PR.isFuel])
    obtain ⟨f', hfe⟩ : ∃ f', gk = f' + 1 := ⟨gk - 1, by omega⟩
    subst hfe
    have hr : Gram.transs T [117, 110, 108, 101, 115, 115] d f [] i = if Gram.sees T j [117, 110, 108, 101, 115, 115] then Gram.room T j acc.length 16 ((Gram.trans T f' d j).bind fun x k => Gram.transs T [117, 110, 108, 101, 115, 115] d f' (acc ++ [x]) k) else .ok acc j := by rw [← hL]; conv => lhs; unfold Gram.transs
    rw [hr] at hf
    have HR := Lib.hid hr
    clear hr hL
    have hD := gseesUnless_any b g cap rv T j d wr hP
    obtain ⟨xs, hown, hrow⟩ := hA
    rw [List.length_map] at hown
    have hlf := fun ty wx => len_Trans hown ty wx
    have HA := Lib.hid (show GrowD wr w.heap.size 222 12 (acc.map transD) u9 from ⟨xs, by rw [List.length_map]; exact hown, hrow⟩)
    clear hown hrow
    rcases Bool.eq_false_or_eq_true (Gram.sees T j [117, 110, 108, 101, 115, 115]) with hs | hs
    case inr =>
      rw [hs] at hD
      have HE : Hid (Gram.transs T [117, 110, 108, 101, 115, 115] d f [] i = .ok acc j) := by show _ = _; rw [HR.out, if_neg (by rw [hs]; decide)]
      clear HR hf
      go_wp2_with (first | (go_at_call 205; refine hD.mono ?_; rintro e w1 ⟨rfl, hg1⟩))
      go_ret
      rw [HE.out]
      exact ⟨_, rfl, HA.out.kept0 hg1, hP.kept hg1, hg.trans (grown_some hg1 b)⟩
    rw [hs] at hD
    rw [if_pos hs] at hf
    unfold Gram.room at hf
    by_cases hm : 16 ≤ acc.length
    · have hrm := fun wx (hx : wr.grownBy wx none) => groom_no b g cap rv T j d (acc.length : Int) 16 (by omega) wx (hP.kept hx)
      go_wp2_with (first | (go_at_call 205; refine hD.mono ?_; rintro e w1 ⟨rfl, hg1⟩) | (go_at_call 75; refine (hrm _ hg1).mono ?_; rintro e w2 ⟨rfl, hg2⟩))
      refine ⟨rfl, ?_⟩
      rw [HR.out, if_pos hs]
      unfold Gram.room Gram.fail
      rw [if_pos hm]
      exact ⟨rfl, (hg.trans (grown_some hg1 b)).trans hg2⟩
    rw [if_neg hm] at hf
    have hrm := fun wx => groom_yes b (acc.length : Int) 16 (by omega) wx
    have HM := Lib.hid hm
    clear hm
    have HR1 : Hid (Gram.transs T [117, 110, 108, 101, 115, 115] d f [] i = (Gram.trans T f' d j).bind fun x k => Gram.transs T [117, 110, 108, 101, 115, 115] d f' (acc ++ [x]) k) := by show _ = _; rw [HR.out, if_pos hs]; unfold Gram.room; rw [if_neg HM.out]
    clear HR
    have hEf : (Gram.trans T f' d j).isFuel = false := Gram.PR.bind_fuel hf
    have hc := fun wx (hx : Pa wx b g cap rv T j d) => hC f' (by omega) j wx hx hs hEf
    cases hex : Gram.trans T f' d j with
    | fuel => rw [hex] at hEf; cases hEf
    | bad a er =>
      simp only [hex, rPost] at hc
      go_wp2_with (first | (go_at_call 205; refine hD.mono ?_; rintro e w1 ⟨rfl, hg1⟩) | (go_at_call 75; refine (hrm _).mono ?_; rintro e w8 ⟨rfl, hw8⟩; rw [hw8]; clear hw8) | (go_at_call 206; refine (hc _ (hP.kept hg1)).mono ?_; rintro e w2 ⟨rfl, hg2⟩))
      refine ⟨rfl, ?_⟩
      rw [HR1.out, hex]
      exact ⟨rfl, (hg.trans (grown_some hg1 b)).trans hg2⟩
    | ok x k =>
    obtain ⟨cnd, to, ct, at_⟩ := x
    cases cnd with
    | mk f1 s1 nm1 tk1 tl1 n1 m1 ks1 a1 =>
    have hc2 : ∀ wx, Pa wx b g cap rv T j d → Calls Tryz.prog 206 #[.pointer (some ⟨b, 0, none⟩)] wx fun e w' => ∃ xa xn xc, e = .returned (.agg #[.int .i64 f1, .int .i64 s1, .string ⟨nm1.toArray⟩, .int .i64 tk1, .int .i64 tl1, .int .i64 n1, .int .i64 m1, .slice xa xn xc, .int .i64 a1, .string ⟨to.toArray⟩, .bool ct, .int .i64 at_]) ∧ RepRow w' wx.heap.size [] (transD ⟨(.mk f1 s1 nm1 tk1 tl1 n1 m1 ks1 a1), to, ct, at_⟩) [.int .i64 f1, .int .i64 s1, .string ⟨nm1.toArray⟩, .int .i64 tk1, .int .i64 tl1, .int .i64 n1, .int .i64 m1, .slice xa xn xc, .int .i64 a1, .string ⟨to.toArray⟩, .bool ct, .int .i64 at_] ∧ Pa w' b g cap rv T k d ∧ wx.grownBy w' (some b) := by
      intro wx hx
      have h9 := hc wx hx
      simp only [hex, rPost] at h9
      refine h9.mono ?_
      rintro e w' ⟨vs, rfl, hr, hP9, hg9⟩
      obtain ⟨xa, xn, xc, e9⟩ := transInv hr
      subst e9
      exact ⟨xa, xn, xc, rfl, hr, hP9, hg9⟩
    clear hc
    have HE : Hid (Gram.transs T [117, 110, 108, 101, 115, 115] d f [] i = Gram.transs T [117, 110, 108, 101, 115, 115] d f' (acc ++ [⟨(.mk f1 s1 nm1 tk1 tl1 n1 m1 ks1 a1), to, ct, at_⟩]) k) := by show _ = _; rw [HR1.out, hex]; rfl
    clear HR1 hex hf hEf
    go_wp2_with (first | (go_at_call 205; refine hD.mono ?_; rintro e w1 ⟨rfl, hg1⟩) | (go_at_call 75; refine (hrm _).mono ?_; rintro e w8 ⟨rfl, hw8⟩; rw [hw8]; clear hw8) | (go_at_call 206; refine (hc2 _ (hP.kept hg1)).mono ?_; rintro e w2 ⟨xa, xn, xc, rfl, hk2, hP2, hg2⟩; refine Hid.out ?_))
    have hgA : wr.grownBy w2 (some b) := (grown_some hg1 b).trans hg2
    obtain ⟨xs2, ho2, hr2⟩ := GrowD.keptB HA.out hgA hbw
    rw [List.length_map] at ho2
    have hl16 := HM.out
    have hszw := hg.size
    have hszA := hgA.size
    have hsz1 := hg1.size
    refine Lib.hid ?_
    go_wp2_with (at_builtin; refine wpList_append_own_at _ rfl _ _ 180 rfl w.heap.size 222 it _ 12 128 Tryz.underlying180 hit hz hsz hby rfl (by decide) _ acc.length xs2 rfl (ho2.alloc _) ⟨w2.heap.size, 0, none⟩ 1 1 [.int .i64 f1, .int .i64 s1, .string ⟨nm1.toArray⟩, .int .i64 tk1, .int .i64 tl1, .int .i64 n1, .int .i64 m1, .slice xa xn xc, .int .i64 a1, .string ⟨to.toArray⟩, .bool ct, .int .i64 at_] rfl rfl (cell_row_new w2 [.int .i64 f1, .int .i64 s1, .string ⟨nm1.toArray⟩, .int .i64 tk1, .int .i64 tl1, .int .i64 n1, .int .i64 m1, .slice xa xn xc, .int .i64 a1, .string ⟨to.toArray⟩, .bool ct, .int .i64 at_] 222) (by simp [Value.oneCell']) ?_ ?_ ?_ ?_)
    · unfold maxLen; omega
    · omega
    · simp only [World.size_alloc]; omega
    intro v' w3 hown' hgrow3 _ hvb
    have hG3 : GrowD w3 w.heap.size 222 12 (acc.map transD ++ [transD ⟨(.mk f1 s1 nm1 tk1 tl1 n1 m1 ks1 a1), to, ct, at_⟩]) v' := growD_snoc hgrow3 (by rw [List.length_map]; exact hown') (RepRow.keptX (World.grownBy_alloc w2 _ none) (fun k e => by cases e) hr2) (RepRow.keptX (World.grownBy_alloc w2 _ none) (fun k e => by cases e) (RepRow.mono (by omega) (RepRow.toX u9.ownBlock.toList (fun k e => .inr (by have := HA.out.lt k e; omega)) hk2))) (by rw [World.size_alloc]; exact hvb)
    have hg3 : w.grownBy w3 (some b) := (galloc (hg.trans hgA) _).andThen hgrow3 (fun j e => .inl (ho2.lt j e).1)
    have hP3 : Pa w3 b g cap rv T k d := HH.out.to hg3 ((hP2.st.kept (World.grownBy_alloc w2 _ none) (by simp)).kept hgrow3 (by intro e; have := ho2.lt b (by first | exact e | exact e.symm); omega)) hP2.lt
    have HG3 := Lib.hid hG3
    clear hG3 hown' hvb
    go_wp2
    go_roundg f'
    case measure => exact Nat.lt_succ_self _
    case rel => exact ⟨acc ++ [⟨(.mk f1 s1 nm1 tk1 tl1 n1 m1 ks1 a1), to, ct, at_⟩], k, by omega, Lib.hid ⟨by rw [List.map_append]; exact HG3.out, hP3, hg3, HE.out.symm⟩⟩

set_option maxHeartbeats 3200000 in
set_option maxRecDepth 20000 in
theorem gmany_until (f : Nat) (hC : ∀ f', f' < f → ∀ (i : Nat) (w : World), Pa w b g cap rv T i d → (Gram.sees T i [117, 110, 116, 105, 108]) = true → (Gram.trans T f' d i).isFuel = false → Calls Tryz.prog 206 #[.pointer (some ⟨b, 0, none⟩)] w fun e w' => rPost transD w b g cap rv T d (Gram.trans T f' d i) e w') (i : Nat) (w : World) (h : Pa w b g cap rv T i d) (hf : (Gram.transs T [117, 110, 116, 105, 108] d f [] i).isFuel = false) :
    Calls Tryz.prog 204 #[.pointer (some ⟨b, 0, none⟩), .int .i64 16, .func (.func 207) #[.pointer (some ⟨b, 0, none⟩)] #[], .func (.func 206) #[.pointer (some ⟨b, 0, none⟩)] #[]] w fun e w' => lPost transD 222 12 w b g cap rv T d (Gram.transs T [117, 110, 116, 105, 108] d f [] i) e w' := by
  obtain ⟨it, hit, hz, hsz, hby⟩ := infoP info_Trans
  have hbw := h.bl
  have HH := Lib.hid h
  clear h
  go_enter Tryz.func204, Tryz.ntmps204
  go_wp2
  go_loopg [9] f (fun (f' : Nat) (s9 : Value) (wr : World) => ∃ (acc : List _) (j : Nat), f' ≤ f ∧ Hid (GrowD wr w.heap.size 222 12 (acc.map transD) s9 ∧ Pa wr b g cap rv T j d ∧ w.grownBy wr (some b) ∧ Gram.transs T [117, 110, 116, 105, 108] d f' acc j = Gram.transs T [117, 110, 116, 105, 108] d f [] i))
  case atStart => exact ⟨[], i, Nat.le_refl _, Lib.hid ⟨GrowD.nil _ _ _ _, HH.out, World.grownBy.refl _ _, rfl⟩⟩
  case round =>
    obtain ⟨acc, j, hff, HG⟩ := hrel
    obtain ⟨hA, hP, hg, hL⟩ := HG.out
    clear HG
    rcases Nat.eq_zero_or_pos gk with hz0 | hz0
    · rw [hz0] at hL; rw [← hL] at hf; exact absurd hf (by simp [Gram.transs, Gram.PR.isFuel])
    obtain ⟨f', hfe⟩ : ∃ f', gk = f' + 1 := ⟨gk - 1, by omega⟩
    subst hfe
    have hr : Gram.transs T [117, 110, 116, 105, 108] d f [] i = if Gram.sees T j [117, 110, 116, 105, 108] then Gram.room T j acc.length 16 ((Gram.trans T f' d j).bind fun x k => Gram.transs T [117, 110, 116, 105, 108] d f' (acc ++ [x]) k) else .ok acc j := by rw [← hL]; conv => lhs; unfold Gram.transs
    rw [hr] at hf
    have HR := Lib.hid hr
    clear hr hL
    have hD := gseesUntil_any b g cap rv T j d wr hP
    obtain ⟨xs, hown, hrow⟩ := hA
    rw [List.length_map] at hown
    have hlf := fun ty wx => len_Trans hown ty wx
    have HA := Lib.hid (show GrowD wr w.heap.size 222 12 (acc.map transD) u9 from ⟨xs, by rw [List.length_map]; exact hown, hrow⟩)
    clear hown hrow
    rcases Bool.eq_false_or_eq_true (Gram.sees T j [117, 110, 116, 105, 108]) with hs | hs
    case inr =>
      rw [hs] at hD
      have HE : Hid (Gram.transs T [117, 110, 116, 105, 108] d f [] i = .ok acc j) := by show _ = _; rw [HR.out, if_neg (by rw [hs]; decide)]
      clear HR hf
      go_wp2_with (first | (go_at_call 207; refine hD.mono ?_; rintro e w1 ⟨rfl, hg1⟩))
      go_ret
      rw [HE.out]
      exact ⟨_, rfl, HA.out.kept0 hg1, hP.kept hg1, hg.trans (grown_some hg1 b)⟩
    rw [hs] at hD
    rw [if_pos hs] at hf
    unfold Gram.room at hf
    by_cases hm : 16 ≤ acc.length
    · have hrm := fun wx (hx : wr.grownBy wx none) => groom_no b g cap rv T j d (acc.length : Int) 16 (by omega) wx (hP.kept hx)
      go_wp2_with (first | (go_at_call 207; refine hD.mono ?_; rintro e w1 ⟨rfl, hg1⟩) | (go_at_call 75; refine (hrm _ hg1).mono ?_; rintro e w2 ⟨rfl, hg2⟩))
      refine ⟨rfl, ?_⟩
      rw [HR.out, if_pos hs]
      unfold Gram.room Gram.fail
      rw [if_pos hm]
      exact ⟨rfl, (hg.trans (grown_some hg1 b)).trans hg2⟩
    rw [if_neg hm] at hf
    have hrm := fun wx => groom_yes b (acc.length : Int) 16 (by omega) wx
    have HM := Lib.hid hm
    clear hm
    have HR1 : Hid (Gram.transs T [117, 110, 116, 105, 108] d f [] i = (Gram.trans T f' d j).bind fun x k => Gram.transs T [117, 110, 116, 105, 108] d f' (acc ++ [x]) k) := by show _ = _; rw [HR.out, if_pos hs]; unfold Gram.room; rw [if_neg HM.out]
    clear HR
    have hEf : (Gram.trans T f' d j).isFuel = false := Gram.PR.bind_fuel hf
    have hc := fun wx (hx : Pa wx b g cap rv T j d) => hC f' (by omega) j wx hx hs hEf
    cases hex : Gram.trans T f' d j with
    | fuel => rw [hex] at hEf; cases hEf
    | bad a er =>
      simp only [hex, rPost] at hc
      go_wp2_with (first | (go_at_call 207; refine hD.mono ?_; rintro e w1 ⟨rfl, hg1⟩) | (go_at_call 75; refine (hrm _).mono ?_; rintro e w8 ⟨rfl, hw8⟩; rw [hw8]; clear hw8) | (go_at_call 206; refine (hc _ (hP.kept hg1)).mono ?_; rintro e w2 ⟨rfl, hg2⟩))
      refine ⟨rfl, ?_⟩
      rw [HR1.out, hex]
      exact ⟨rfl, (hg.trans (grown_some hg1 b)).trans hg2⟩
    | ok x k =>
    obtain ⟨cnd, to, ct, at_⟩ := x
    cases cnd with
    | mk f1 s1 nm1 tk1 tl1 n1 m1 ks1 a1 =>
    have hc2 : ∀ wx, Pa wx b g cap rv T j d → Calls Tryz.prog 206 #[.pointer (some ⟨b, 0, none⟩)] wx fun e w' => ∃ xa xn xc, e = .returned (.agg #[.int .i64 f1, .int .i64 s1, .string ⟨nm1.toArray⟩, .int .i64 tk1, .int .i64 tl1, .int .i64 n1, .int .i64 m1, .slice xa xn xc, .int .i64 a1, .string ⟨to.toArray⟩, .bool ct, .int .i64 at_]) ∧ RepRow w' wx.heap.size [] (transD ⟨(.mk f1 s1 nm1 tk1 tl1 n1 m1 ks1 a1), to, ct, at_⟩) [.int .i64 f1, .int .i64 s1, .string ⟨nm1.toArray⟩, .int .i64 tk1, .int .i64 tl1, .int .i64 n1, .int .i64 m1, .slice xa xn xc, .int .i64 a1, .string ⟨to.toArray⟩, .bool ct, .int .i64 at_] ∧ Pa w' b g cap rv T k d ∧ wx.grownBy w' (some b) := by
      intro wx hx
      have h9 := hc wx hx
      simp only [hex, rPost] at h9
      refine h9.mono ?_
      rintro e w' ⟨vs, rfl, hr, hP9, hg9⟩
      obtain ⟨xa, xn, xc, e9⟩ := transInv hr
      subst e9
      exact ⟨xa, xn, xc, rfl, hr, hP9, hg9⟩
    clear hc
    have HE : Hid (Gram.transs T [117, 110, 116, 105, 108] d f [] i = Gram.transs T [117, 110, 116, 105, 108] d f' (acc ++ [⟨(.mk f1 s1 nm1 tk1 tl1 n1 m1 ks1 a1), to, ct, at_⟩]) k) := by show _ = _; rw [HR1.out, hex]; rfl
    clear HR1 hex hf hEf
    go_wp2_with (first | (go_at_call 207; refine hD.mono ?_; rintro e w1 ⟨rfl, hg1⟩) | (go_at_call 75; refine (hrm _).mono ?_; rintro e w8 ⟨rfl, hw8⟩; rw [hw8]; clear hw8) | (go_at_call 206; refine (hc2 _ (hP.kept hg1)).mono ?_; rintro e w2 ⟨xa, xn, xc, rfl, hk2, hP2, hg2⟩; refine Hid.out ?_))
    have hgA : wr.grownBy w2 (some b) := (grown_some hg1 b).trans hg2
    obtain ⟨xs2, ho2, hr2⟩ := GrowD.keptB HA.out hgA hbw
    rw [List.length_map] at ho2
    have hl16 := HM.out
    have hszw := hg.size
    have hszA := hgA.size
    have hsz1 := hg1.size
    refine Lib.hid ?_
    go_wp2_with (at_builtin; refine wpList_append_own_at _ rfl _ _ 180 rfl w.heap.size 222 it _ 12 128 Tryz.underlying180 hit hz hsz hby rfl (by decide) _ acc.length xs2 rfl (ho2.alloc _) ⟨w2.heap.size, 0, none⟩ 1 1 [.int .i64 f1, .int .i64 s1, .string ⟨nm1.toArray⟩, .int .i64 tk1, .int .i64 tl1, .int .i64 n1, .int .i64 m1, .slice xa xn xc, .int .i64 a1, .string ⟨to.toArray⟩, .bool ct, .int .i64 at_] rfl rfl (cell_row_new w2 [.int .i64 f1, .int .i64 s1, .string ⟨nm1.toArray⟩, .int .i64 tk1, .int .i64 tl1, .int .i64 n1, .int .i64 m1, .slice xa xn xc, .int .i64 a1, .string ⟨to.toArray⟩, .bool ct, .int .i64 at_] 222) (by simp [Value.oneCell']) ?_ ?_ ?_ ?_)
    · unfold maxLen; omega
    · omega
    · simp only [World.size_alloc]; omega
    intro v' w3 hown' hgrow3 _ hvb
    have hG3 : GrowD w3 w.heap.size 222 12 (acc.map transD ++ [transD ⟨(.mk f1 s1 nm1 tk1 tl1 n1 m1 ks1 a1), to, ct, at_⟩]) v' := growD_snoc hgrow3 (by rw [List.length_map]; exact hown') (RepRow.keptX (World.grownBy_alloc w2 _ none) (fun k e => by cases e) hr2) (RepRow.keptX (World.grownBy_alloc w2 _ none) (fun k e => by cases e) (RepRow.mono (by omega) (RepRow.toX u9.ownBlock.toList (fun k e => .inr (by have := HA.out.lt k e; omega)) hk2))) (by rw [World.size_alloc]; exact hvb)
    have hg3 : w.grownBy w3 (some b) := (galloc (hg.trans hgA) _).andThen hgrow3 (fun j e => .inl (ho2.lt j e).1)
    have hP3 : Pa w3 b g cap rv T k d := HH.out.to hg3 ((hP2.st.kept (World.grownBy_alloc w2 _ none) (by simp)).kept hgrow3 (by intro e; have := ho2.lt b (by first | exact e | exact e.symm); omega)) hP2.lt
    have HG3 := Lib.hid hG3
    clear hG3 hown' hvb
    go_wp2
    go_roundg f'
    case measure => exact Nat.lt_succ_self _
    case rel => exact ⟨acc ++ [⟨(.mk f1 s1 nm1 tk1 tl1 n1 m1 ks1 a1), to, ct, at_⟩], k, by omega, Lib.hid ⟨by rw [List.map_append]; exact HG3.out, hP3, hg3, HE.out.symm⟩⟩

set_option maxHeartbeats 3200000 in
set_option maxRecDepth 20000 in
theorem gmany_states (f : Nat) (hC : ∀ f', f' < f → ∀ (i : Nat) (w : World), Pa w b g cap rv T i d → (Gram.sees T i [115, 116, 97, 116, 101]) = true → (Gram.state T f' d i).isFuel = false → Calls Tryz.prog 186 #[.pointer (some ⟨b, 0, none⟩)] w fun e w' => rPost stateD w b g cap rv T d (Gram.state T f' d i) e w') (i : Nat) (w : World) (h : Pa w b g cap rv T i d) (hf : (Gram.states T f d [] i).isFuel = false) :
    Calls Tryz.prog 203 #[.pointer (some ⟨b, 0, none⟩), .int .i64 16, .func (.func 185) #[.pointer (some ⟨b, 0, none⟩)] #[], .func (.func 186) #[.pointer (some ⟨b, 0, none⟩)] #[]] w fun e w' => lPost stateD 182 6 w b g cap rv T d (Gram.states T f d [] i) e w' := by
  obtain ⟨it, hit, hz, hsz, hby⟩ := infoP info_State
  have hbw := h.bl
  have HH := Lib.hid h
  clear h
  go_enter Tryz.func203, Tryz.ntmps203
  go_wp2
  go_loopg [9] f (fun (f' : Nat) (s9 : Value) (wr : World) => ∃ (acc : List _) (j : Nat), f' ≤ f ∧ Hid (GrowD wr w.heap.size 182 6 (acc.map stateD) s9 ∧ Pa wr b g cap rv T j d ∧ w.grownBy wr (some b) ∧ Gram.states T f' d acc j = Gram.states T f d [] i))
  case atStart => exact ⟨[], i, Nat.le_refl _, Lib.hid ⟨GrowD.nil _ _ _ _, HH.out, World.grownBy.refl _ _, rfl⟩⟩
  case round =>
    obtain ⟨acc, j, hff, HG⟩ := hrel
    obtain ⟨hA, hP, hg, hL⟩ := HG.out
    clear HG
    rcases Nat.eq_zero_or_pos gk with hz0 | hz0
    · rw [hz0] at hL; rw [← hL] at hf; exact absurd hf (by simp [Gram.states, Gram.PR.isFuel])
    obtain ⟨f', hfe⟩ : ∃ f', gk = f' + 1 := ⟨gk - 1, by omega⟩
    subst hfe
    have hr : Gram.states T f d [] i = if Gram.sees T j [115, 116, 97, 116, 101] then Gram.room T j acc.length 16 ((Gram.state T f' d j).bind fun x k => Gram.states T f' d (acc ++ [x]) k) else .ok acc j := by rw [← hL]; conv => lhs; unfold Gram.states
    rw [hr] at hf
    have HR := Lib.hid hr
    clear hr hL
    have hD := gseesState_any b g cap rv T j d wr hP
    obtain ⟨xs, hown, hrow⟩ := hA
    rw [List.length_map] at hown
    have hlf := fun ty wx => len_State hown ty wx
    have HA := Lib.hid (show GrowD wr w.heap.size 182 6 (acc.map stateD) u9 from ⟨xs, by rw [List.length_map]; exact hown, hrow⟩)
    clear hown hrow
    rcases Bool.eq_false_or_eq_true (Gram.sees T j [115, 116, 97, 116, 101]) with hs | hs
    case inr =>
      rw [hs] at hD
      have HE : Hid (Gram.states T f d [] i = .ok acc j) := by show _ = _; rw [HR.out, if_neg (by rw [hs]; decide)]
      clear HR hf
      go_wp2_with (first | (go_at_call 185; refine hD.mono ?_; rintro e w1 ⟨rfl, hg1⟩))
      go_ret
      rw [HE.out]
      exact ⟨_, rfl, HA.out.kept0 hg1, hP.kept hg1, hg.trans (grown_some hg1 b)⟩
    rw [hs] at hD
    rw [if_pos hs] at hf
    unfold Gram.room at hf
    by_cases hm : 16 ≤ acc.length
    · have hrm := fun wx (hx : wr.grownBy wx none) => groom_no b g cap rv T j d (acc.length : Int) 16 (by omega) wx (hP.kept hx)
      go_wp2_with (first | (go_at_call 185; refine hD.mono ?_; rintro e w1 ⟨rfl, hg1⟩) | (go_at_call 75; refine (hrm _ hg1).mono ?_; rintro e w2 ⟨rfl, hg2⟩))
      refine ⟨rfl, ?_⟩
      rw [HR.out, if_pos hs]
      unfold Gram.room Gram.fail
      rw [if_pos hm]
      exact ⟨rfl, (hg.trans (grown_some hg1 b)).trans hg2⟩
    rw [if_neg hm] at hf
    have hrm := fun wx => groom_yes b (acc.length : Int) 16 (by omega) wx
    have HM := Lib.hid hm
    clear hm
    have HR1 : Hid (Gram.states T f d [] i = (Gram.state T f' d j).bind fun x k => Gram.states T f' d (acc ++ [x]) k) := by show _ = _; rw [HR.out, if_pos hs]; unfold Gram.room; rw [if_neg HM.out]
    clear HR
    have hEf : (Gram.state T f' d j).isFuel = false := Gram.PR.bind_fuel hf
    have hc := fun wx (hx : Pa wx b g cap rv T j d) => hC f' (by omega) j wx hx hs hEf
    cases hex : Gram.state T f' d j with
    | fuel => rw [hex] at hEf; cases hEf
    | bad a er =>
      simp only [hex, rPost] at hc
      go_wp2_with (first | (go_at_call 185; refine hD.mono ?_; rintro e w1 ⟨rfl, hg1⟩) | (go_at_call 75; refine (hrm _).mono ?_; rintro e w8 ⟨rfl, hw8⟩; rw [hw8]; clear hw8) | (go_at_call 186; refine (hc _ (hP.kept hg1)).mono ?_; rintro e w2 ⟨rfl, hg2⟩))
      refine ⟨rfl, ?_⟩
      rw [HR1.out, hex]
      exact ⟨rfl, (hg.trans (grown_some hg1 b)).trans hg2⟩
    | ok x k =>
    cases x with
    | mk nm us ut ls its at_ =>
    have hc2 : ∀ wx, Pa wx b g cap rv T j d → Calls Tryz.prog 186 #[.pointer (some ⟨b, 0, none⟩)] wx fun e w' => ∃ p1 q1 r1 p2 q2 r2 p3 q3 r3 p4 q4 r4, e = .returned (.agg #[.string ⟨nm.toArray⟩, .slice p1 q1 r1, .slice p2 q2 r2, .slice p3 q3 r3, .slice p4 q4 r4, .int .i64 at_]) ∧ RepRow w' wx.heap.size [] (stateD (.mk nm us ut ls its at_)) [.string ⟨nm.toArray⟩, .slice p1 q1 r1, .slice p2 q2 r2, .slice p3 q3 r3, .slice p4 q4 r4, .int .i64 at_] ∧ Pa w' b g cap rv T k d ∧ wx.grownBy w' (some b) := by
      intro wx hx
      have h9 := hc wx hx
      simp only [hex, rPost] at h9
      refine h9.mono ?_
      rintro e w' ⟨vs, rfl, hr, hP9, hg9⟩
      obtain ⟨p1, q1, r1, p2, q2, r2, p3, q3, r3, p4, q4, r4, e9⟩ := stateInv hr
      subst e9
      exact ⟨p1, q1, r1, p2, q2, r2, p3, q3, r3, p4, q4, r4, rfl, hr, hP9, hg9⟩
    clear hc
    have HE : Hid (Gram.states T f d [] i = Gram.states T f' d (acc ++ [(.mk nm us ut ls its at_)]) k) := by show _ = _; rw [HR1.out, hex]; rfl
    clear HR1 hex hf hEf
    go_wp2_with (first | (go_at_call 185; refine hD.mono ?_; rintro e w1 ⟨rfl, hg1⟩) | (go_at_call 75; refine (hrm _).mono ?_; rintro e w8 ⟨rfl, hw8⟩; rw [hw8]; clear hw8) | (go_at_call 186; refine (hc2 _ (hP.kept hg1)).mono ?_; rintro e w2 ⟨p1, q1, r1, p2, q2, r2, p3, q3, r3, p4, q4, r4, rfl, hk2, hP2, hg2⟩; refine Hid.out ?_))
    have hgA : wr.grownBy w2 (some b) := (grown_some hg1 b).trans hg2
    obtain ⟨xs2, ho2, hr2⟩ := GrowD.keptB HA.out hgA hbw
    rw [List.length_map] at ho2
    have hl16 := HM.out
    have hszw := hg.size
    have hszA := hgA.size
    have hsz1 := hg1.size
    refine Lib.hid ?_
    go_wp2_with (at_builtin; refine wpList_append_own_at _ rfl _ _ 39 rfl w.heap.size 182 it _ 6 120 Tryz.underlying39 hit hz hsz hby rfl (by decide) _ acc.length xs2 rfl (ho2.alloc _) ⟨w2.heap.size, 0, none⟩ 1 1 [.string ⟨nm.toArray⟩, .slice p1 q1 r1, .slice p2 q2 r2, .slice p3 q3 r3, .slice p4 q4 r4, .int .i64 at_] rfl rfl (cell_row_new w2 [.string ⟨nm.toArray⟩, .slice p1 q1 r1, .slice p2 q2 r2, .slice p3 q3 r3, .slice p4 q4 r4, .int .i64 at_] 182) (by simp [Value.oneCell']) ?_ ?_ ?_ ?_)
    · unfold maxLen; omega
    · omega
    · simp only [World.size_alloc]; omega
    intro v' w3 hown' hgrow3 _ hvb
    have hG3 : GrowD w3 w.heap.size 182 6 (acc.map stateD ++ [stateD (.mk nm us ut ls its at_)]) v' := growD_snoc hgrow3 (by rw [List.length_map]; exact hown') (RepRow.keptX (World.grownBy_alloc w2 _ none) (fun k e => by cases e) hr2) (RepRow.keptX (World.grownBy_alloc w2 _ none) (fun k e => by cases e) (RepRow.mono (by omega) (RepRow.toX u9.ownBlock.toList (fun k e => .inr (by have := HA.out.lt k e; omega)) hk2))) (by rw [World.size_alloc]; exact hvb)
    have hg3 : w.grownBy w3 (some b) := (galloc (hg.trans hgA) _).andThen hgrow3 (fun j e => .inl (ho2.lt j e).1)
    have hP3 : Pa w3 b g cap rv T k d := HH.out.to hg3 ((hP2.st.kept (World.grownBy_alloc w2 _ none) (by simp)).kept hgrow3 (by intro e; have := ho2.lt b (by first | exact e | exact e.symm); omega)) hP2.lt
    have HG3 := Lib.hid hG3
    clear hG3 hown' hvb
    go_wp2
    go_roundg f'
    case measure => exact Nat.lt_succ_self _
    case rel => exact ⟨acc ++ [(.mk nm us ut ls its at_)], k, by omega, Lib.hid ⟨by rw [List.map_append]; exact HG3.out, hP3, hg3, HE.out.symm⟩⟩
end

end Go.Proofs.YtachmiajldeakaaGreatDoor

/- gram's lists of items and nodes (made by mklist.py). -/
namespace Go.Proofs.YtachmiajldeakaaGreatDoor
open Go.RowKit Go.Maps Go.WideMaps

section
variable (b g cap : Nat) (rv : Value) (T : List Lex.Tk) (d : Nat)

set_option maxHeartbeats 3200000 in
set_option maxRecDepth 20000 in
theorem gmany_items (f : Nat) (hC : ∀ f', f' < f → ∀ (i : Nat) (w : World), Pa w b g cap rv T i d → (Gram.seesItem T i) = true → (Gram.item T f' d i).isFuel = false → Calls Tryz.prog 127 #[.pointer (some ⟨b, 0, none⟩)] w fun e w' => rPost itemD w b g cap rv T d (Gram.item T f' d i) e w') (i : Nat) (w : World) (h : Pa w b g cap rv T i d) (hf : (Gram.items T f d [] i).isFuel = false) :
    Calls Tryz.prog 152 #[.pointer (some ⟨b, 0, none⟩), .int .i64 200, .func (.func 126) #[.pointer (some ⟨b, 0, none⟩)] #[], .func (.func 127) #[.pointer (some ⟨b, 0, none⟩)] #[]] w fun e w' => lPost itemD 41 12 w b g cap rv T d (Gram.items T f d [] i) e w' := by
  obtain ⟨it, hit, hz, hsz, hby⟩ := infoP info_Item
  have hbw := h.bl
  have HH := Lib.hid h
  clear h
  go_enter Tryz.func152, Tryz.ntmps152
  go_wp2
  go_loopg [9] f (fun (f' : Nat) (s9 : Value) (wr : World) => ∃ (acc : List _) (j : Nat), f' ≤ f ∧ Hid (GrowD wr w.heap.size 41 12 (acc.map itemD) s9 ∧ Pa wr b g cap rv T j d ∧ w.grownBy wr (some b) ∧ Gram.items T f' d acc j = Gram.items T f d [] i))
  case atStart => exact ⟨[], i, Nat.le_refl _, Lib.hid ⟨GrowD.nil _ _ _ _, HH.out, World.grownBy.refl _ _, rfl⟩⟩
  case round =>
    obtain ⟨acc, j, hff, HG⟩ := hrel
    obtain ⟨hA, hP, hg, hL⟩ := HG.out
    clear HG
    rcases Nat.eq_zero_or_pos gk with hz0 | hz0
    · rw [hz0] at hL; rw [← hL] at hf; exact absurd hf (by simp [Gram.items, Gram.PR.isFuel])
    obtain ⟨f', hfe⟩ : ∃ f', gk = f' + 1 := ⟨gk - 1, by omega⟩
    subst hfe
    have hr : Gram.items T f d [] i = if Gram.seesItem T j then Gram.room T j acc.length 200 ((Gram.item T f' d j).bind fun x k => Gram.items T f' d (acc ++ [x]) k) else .ok acc j := by rw [← hL]; conv => lhs; unfold Gram.items
    rw [hr] at hf
    have HR := Lib.hid hr
    clear hr hL
    have hD := gseesItem_any b g cap rv T j d wr hP
    obtain ⟨xs, hown, hrow⟩ := hA
    rw [List.length_map] at hown
    have hlf := fun ty wx => len_Item hown ty wx
    have HA := Lib.hid (show GrowD wr w.heap.size 41 12 (acc.map itemD) u9 from ⟨xs, by rw [List.length_map]; exact hown, hrow⟩)
    clear hown hrow
    rcases Bool.eq_false_or_eq_true (Gram.seesItem T j) with hs | hs
    case inr =>
      rw [hs] at hD
      have HE : Hid (Gram.items T f d [] i = .ok acc j) := by show _ = _; rw [HR.out, if_neg (by rw [hs]; decide)]
      clear HR hf
      go_wp2_with (first | (go_at_call 126; refine hD.mono ?_; rintro e w1 ⟨rfl, hg1⟩))
      go_ret
      rw [HE.out]
      exact ⟨_, rfl, HA.out.kept0 hg1, hP.kept hg1, hg.trans (grown_some hg1 b)⟩
    rw [hs] at hD
    rw [if_pos hs] at hf
    unfold Gram.room at hf
    by_cases hm : 200 ≤ acc.length
    · have hrm := fun wx (hx : wr.grownBy wx none) => groom_no b g cap rv T j d (acc.length : Int) 200 (by omega) wx (hP.kept hx)
      go_wp2_with (first | (go_at_call 126; refine hD.mono ?_; rintro e w1 ⟨rfl, hg1⟩) | (go_at_call 75; refine (hrm _ hg1).mono ?_; rintro e w2 ⟨rfl, hg2⟩))
      refine ⟨rfl, ?_⟩
      rw [HR.out, if_pos hs]
      unfold Gram.room Gram.fail
      rw [if_pos hm]
      exact ⟨rfl, (hg.trans (grown_some hg1 b)).trans hg2⟩
    rw [if_neg hm] at hf
    have hrm := fun wx => groom_yes b (acc.length : Int) 200 (by omega) wx
    have HM := Lib.hid hm
    clear hm
    have HR1 : Hid (Gram.items T f d [] i = (Gram.item T f' d j).bind fun x k => Gram.items T f' d (acc ++ [x]) k) := by show _ = _; rw [HR.out, if_pos hs]; unfold Gram.room; rw [if_neg HM.out]
    clear HR
    have hEf : (Gram.item T f' d j).isFuel = false := Gram.PR.bind_fuel hf
    have hc := fun wx (hx : Pa wx b g cap rv T j d) => hC f' (by omega) j wx hx hs hEf
    cases hex : Gram.item T f' d j with
    | fuel => rw [hex] at hEf; cases hEf
    | bad a er =>
      simp only [hex, rPost] at hc
      go_wp2_with (first | (go_at_call 126; refine hD.mono ?_; rintro e w1 ⟨rfl, hg1⟩) | (go_at_call 75; refine (hrm _).mono ?_; rintro e w8 ⟨rfl, hw8⟩; rw [hw8]; clear hw8) | (go_at_call 127; refine (hc _ (hP.kept hg1)).mono ?_; rintro e w2 ⟨rfl, hg2⟩))
      refine ⟨rfl, ?_⟩
      rw [HR1.out, hex]
      exact ⟨rfl, (hg.trans (grown_some hg1 b)).trans hg2⟩
    | ok x k =>
    cases x with
    | mk ns ex ss at_ =>
    cases ex with
    | mk f1 s1 nm1 tk1 tl1 n1 m1 ks1 a1 =>
    have hc2 : ∀ wx, Pa wx b g cap rv T j d → Calls Tryz.prog 127 #[.pointer (some ⟨b, 0, none⟩)] wx fun e w' => ∃ p1 q1 r1 xa xn xc p3 q3 r3, e = .returned (.agg #[.slice p1 q1 r1, .int .i64 f1, .int .i64 s1, .string ⟨nm1.toArray⟩, .int .i64 tk1, .int .i64 tl1, .int .i64 n1, .int .i64 m1, .slice xa xn xc, .int .i64 a1, .slice p3 q3 r3, .int .i64 at_]) ∧ RepRow w' wx.heap.size [] (itemD (.mk ns (.mk f1 s1 nm1 tk1 tl1 n1 m1 ks1 a1) ss at_)) [.slice p1 q1 r1, .int .i64 f1, .int .i64 s1, .string ⟨nm1.toArray⟩, .int .i64 tk1, .int .i64 tl1, .int .i64 n1, .int .i64 m1, .slice xa xn xc, .int .i64 a1, .slice p3 q3 r3, .int .i64 at_] ∧ Pa w' b g cap rv T k d ∧ wx.grownBy w' (some b) := by
      intro wx hx
      have h9 := hc wx hx
      simp only [hex, rPost] at h9
      refine h9.mono ?_
      rintro e w' ⟨vs, rfl, hr, hP9, hg9⟩
      obtain ⟨p1, q1, r1, xa, xn, xc, p3, q3, r3, e9⟩ := itemInv hr
      subst e9
      exact ⟨p1, q1, r1, xa, xn, xc, p3, q3, r3, rfl, hr, hP9, hg9⟩
    clear hc
    have HE : Hid (Gram.items T f d [] i = Gram.items T f' d (acc ++ [(.mk ns (.mk f1 s1 nm1 tk1 tl1 n1 m1 ks1 a1) ss at_)]) k) := by show _ = _; rw [HR1.out, hex]; rfl
    clear HR1 hex hf hEf
    go_wp2_with (first | (go_at_call 126; refine hD.mono ?_; rintro e w1 ⟨rfl, hg1⟩) | (go_at_call 75; refine (hrm _).mono ?_; rintro e w8 ⟨rfl, hw8⟩; rw [hw8]; clear hw8) | (go_at_call 127; refine (hc2 _ (hP.kept hg1)).mono ?_; rintro e w2 ⟨p1, q1, r1, xa, xn, xc, p3, q3, r3, rfl, hk2, hP2, hg2⟩; refine Hid.out ?_))
    have hgA : wr.grownBy w2 (some b) := (grown_some hg1 b).trans hg2
    obtain ⟨xs2, ho2, hr2⟩ := GrowD.keptB HA.out hgA hbw
    rw [List.length_map] at ho2
    have hl16 := HM.out
    have hszw := hg.size
    have hszA := hgA.size
    have hsz1 := hg1.size
    refine Lib.hid ?_
    go_wp2_with (at_builtin; refine wpList_append_own_at _ rfl _ _ 43 rfl w.heap.size 41 it _ 12 152 Tryz.underlying43 hit hz hsz hby rfl (by decide) _ acc.length xs2 rfl (ho2.alloc _) ⟨w2.heap.size, 0, none⟩ 1 1 [.slice p1 q1 r1, .int .i64 f1, .int .i64 s1, .string ⟨nm1.toArray⟩, .int .i64 tk1, .int .i64 tl1, .int .i64 n1, .int .i64 m1, .slice xa xn xc, .int .i64 a1, .slice p3 q3 r3, .int .i64 at_] rfl rfl (cell_row_new w2 [.slice p1 q1 r1, .int .i64 f1, .int .i64 s1, .string ⟨nm1.toArray⟩, .int .i64 tk1, .int .i64 tl1, .int .i64 n1, .int .i64 m1, .slice xa xn xc, .int .i64 a1, .slice p3 q3 r3, .int .i64 at_] 41) (by simp [Value.oneCell']) ?_ ?_ ?_ ?_)
    · unfold maxLen; omega
    · omega
    · simp only [World.size_alloc]; omega
    intro v' w3 hown' hgrow3 _ hvb
    have hG3 : GrowD w3 w.heap.size 41 12 (acc.map itemD ++ [itemD (.mk ns (.mk f1 s1 nm1 tk1 tl1 n1 m1 ks1 a1) ss at_)]) v' := growD_snoc hgrow3 (by rw [List.length_map]; exact hown') (RepRow.keptX (World.grownBy_alloc w2 _ none) (fun k e => by cases e) hr2) (RepRow.keptX (World.grownBy_alloc w2 _ none) (fun k e => by cases e) (RepRow.mono (by omega) (RepRow.toX u9.ownBlock.toList (fun k e => .inr (by have := HA.out.lt k e; omega)) hk2))) (by rw [World.size_alloc]; exact hvb)
    have hg3 : w.grownBy w3 (some b) := (galloc (hg.trans hgA) _).andThen hgrow3 (fun j e => .inl (ho2.lt j e).1)
    have hP3 : Pa w3 b g cap rv T k d := HH.out.to hg3 ((hP2.st.kept (World.grownBy_alloc w2 _ none) (by simp)).kept hgrow3 (by intro e; have := ho2.lt b (by first | exact e | exact e.symm); omega)) hP2.lt
    have HG3 := Lib.hid hG3
    clear hG3 hown' hvb
    go_wp2
    go_roundg f'
    case measure => exact Nat.lt_succ_self _
    case rel => exact ⟨acc ++ [(.mk ns (.mk f1 s1 nm1 tk1 tl1 n1 m1 ks1 a1) ss at_)], k, by omega, Lib.hid ⟨by rw [List.map_append]; exact HG3.out, hP3, hg3, HE.out.symm⟩⟩

set_option maxHeartbeats 3200000 in
set_option maxRecDepth 20000 in
theorem gmany_nodes (f : Nat) (hC : ∀ f', f' < f → ∀ (i : Nat) (w : World), Pa w b g cap rv T i d → (Gram.sees T i [110, 111, 100, 101]) = true → (Gram.node T f' i).isFuel = false → Calls Tryz.prog 35 #[.pointer (some ⟨b, 0, none⟩)] w fun e w' => rPost nodeD w b g cap rv T d (Gram.node T f' i) e w') (i : Nat) (w : World) (h : Pa w b g cap rv T i d) (hf : (Gram.nodes T f [] i).isFuel = false) :
    Calls Tryz.prog 33 #[.pointer (some ⟨b, 0, none⟩), .int .i64 60, .func (.func 34) #[.pointer (some ⟨b, 0, none⟩)] #[], .func (.func 35) #[.pointer (some ⟨b, 0, none⟩)] #[]] w fun e w' => lPost nodeD 45 6 w b g cap rv T d (Gram.nodes T f [] i) e w' := by
  obtain ⟨it, hit, hz, hsz, hby⟩ := infoP info_Node
  have hbw := h.bl
  have HH := Lib.hid h
  clear h
  go_enter Tryz.func33, Tryz.ntmps33
  go_wp2
  go_loopg [9] f (fun (f' : Nat) (s9 : Value) (wr : World) => ∃ (acc : List _) (j : Nat), f' ≤ f ∧ Hid (GrowD wr w.heap.size 45 6 (acc.map nodeD) s9 ∧ Pa wr b g cap rv T j d ∧ w.grownBy wr (some b) ∧ Gram.nodes T f' acc j = Gram.nodes T f [] i))
  case atStart => exact ⟨[], i, Nat.le_refl _, Lib.hid ⟨GrowD.nil _ _ _ _, HH.out, World.grownBy.refl _ _, rfl⟩⟩
  case round =>
    obtain ⟨acc, j, hff, HG⟩ := hrel
    obtain ⟨hA, hP, hg, hL⟩ := HG.out
    clear HG
    rcases Nat.eq_zero_or_pos gk with hz0 | hz0
    · rw [hz0] at hL; rw [← hL] at hf; exact absurd hf (by simp [Gram.nodes, Gram.PR.isFuel])
    obtain ⟨f', hfe⟩ : ∃ f', gk = f' + 1 := ⟨gk - 1, by omega⟩
    subst hfe
    have hr : Gram.nodes T f [] i = if Gram.sees T j [110, 111, 100, 101] then Gram.room T j acc.length 60 ((Gram.node T f' j).bind fun x k => Gram.nodes T f' (acc ++ [x]) k) else .ok acc j := by rw [← hL]; conv => lhs; unfold Gram.nodes
    rw [hr] at hf
    have HR := Lib.hid hr
    clear hr hL
    have hD := gseesNode_any b g cap rv T j d wr hP
    obtain ⟨xs, hown, hrow⟩ := hA
    rw [List.length_map] at hown
    have hlf := fun ty wx => len_Node hown ty wx
    have HA := Lib.hid (show GrowD wr w.heap.size 45 6 (acc.map nodeD) u9 from ⟨xs, by rw [List.length_map]; exact hown, hrow⟩)
    clear hown hrow
    rcases Bool.eq_false_or_eq_true (Gram.sees T j [110, 111, 100, 101]) with hs | hs
    case inr =>
      rw [hs] at hD
      have HE : Hid (Gram.nodes T f [] i = .ok acc j) := by show _ = _; rw [HR.out, if_neg (by rw [hs]; decide)]
      clear HR hf
      go_wp2_with (first | (go_at_call 34; refine hD.mono ?_; rintro e w1 ⟨rfl, hg1⟩))
      go_ret
      rw [HE.out]
      exact ⟨_, rfl, HA.out.kept0 hg1, hP.kept hg1, hg.trans (grown_some hg1 b)⟩
    rw [hs] at hD
    rw [if_pos hs] at hf
    unfold Gram.room at hf
    by_cases hm : 60 ≤ acc.length
    · have hrm := fun wx (hx : wr.grownBy wx none) => groom_no b g cap rv T j d (acc.length : Int) 60 (by omega) wx (hP.kept hx)
      go_wp2_with (first | (go_at_call 34; refine hD.mono ?_; rintro e w1 ⟨rfl, hg1⟩) | (go_at_call 75; refine (hrm _ hg1).mono ?_; rintro e w2 ⟨rfl, hg2⟩))
      refine ⟨rfl, ?_⟩
      rw [HR.out, if_pos hs]
      unfold Gram.room Gram.fail
      rw [if_pos hm]
      exact ⟨rfl, (hg.trans (grown_some hg1 b)).trans hg2⟩
    rw [if_neg hm] at hf
    have hrm := fun wx => groom_yes b (acc.length : Int) 60 (by omega) wx
    have HM := Lib.hid hm
    clear hm
    have HR1 : Hid (Gram.nodes T f [] i = (Gram.node T f' j).bind fun x k => Gram.nodes T f' (acc ++ [x]) k) := by show _ = _; rw [HR.out, if_pos hs]; unfold Gram.room; rw [if_neg HM.out]
    clear HR
    have hEf : (Gram.node T f' j).isFuel = false := Gram.PR.bind_fuel hf
    have hc := fun wx (hx : Pa wx b g cap rv T j d) => hC f' (by omega) j wx hx hs hEf
    cases hex : Gram.node T f' j with
    | fuel => rw [hex] at hEf; cases hEf
    | bad a er =>
      simp only [hex, rPost] at hc
      go_wp2_with (first | (go_at_call 34; refine hD.mono ?_; rintro e w1 ⟨rfl, hg1⟩) | (go_at_call 75; refine (hrm _).mono ?_; rintro e w8 ⟨rfl, hw8⟩; rw [hw8]; clear hw8) | (go_at_call 35; refine (hc _ (hP.kept hg1)).mono ?_; rintro e w2 ⟨rfl, hg2⟩))
      refine ⟨rfl, ?_⟩
      rw [HR1.out, hex]
      exact ⟨rfl, (hg.trans (grown_some hg1 b)).trans hg2⟩
    | ok x k =>
    obtain ⟨nm, is_, os, ls, its, at_⟩ := x
    have hc2 : ∀ wx, Pa wx b g cap rv T j d → Calls Tryz.prog 35 #[.pointer (some ⟨b, 0, none⟩)] wx fun e w' => ∃ p1 q1 r1 p2 q2 r2 p3 q3 r3 p4 q4 r4, e = .returned (.agg #[.string ⟨nm.toArray⟩, .slice p1 q1 r1, .slice p2 q2 r2, .slice p3 q3 r3, .slice p4 q4 r4, .int .i64 at_]) ∧ RepRow w' wx.heap.size [] (nodeD ⟨nm, is_, os, ls, its, at_⟩) [.string ⟨nm.toArray⟩, .slice p1 q1 r1, .slice p2 q2 r2, .slice p3 q3 r3, .slice p4 q4 r4, .int .i64 at_] ∧ Pa w' b g cap rv T k d ∧ wx.grownBy w' (some b) := by
      intro wx hx
      have h9 := hc wx hx
      simp only [hex, rPost] at h9
      refine h9.mono ?_
      rintro e w' ⟨vs, rfl, hr, hP9, hg9⟩
      obtain ⟨p1, q1, r1, p2, q2, r2, p3, q3, r3, p4, q4, r4, e9⟩ := nodeInv hr
      subst e9
      exact ⟨p1, q1, r1, p2, q2, r2, p3, q3, r3, p4, q4, r4, rfl, hr, hP9, hg9⟩
    clear hc
    have HE : Hid (Gram.nodes T f [] i = Gram.nodes T f' (acc ++ [⟨nm, is_, os, ls, its, at_⟩]) k) := by show _ = _; rw [HR1.out, hex]; rfl
    clear HR1 hex hf hEf
    go_wp2_with (first | (go_at_call 34; refine hD.mono ?_; rintro e w1 ⟨rfl, hg1⟩) | (go_at_call 75; refine (hrm _).mono ?_; rintro e w8 ⟨rfl, hw8⟩; rw [hw8]; clear hw8) | (go_at_call 35; refine (hc2 _ (hP.kept hg1)).mono ?_; rintro e w2 ⟨p1, q1, r1, p2, q2, r2, p3, q3, r3, p4, q4, r4, rfl, hk2, hP2, hg2⟩; refine Hid.out ?_))
    have hgA : wr.grownBy w2 (some b) := (grown_some hg1 b).trans hg2
    obtain ⟨xs2, ho2, hr2⟩ := GrowD.keptB HA.out hgA hbw
    rw [List.length_map] at ho2
    have hl16 := HM.out
    have hszw := hg.size
    have hszA := hgA.size
    have hsz1 := hg1.size
    refine Lib.hid ?_
    go_wp2_with (at_builtin; refine wpList_append_own_at _ rfl _ _ 30 rfl w.heap.size 45 it _ 6 120 Tryz.underlying30 hit hz hsz hby rfl (by decide) _ acc.length xs2 rfl (ho2.alloc _) ⟨w2.heap.size, 0, none⟩ 1 1 [.string ⟨nm.toArray⟩, .slice p1 q1 r1, .slice p2 q2 r2, .slice p3 q3 r3, .slice p4 q4 r4, .int .i64 at_] rfl rfl (cell_row_new w2 [.string ⟨nm.toArray⟩, .slice p1 q1 r1, .slice p2 q2 r2, .slice p3 q3 r3, .slice p4 q4 r4, .int .i64 at_] 45) (by simp [Value.oneCell']) ?_ ?_ ?_ ?_)
    · unfold maxLen; omega
    · omega
    · simp only [World.size_alloc]; omega
    intro v' w3 hown' hgrow3 _ hvb
    have hG3 : GrowD w3 w.heap.size 45 6 (acc.map nodeD ++ [nodeD ⟨nm, is_, os, ls, its, at_⟩]) v' := growD_snoc hgrow3 (by rw [List.length_map]; exact hown') (RepRow.keptX (World.grownBy_alloc w2 _ none) (fun k e => by cases e) hr2) (RepRow.keptX (World.grownBy_alloc w2 _ none) (fun k e => by cases e) (RepRow.mono (by omega) (RepRow.toX u9.ownBlock.toList (fun k e => .inr (by have := HA.out.lt k e; omega)) hk2))) (by rw [World.size_alloc]; exact hvb)
    have hg3 : w.grownBy w3 (some b) := (galloc (hg.trans hgA) _).andThen hgrow3 (fun j e => .inl (ho2.lt j e).1)
    have hP3 : Pa w3 b g cap rv T k d := HH.out.to hg3 ((hP2.st.kept (World.grownBy_alloc w2 _ none) (by simp)).kept hgrow3 (by intro e; have := ho2.lt b (by first | exact e | exact e.symm); omega)) hP2.lt
    have HG3 := Lib.hid hG3
    clear hG3 hown' hvb
    go_wp2
    go_roundg f'
    case measure => exact Nat.lt_succ_self _
    case rel => exact ⟨acc ++ [⟨nm, is_, os, ls, its, at_⟩], k, by omega, Lib.hid ⟨by rw [List.map_append]; exact HG3.out, hP3, hg3, HE.out.symm⟩⟩
end

end Go.Proofs.YtachmiajldeakaaGreatDoor

/- structs under way in gram; some, items, ty (made by mkstruct.py). -/
namespace Go.Proofs.YtachmiajldeakaaGreatDoor
open Go.RowKit Go.Maps Go.WideMaps

theorem cells_2 {w : World} {q : Nat} {ty : TypeId} {x0 x1 : Value} (h : w.heap[q]? = some (.cells #[x0, x1] ty (0, 0))) : w.cell? ⟨q, 0, none⟩ = some x0 ∧ w.cell? ⟨q, 1, none⟩ = some x1 ∧ ∀ j, w.frozen? ⟨q, j, none⟩ = false := by
  refine ⟨?_, ?_, fun j => frozen_of_row w q j _ _ h⟩
  all_goals (rw [cell_of_row w q _ _ _ _ h]; simp)

theorem cells_5 {w : World} {q : Nat} {ty : TypeId} {x0 x1 x2 x3 x4 : Value} (h : w.heap[q]? = some (.cells #[x0, x1, x2, x3, x4] ty (0, 0))) : w.cell? ⟨q, 0, none⟩ = some x0 ∧ w.cell? ⟨q, 1, none⟩ = some x1 ∧ w.cell? ⟨q, 2, none⟩ = some x2 ∧ w.cell? ⟨q, 3, none⟩ = some x3 ∧ w.cell? ⟨q, 4, none⟩ = some x4 ∧ ∀ j, w.frozen? ⟨q, j, none⟩ = false := by
  refine ⟨?_, ?_, ?_, ?_, ?_, fun j => frozen_of_row w q j _ _ h⟩
  all_goals (rw [cell_of_row w q _ _ _ _ h]; simp)

theorem cells_6 {w : World} {q : Nat} {ty : TypeId} {x0 x1 x2 x3 x4 x5 : Value} (h : w.heap[q]? = some (.cells #[x0, x1, x2, x3, x4, x5] ty (0, 0))) : w.cell? ⟨q, 0, none⟩ = some x0 ∧ w.cell? ⟨q, 1, none⟩ = some x1 ∧ w.cell? ⟨q, 2, none⟩ = some x2 ∧ w.cell? ⟨q, 3, none⟩ = some x3 ∧ w.cell? ⟨q, 4, none⟩ = some x4 ∧ w.cell? ⟨q, 5, none⟩ = some x5 ∧ ∀ j, w.frozen? ⟨q, j, none⟩ = false := by
  refine ⟨?_, ?_, ?_, ?_, ?_, ?_, fun j => frozen_of_row w q j _ _ h⟩
  all_goals (rw [cell_of_row w q _ _ _ _ h]; simp)

theorem cells_12 {w : World} {q : Nat} {ty : TypeId} {x0 x1 x2 x3 x4 x5 x6 x7 x8 x9 x10 x11 : Value} (h : w.heap[q]? = some (.cells #[x0, x1, x2, x3, x4, x5, x6, x7, x8, x9, x10, x11] ty (0, 0))) : w.cell? ⟨q, 0, none⟩ = some x0 ∧ w.cell? ⟨q, 1, none⟩ = some x1 ∧ w.cell? ⟨q, 2, none⟩ = some x2 ∧ w.cell? ⟨q, 3, none⟩ = some x3 ∧ w.cell? ⟨q, 4, none⟩ = some x4 ∧ w.cell? ⟨q, 5, none⟩ = some x5 ∧ w.cell? ⟨q, 6, none⟩ = some x6 ∧ w.cell? ⟨q, 7, none⟩ = some x7 ∧ w.cell? ⟨q, 8, none⟩ = some x8 ∧ w.cell? ⟨q, 9, none⟩ = some x9 ∧ w.cell? ⟨q, 10, none⟩ = some x10 ∧ w.cell? ⟨q, 11, none⟩ = some x11 ∧ ∀ j, w.frozen? ⟨q, j, none⟩ = false := by
  refine ⟨?_, ?_, ?_, ?_, ?_, ?_, ?_, ?_, ?_, ?_, ?_, ?_, fun j => frozen_of_row w q j _ _ h⟩
  all_goals (rw [cell_of_row w q _ _ _ _ h]; simp)

/-- a struct is under way in block q, made since w0; the parser stands at i -/
structure Ss (w0 w : World) (b g cap : Nat) (rv : Value) (T : List Lex.Tk) (q i d : Nat) (ty : TypeId) (ds : List D) (cs : List Value) : Prop where
  p0 : ∃ i0, Pa w0 b g cap rv T i0 d
  pa : Pa w b g cap rv T i d
  gr : w0.grownBy w (some b)
  lo : w0.heap.size ≤ q
  row : w.heap[q]? = some (.cells cs.toArray ty (0, 0))
  rep : ∃ B, w0.heap.size ≤ B ∧ RepRow w B [q] ds cs
section
variable {w0 w w' : World} {b g cap : Nat} {rv : Value} {T : List Lex.Tk} {q i j d r : Nat} {ty : TypeId} {ds : List D} {cs : List Value}
theorem Ss.bl (h : Ss w0 w b g cap rv T q i d ty ds cs) : b < w0.heap.size := by
  obtain ⟨i0, h0⟩ := h.p0
  exact h0.bl
theorem Ss.ql (h : Ss w0 w b g cap rv T q i d ty ds cs) : q < w.heap.size := (Array.getElem?_eq_some_iff.1 h.row).1
theorem Ss.ne (h : Ss w0 w b g cap rv T q i d ty ds cs) : q ≠ b := by have := h.bl; have := h.lo; omega
theorem Ss.make (p0 : ∃ i0, Pa w0 b g cap rv T i0 d) (pa : Pa w b g cap rv T i d) (gr : w0.grownBy w (some b)) (lo : w0.heap.size ≤ q) (row : w.heap[q]? = some (.cells cs.toArray ty (0, 0))) (rep : RepRow w (q + 1) [] ds cs) : Ss w0 w b g cap rv T q i d ty ds cs :=
  ⟨p0, pa, gr, lo, row, q + 1, by omega, RepRow.toX [q] (fun k e => .inr (by simp at e; omega)) rep⟩
theorem Ss.on (h : Ss w0 w b g cap rv T q i d ty ds cs) (hg : w.grownBy w' (some b)) (hp : Pa w' b g cap rv T j d) : Ss w0 w' b g cap rv T q j d ty ds cs := by
  obtain ⟨B, hB, hr⟩ := h.rep
  exact ⟨h.p0, hp, h.gr.trans hg, h.lo, (hg.block q h.ql (by have := h.ne; simpa using this)).trans h.row, B, hB, RepRow.keptX hg (fun k e => by cases e; left; have := h.bl; omega) hr⟩
theorem Ss.kept0 (h : Ss w0 w b g cap rv T q i d ty ds cs) (hg : w.grownBy w' none) : Ss w0 w' b g cap rv T q i d ty ds cs := h.on (grown_some hg b) (h.pa.kept hg)
theorem Ss.setG (h : Ss w0 w b g cap rv T q i d ty ds cs) (k : Nat) {B' : Nat} (hB' : w0.heap.size ≤ B') {u : Value} {d' : D} (hu : RepC w B' [q] d' u) : Ss w0 (w.setCell ⟨q, k, none⟩ u) b g cap rv T q i d ty (ds.set k d') (cs.set k u) := by
  obtain ⟨i0, h0⟩ := h.p0
  obtain ⟨B, hB, hr⟩ := h.rep
  have hg : w.grownBy (w.setCell ⟨q, k, none⟩ u) (some q) := grown_set w ⟨q, k, none⟩ u
  have hG : w0.grownBy (w.setCell ⟨q, k, none⟩ u) (some b) := h.gr.andThen hg (fun j e => .inl (by cases e; exact h.lo))
  refine ⟨h.p0, h0.to hG (h.pa.st.kept hg (by have := h.ne; simp only [ne_eq, Option.some.injEq]; omega)) h.pa.lt, hG, h.lo, ?_, min B B', by omega, ?_⟩
  · rw [heap_setCell_same w q k _ _ u h.row]; simp
  · exact RepRow.keptX hg (fun k e => by cases e; right; simp) ((RepRow.mono (Nat.min_le_left _ _) hr).set k (RepC.mono (Nat.min_le_right _ _) hu))
theorem Ss.set (h : Ss w0 w b g cap rv T q i d ty ds cs) (k : Nat) {u : Value} {d' : D} (hu : RepC w (q + 1) [] d' u) : Ss w0 (w.setCell ⟨q, k, none⟩ u) b g cap rv T q i d ty (ds.set k d') (cs.set k u) :=
  h.setG k (B' := q + 1) (by have := h.lo; omega) (RepC.toX [q] (fun k e => .inr (by simp at e; omega)) hu)
theorem Ss.ends (h : Ss w0 w b g cap rv T q i d ty ds cs) (hg : w.grownBy w' (some r)) (hr : r < w0.heap.size) (hrb : r ≠ b) : RepRow w' r [] ds cs ∧ Pst w' b (.slice (some ⟨g, 0, none⟩) T.length cap) rv i d := by
  obtain ⟨B, hB, hr9⟩ := h.rep
  exact ⟨RepRow.noX (RepRow.mono (by omega) (RepRow.keptX hg (fun k e => by cases e; left; omega) hr9)), h.pa.st.kept hg (by simp; omega)⟩
end

def ty0 : Obj := .cells #[.int .i64 0, .int .i64 0] 25
/-- what a part that reads a type does -/
def tyPost (w : World) (b g cap : Nat) (rv : Value) (T : List Lex.Tk) (d : Nat) (r : Gram.PR (Int × Int)) (e : Ending) (w' : World) : Prop :=
  match r with
  | .ok x i => e = .returned (.agg #[.int .i64 x.1, .int .i64 x.2]) ∧ Pa w' b g cap rv T i d ∧ w.grownBy w' (some b)
  | .bad a er => gBad w b a er e w'
  | .fuel => False

section
variable (b g cap : Nat) (rv : Value) (T : List Lex.Tk) (d : Nat)

set_option maxHeartbeats 3200000 in
set_option maxRecDepth 20000 in
theorem gsome_Item (f : Nat) (hC : ∀ f', f' < f → ∀ (i : Nat) (w : World), Pa w b g cap rv T i d → (Gram.seesItem T i) = true → (Gram.item T f' d i).isFuel = false → Calls Tryz.prog 127 #[.pointer (some ⟨b, 0, none⟩)] w fun e w' => rPost itemD w b g cap rv T d (Gram.item T f' d i) e w') (i : Nat) (w : World) (h : Pa w b g cap rv T i d) (hf : (Gram.need T i (Gram.seesItem T i) (Gram.items T f d [] i)).isFuel = false) :
    Calls Tryz.prog 125 #[.pointer (some ⟨b, 0, none⟩), .int .i64 200, .func (.func 126) #[.pointer (some ⟨b, 0, none⟩)] #[], .func (.func 127) #[.pointer (some ⟨b, 0, none⟩)] #[]] w fun e w' => lPost itemD 41 12 w b g cap rv T d (Gram.need T i (Gram.seesItem T i) (Gram.items T f d [] i)) e w' := by
  have hD := gseesItem_any b g cap rv T i d w h
  have hy := fun wx => gneed_yes b wx
  unfold Gram.need at hf ⊢
  rcases Bool.eq_false_or_eq_true (Gram.seesItem T i) with hs | hs
  · rw [hs] at hD
    rw [if_pos hs] at hf ⊢
    have hM := fun wx (hx : w.grownBy wx none) => gmany_items b g cap rv T d f hC i wx (h.kept hx) hf
    clear hC h
    cases hr : Gram.items T f d [] i with
    | fuel => rw [hr] at hf; cases hf
    | bad a er =>
      simp only [hr, lPost] at hM
      go_enter Tryz.func125, Tryz.ntmps125
      go_wp2_with (first | (go_at_call 126; refine hD.mono ?_; rintro e w1 ⟨rfl, hg1⟩) | (go_at_call 36; refine (hy _).mono ?_; rintro e w9 ⟨rfl, hw9⟩; rw [hw9]; clear hw9) | (go_at_call 152; refine (hM _ hg1).mono ?_; rintro e w2 ⟨rfl, hg2⟩))
      exact ⟨rfl, rfl, (grown_some hg1 b).trans hg2⟩
    | ok l j =>
      simp only [hr, lPost] at hM
      go_enter Tryz.func125, Tryz.ntmps125
      go_wp2_with (first | (go_at_call 126; refine hD.mono ?_; rintro e w1 ⟨rfl, hg1⟩) | (go_at_call 36; refine (hy _).mono ?_; rintro e w9 ⟨rfl, hw9⟩; rw [hw9]; clear hw9) | (go_at_call 152; refine (hM _ hg1).mono ?_; rintro e w2 ⟨v, rfl, hk2, hP2, hg2⟩))
      go_ret
      exact ⟨_, rfl, hk2.mono hg1.size, hP2, (grown_some hg1 b).trans hg2⟩
  · rw [hs] at hD
    rw [if_neg (by rw [hs]; decide)]
    have hno := fun wx (hx : w.grownBy wx none) => gneed_no b g cap rv T i d wx (h.kept hx)
    clear hC h
    go_enter Tryz.func125, Tryz.ntmps125
    go_wp2_with (first | (go_at_call 126; refine hD.mono ?_; rintro e w1 ⟨rfl, hg1⟩) | (go_at_call 36; refine (hno _ hg1).mono ?_; rintro e w2 ⟨rfl, hg2⟩))
    exact ⟨rfl, rfl, (grown_some hg1 b).trans hg2⟩

set_option maxHeartbeats 3200000 in
set_option maxRecDepth 20000 in
theorem gitems_any (f : Nat) (hC : ∀ f', f' < f → ∀ (i : Nat) (w : World), Pa w b g cap rv T i d → (Gram.seesItem T i) = true → (Gram.item T f' d i).isFuel = false → Calls Tryz.prog 127 #[.pointer (some ⟨b, 0, none⟩)] w fun e w' => rPost itemD w b g cap rv T d (Gram.item T f' d i) e w') (i : Nat) (w : World) (h : Pa w b g cap rv T i d) (hf : (Gram.need T i (Gram.seesItem T i) (Gram.items T f d [] i)).isFuel = false) :
    Calls Tryz.prog 81 #[.pointer (some ⟨b, 0, none⟩)] w fun e w' => lPost itemD 41 12 w b g cap rv T d (Gram.need T i (Gram.seesItem T i) (Gram.items T f d [] i)) e w' := by
  have hS := gsome_Item b g cap rv T d f hC i w h hf
  have hmf := makeFunc_run
  clear hC h
  cases hr : Gram.need T i (Gram.seesItem T i) (Gram.items T f d [] i) with
  | fuel => rw [hr] at hf; cases hf
  | bad a er =>
    rw [hr] at hS
    simp only [lPost] at hS ⊢
    go_enter Tryz.func81, Tryz.ntmps81
    go_wp2_with (first | (go_at_call 125; refine hS.mono ?_; rintro e w2 ⟨rfl, hg2⟩))
    exact ⟨rfl, rfl, hg2⟩
  | ok l j =>
    rw [hr] at hS
    simp only [lPost] at hS ⊢
    go_enter Tryz.func81, Tryz.ntmps81
    go_wp2_with (first | (go_at_call 125; refine hS.mono ?_; rintro e w2 ⟨v, rfl, hk2, hP2, hg2⟩))
    go_ret
    exact ⟨_, rfl, hk2, hP2, hg2⟩

set_option maxHeartbeats 3200000 in
set_option maxRecDepth 20000 in
theorem gsome_State (f : Nat) (hC : ∀ f', f' < f → ∀ (i : Nat) (w : World), Pa w b g cap rv T i d → (Gram.sees T i [115, 116, 97, 116, 101]) = true → (Gram.state T f' d i).isFuel = false → Calls Tryz.prog 186 #[.pointer (some ⟨b, 0, none⟩)] w fun e w' => rPost stateD w b g cap rv T d (Gram.state T f' d i) e w') (i : Nat) (w : World) (h : Pa w b g cap rv T i d) (hf : (Gram.need T i (Gram.sees T i [115, 116, 97, 116, 101]) (Gram.states T f d [] i)).isFuel = false) :
    Calls Tryz.prog 184 #[.pointer (some ⟨b, 0, none⟩), .int .i64 16, .func (.func 185) #[.pointer (some ⟨b, 0, none⟩)] #[], .func (.func 186) #[.pointer (some ⟨b, 0, none⟩)] #[]] w fun e w' => lPost stateD 182 6 w b g cap rv T d (Gram.need T i (Gram.sees T i [115, 116, 97, 116, 101]) (Gram.states T f d [] i)) e w' := by
  have hD := gseesState_any b g cap rv T i d w h
  have hy := fun wx => gneed_yes b wx
  unfold Gram.need at hf ⊢
  rcases Bool.eq_false_or_eq_true (Gram.sees T i [115, 116, 97, 116, 101]) with hs | hs
  · rw [hs] at hD
    rw [if_pos hs] at hf ⊢
    have hM := fun wx (hx : w.grownBy wx none) => gmany_states b g cap rv T d f hC i wx (h.kept hx) hf
    clear hC h
    cases hr : Gram.states T f d [] i with
    | fuel => rw [hr] at hf; cases hf
    | bad a er =>
      simp only [hr, lPost] at hM
      go_enter Tryz.func184, Tryz.ntmps184
      go_wp2_with (first | (go_at_call 185; refine hD.mono ?_; rintro e w1 ⟨rfl, hg1⟩) | (go_at_call 36; refine (hy _).mono ?_; rintro e w9 ⟨rfl, hw9⟩; rw [hw9]; clear hw9) | (go_at_call 203; refine (hM _ hg1).mono ?_; rintro e w2 ⟨rfl, hg2⟩))
      exact ⟨rfl, rfl, (grown_some hg1 b).trans hg2⟩
    | ok l j =>
      simp only [hr, lPost] at hM
      go_enter Tryz.func184, Tryz.ntmps184
      go_wp2_with (first | (go_at_call 185; refine hD.mono ?_; rintro e w1 ⟨rfl, hg1⟩) | (go_at_call 36; refine (hy _).mono ?_; rintro e w9 ⟨rfl, hw9⟩; rw [hw9]; clear hw9) | (go_at_call 203; refine (hM _ hg1).mono ?_; rintro e w2 ⟨v, rfl, hk2, hP2, hg2⟩))
      go_ret
      exact ⟨_, rfl, hk2.mono hg1.size, hP2, (grown_some hg1 b).trans hg2⟩
  · rw [hs] at hD
    rw [if_neg (by rw [hs]; decide)]
    have hno := fun wx (hx : w.grownBy wx none) => gneed_no b g cap rv T i d wx (h.kept hx)
    clear hC h
    go_enter Tryz.func184, Tryz.ntmps184
    go_wp2_with (first | (go_at_call 185; refine hD.mono ?_; rintro e w1 ⟨rfl, hg1⟩) | (go_at_call 36; refine (hno _ hg1).mono ?_; rintro e w2 ⟨rfl, hg2⟩))
    exact ⟨rfl, rfl, (grown_some hg1 b).trans hg2⟩

set_option maxHeartbeats 3200000 in
set_option maxRecDepth 20000 in
theorem gty_any (i : Nat) (w : World) (h : Pa w b g cap rv T i d) :
    Calls Tryz.prog 147 #[.pointer (some ⟨b, 0, none⟩)] w fun e w' => tyPost w b g cap rv T d (Gram.ty T i) e w' := by
  have hbw := h.bl
  have hP0 := h.alloc ty0
  obtain ⟨R, hR⟩ : ∃ R, R = Gram.ty T i := ⟨_, rfl⟩
  rw [← hR]
  unfold Gram.ty Gram.kind Gram.need at hR
  have HH := Lib.hid h
  clear h
  rcases Bool.eq_false_or_eq_true (Lex.kindOf (Gram.tk T i).text != 0) with hs | hs
  case inr =>
    have hk := gkind_no b g cap rv T i d _ hP0 hs
    have HR : Hid (R = .bad ((Gram.tk T i).at_ : Int) 12) := by show _ = _; rw [hR, if_neg (by rw [hs]; decide)]; rfl
    clear hR
    go_enter Tryz.func147, Tryz.ntmps147
    go_wp2_with (first | (go_at_call 183; refine hk.mono ?_; rintro e w1 ⟨rfl, hg1⟩))
    refine ⟨rfl, ?_⟩
    rw [HR.out]
    exact ⟨rfl, (grown_some (World.grownBy_alloc w ty0 none) b).trans hg1⟩
  have hk := gkind_yes b g cap rv T i d _ hP0 hs
  rw [if_pos hs, Gram.PR.ok_bind] at hR
  have HR := Lib.hid hR
  clear hR
  generalize Lex.kindOf (Gram.tk T i).text = kk at hk HR
  go_enter Tryz.func147, Tryz.ntmps147
  go_wp2_with (first | (go_at_call 183; refine hk.mono ?_; rintro e w1 ⟨rfl, hP1, hg1⟩; refine Hid.out ?_))
  have hs1 := hg1.size
  rw [World.size_alloc] at hs1
  have hP2 := hP1.alloc (.cells #[.int .i64 kk, .int .i64 0] 25)
  rcases Bool.eq_false_or_eq_true (Gram.sees T (i + 1) [94]) with hc | hc
  case inr =>
    have hA := gaccept_no b g cap rv T (i + 1) d ⟨#[94]⟩ _ hP2 hc
    have HRR : Hid (R = .ok (kk, 0) (i + 1)) := by show _ = _; rw [HR.out, if_neg (by rw [hc]; decide)]
    clear HR
    refine Lib.hid ?_
    go_wp2_with (first | (go_at_call 123; refine hA.mono ?_; rintro e w3 ⟨rfl, hg3⟩; refine Hid.out ?_))
    have hgA : (w.alloc ty0).grownBy w3 (some b) := (galloc hg1 _).trans (grown_some hg3 b)
    have hPA := hP2.kept hg3
    obtain ⟨z0, z1, zf⟩ := cells_2 ((hg3.block w1.heap.size (by simp) (by simp)).trans (heap_alloc_new w1 _))
    refine Lib.hid ?_
    go_wp2_with (with_reducible refine hold_st 2 ?_)
    refine Lib.hid ?_
    refine wpList_store_gen rfl _ _ _ rfl w.heap.size _ rfl rfl 25 _ ((hgA.block w.heap.size (by simp) (by simp; omega)).trans (heap_alloc_new w ty0)) (by kernel_rfl) rfl (by simp [Value.oneCell']) ?_
    intro w7 hh7 hg7
    go_wp2
    (try simp only [Exit.inBlock, Exit.then])
    refine bodyPost_ret (results_cell_row rfl _ _ w.heap.size 25 _ (0, 0) _ rfl hh7 Tryz.underlying25 rfl (by kernel_rfl)) rfl ?_
    have hG : w.grownBy w7 (some b) := ((grown_some (World.grownBy_alloc w ty0 none) b).trans hgA).andThen hg7 (fun j e => .inl (by cases e; exact Nat.le_refl _))
    rw [HRR.out]
    exact ⟨rfl, HH.out.to hG (hPA.st.kept hg7 (by simp; omega)) hPA.lt, hG⟩
  have hA := gaccept_yes b g cap rv T (i + 1) d ⟨#[94]⟩ _ hP2 hc (hP2.nextSees hc (by decide))
  have HR1 : Hid (R = (Gram.size T (i + 1 + 1)).bind fun n m => .ok (kk, n) m) := by show _ = _; rw [HR.out, if_pos hc]
  clear HR
  refine Lib.hid ?_
  go_wp2_with (first | (go_at_call 123; refine hA.mono ?_; rintro e w3 ⟨rfl, hP3, hg3⟩; refine Hid.out ?_))
  rcases Bool.eq_false_or_eq_true (Gram.isNum T (i + 1 + 1) && ((Gram.tk T (i + 1 + 1)).t == 0)) with hn | hn
  case inr =>
    have hN := gsize_no b g cap rv T (i + 1 + 1) d _ hP3 hn
    have HRR : Hid (R = .bad ((Gram.tk T (i + 1 + 1)).at_ : Int) 12) := by show _ = _; rw [HR1.out]; unfold Gram.size Gram.need Gram.fail; rw [if_neg (by rw [hn]; decide)]; rfl
    refine Lib.hid ?_
    go_wp2_with (first | (go_at_call 142; refine hN.mono ?_; rintro e w4 ⟨rfl, hg4⟩))
    refine ⟨rfl, ?_⟩
    rw [HRR.out]
    exact ⟨rfl, (grown_some (World.grownBy_alloc w ty0 none) b).trans (((galloc hg1 _).trans hg3).trans hg4)⟩
  have hN := gsize_yes b g cap rv T (i + 1 + 1) d _ hP3 hn
  have HRR : Hid (R = .ok (kk, (Gram.tk T (i + 1 + 1)).n) (i + 1 + 1 + 1)) := by show _ = _; rw [HR1.out]; unfold Gram.size Gram.need; rw [if_pos hn]; rfl
  clear HR1
  generalize (Gram.tk T (i + 1 + 1)).n = nn at hN HRR
  refine Lib.hid ?_
  go_wp2_with (first | (go_at_call 142; refine hN.mono ?_; rintro e w4 ⟨rfl, hP4, hg4⟩; refine Hid.out ?_))
  have hg34 := hg3.trans hg4
  have hs4 := hg34.size
  rw [World.size_alloc] at hs4
  have hq4 := (hg34.block w1.heap.size (by simp) (by simp; omega)).trans (heap_alloc_new w1 _)
  obtain ⟨z0, z1, zf⟩ := cells_2 hq4
  obtain ⟨y0, y1, yf⟩ := cells_2 (heap_setCell_same _ _ 1 _ _ (.int .i64 nn) hq4)
  have hgA : (w.alloc ty0).grownBy (w4.setCell ⟨w1.heap.size, 1, none⟩ (.int .i64 nn)) (some b) := ((galloc hg1 _).trans hg34).andThen (grown_set w4 ⟨w1.heap.size, 1, none⟩ _) (fun j e => .inl (by cases e; simp; omega))
  have hPA : Pa (w4.setCell ⟨w1.heap.size, 1, none⟩ (.int .i64 nn)) b g cap rv T (i + 1 + 1 + 1) d := (HH.out.alloc ty0).to hgA (hP4.st.kept (grown_set w4 ⟨w1.heap.size, 1, none⟩ _) (by simp; omega)) hP4.lt
  refine Lib.hid ?_
  go_wp2_with (with_reducible refine hold_st 2 ?_)
  refine Lib.hid ?_
  refine wpList_store_gen rfl _ _ _ rfl w.heap.size _ rfl rfl 25 _ ((hgA.block w.heap.size (by simp) (by simp; omega)).trans (heap_alloc_new w ty0)) (by kernel_rfl) rfl (by simp [Value.oneCell']) ?_
  intro w7 hh7 hg7
  go_wp2
  (try simp only [Exit.inBlock, Exit.then])
  refine bodyPost_ret (results_cell_row rfl _ _ w.heap.size 25 _ (0, 0) _ rfl hh7 Tryz.underlying25 rfl (by kernel_rfl)) rfl ?_
  have hG : w.grownBy w7 (some b) := ((grown_some (World.grownBy_alloc w ty0 none) b).trans hgA).andThen hg7 (fun j e => .inl (by cases e; exact Nat.le_refl _))
  rw [HRR.out]
  exact ⟨rfl, HH.out.to hG (hPA.st.kept hg7 (by simp; omega)) hPA.lt, hG⟩
end

end Go.Proofs.YtachmiajldeakaaGreatDoor

/- gram's equation (made by mkeq.py). -/
namespace Go.Proofs.YtachmiajldeakaaGreatDoor
open Go.RowKit Go.Maps Go.WideMaps

def itm0 : Obj := .cells #[.slice none 0 0, .int .i64 0, .int .i64 0, .string ⟨#[]⟩, .int .i64 0, .int .i64 0, .int .i64 0, .int .i64 0, .slice none 0 0, .int .i64 0, .slice none 0 0, .int .i64 0] 41
def setL {α : Type} : List α → Nat → List α → List α
  | l, _, [] => l
  | l, o, u :: r => setL (l.set o u) (o + 1) r
theorem Ss.setMany {w0 : World} {b g cap : Nat} {rv : Value} {T : List Lex.Tk} {q i d : Nat} {ty : TypeId} : ∀ {us : List Value} {es : List D} (o : Nat) {w : World} {ds : List D} {cs : List Value}, Ss w0 w b g cap rv T q i d ty ds cs → RepRow w (q + 1) [] es us → Ss w0 (w.setCells q o us) b g cap rv T q i d ty (setL ds o es) (setL cs o us)
  | _, _, _, _, _, _, h, .nil => h
  | _, _, o, w, _, _, h, .cons (v := u) a t => Ss.setMany (o + 1) (h.set o a) (RepRow.keptX (grown_set w ⟨q, o, none⟩ u) (fun k e => by cases e; left; exact Nat.lt_succ_self q) t)
theorem Ss.exp1 {w0 w : World} {b g cap : Nat} {rv : Value} {T : List Lex.Tk} {q i d : Nat} {ty : TypeId} {d0 d1 d2 d3 d4 d5 d6 d7 d8 d9 d10 d11 : D} {x0 x1 x2 x3 x4 x5 x6 x7 x8 x9 x10 x11 : Value} {e0 e1 e2 e3 e4 e5 e6 e7 e8 : D} {y0 y1 y2 y3 y4 y5 y6 y7 y8 : Value} (h : Ss w0 w b g cap rv T q i d ty [d0, d1, d2, d3, d4, d5, d6, d7, d8, d9, d10, d11] [x0, x1, x2, x3, x4, x5, x6, x7, x8, x9, x10, x11]) (he : RepRow w (q + 1) [] [e0, e1, e2, e3, e4, e5, e6, e7, e8] [y0, y1, y2, y3, y4, y5, y6, y7, y8]) :
    Ss w0 (((((((((w.setCell ⟨q, 1, none⟩ y0).setCell ⟨q, 2, none⟩ y1).setCell ⟨q, 3, none⟩ y2).setCell ⟨q, 4, none⟩ y3).setCell ⟨q, 5, none⟩ y4).setCell ⟨q, 6, none⟩ y5).setCell ⟨q, 7, none⟩ y6).setCell ⟨q, 8, none⟩ y7).setCell ⟨q, 9, none⟩ y8) b g cap rv T q i d ty [d0, e0, e1, e2, e3, e4, e5, e6, e7, e8, d10, d11] [x0, y0, y1, y2, y3, y4, y5, y6, y7, y8, x10, x11] := by
  have h9 := h.setMany 1 he
  simp only [World.setCells, setL, List.set, Nat.reduceAdd] at h9
  exact h9

section
variable (b g cap : Nat) (rv : Value) (T : List Lex.Tk) (d : Nat)

set_option maxHeartbeats 3200000 in
set_option maxRecDepth 20000 in
theorem gequation_any (f i : Nat) (hE : CExp b g cap rv T f) (w : World) (h : Pa w b g cap rv T i d) (hf : (Gram.equation T f d i).isFuel = false) :
    Calls Tryz.prog 155 #[.pointer (some ⟨b, 0, none⟩)] w fun e w' => rPost itemD w b g cap rv T d (Gram.equation T f d i) e w' := by
  have hbw := h.bl
  have hP0 := h.alloc itm0
  obtain ⟨R, hR⟩ : ∃ R, R = Gram.equation T f d i := ⟨_, rfl⟩
  rw [← hR] at hf ⊢
  unfold Gram.equation at hR
  have hnx := gnext_any b g cap rv T i d _ hP0
  generalize Gram.tk T i = x at hnx hR
  have hfa := fldAt x
  have HH := Lib.hid h
  clear h
  have HR := Lib.hid hR
  clear hR
  have hmf := makeFunc_run
  go_enter Tryz.func155, Tryz.ntmps155
  go_wp2_with (first | (go_at_call 37; refine hnx.mono ?_; rintro e w1 ⟨rfl, hg1⟩; refine Hid.out ?_))
  have hs1 := hg1.size
  rw [World.size_alloc] at hs1
  have hS1 : Ss (w.alloc itm0) (w1.alloc (.cells #[.slice none 0 0, .int .i64 0, .int .i64 0, .string ⟨#[]⟩, .int .i64 0, .int .i64 0, .int .i64 0, .int .i64 0, .slice none 0 0, .int .i64 0, .slice none 0 0, .int .i64 (x.at_ : Int)] 41)) b g cap rv T w1.heap.size i d 41 [.l 9 1 [], .c (.int .i64 0), .c (.int .i64 0), .c (.string ⟨#[]⟩), .c (.int .i64 0), .c (.int .i64 0), .c (.int .i64 0), .c (.int .i64 0), .l 28 9 [], .c (.int .i64 0), .l 182 6 [], .c (.int .i64 (x.at_ : Int))] [.slice none 0 0, .int .i64 0, .int .i64 0, .string ⟨#[]⟩, .int .i64 0, .int .i64 0, .int .i64 0, .int .i64 0, .slice none 0 0, .int .i64 0, .slice none 0 0, .int .i64 (x.at_ : Int)] :=
    Ss.make ⟨i, hP0⟩ ((hP0.kept hg1).alloc _) (galloc (grown_some hg1 b) _) (by simp; omega) (heap_alloc_new w1 _) (.cons (RepC.nil _ _ _ _ _) (.cons (.c _) (.cons (.c _) (.cons (.c _) (.cons (.c _) (.cons (.c _) (.cons (.c _) (.cons (.c _) (.cons (RepC.nil _ _ _ _ _) (.cons (.c _) (.cons (RepC.nil _ _ _ _ _) (.cons (.c _) .nil))))))))))))
  have hP1 := hS1.pa
  rcases Bool.eq_false_or_eq_true (Gram.sees T i [40]) with hs | hs
  · have hA := gaccept_yes b g cap rv T i d ⟨#[40]⟩ _ hP1 hs (hP1.nextSees hs (by decide))
    have HR1 : Hid (R = ((Gram.lhs T f [] (i + 1)).bind fun ns j => (Gram.expect T j [41]).bind fun _ k => .ok ns k).bind fun ns j => (Gram.expect T j [61]).bind fun _ j => (Gram.exp T f d j).bind fun e j => (Gram.expect T j [59]).bind fun _ j => .ok (.mk ns e [] x.at_) j) := by show _ = _; rw [HR.out, if_pos hs]
    clear HR
    have HS1 := Lib.hid hS1
    clear hS1 hP1
    refine Lib.hid ?_
    go_wp2_with (first | (go_at_call 123; refine hA.mono ?_; rintro e w2 ⟨rfl, hP2, hg2⟩; refine Hid.out ?_))
    have hS2 := HS1.out.on hg2 hP2
    have hLf : (Gram.lhs T f [] (i + 1)).isFuel = false := by rw [HR1.out, Gram.PR.bind_assoc] at hf; exact Gram.PR.bind_fuel hf
    have hL := gparted_names b g cap rv T d f (i + 1) w2 hP2 hLf
    have HS2 := Lib.hid hS2
    clear hS2
    cases hr0 : Gram.lhs T f [] (i + 1) with
    | fuel => rw [hr0] at hLf; cases hLf
    | bad a er =>
      rw [hr0] at hL
      simp only [lPost] at hL
      refine Lib.hid ?_
      go_wp2_with (first | (go_at_call 187; refine hL.mono ?_; rintro e w9 ⟨rfl, hgz⟩))
      refine ⟨rfl, ?_⟩
      rw [HR1.out, hr0]
      exact ⟨rfl, (grown_some (World.grownBy_alloc w itm0 none) b).trans (HS2.out.gr.trans hgz)⟩
    | ok ns j0 =>
    rw [hr0] at hL
    simp only [lPost] at hL
    have HR2 : Hid (R = ((Gram.expect T j0 [41]).bind fun _ k => Gram.PR.ok ns k).bind fun ns j => (Gram.expect T j [61]).bind fun _ j => (Gram.exp T f d j).bind fun e j => (Gram.expect T j [59]).bind fun _ j => .ok (.mk ns e [] x.at_) j) := by show _ = _; rw [HR1.out, hr0]; rfl
    clear HR1 hr0 hLf
    refine Lib.hid ?_
    go_wp2_with (first | (go_at_call 187; refine hL.mono ?_; rintro e w3 ⟨v3, rfl, hk3, hP3, hg3⟩; obtain ⟨va, vn, vc, rfl⟩ := hk3.form; refine Hid.out ?_))
    have hS3 := HS2.out.on hg3 hP3
    have hql2 := HS2.out.ql
    obtain ⟨z0, z1, z2, z3, z4, z5, z6, z7, z8, z9, z10, z11, zf⟩ := cells_12 (show w3.heap[w1.heap.size]? = some (.cells #[.slice none 0 0, .int .i64 0, .int .i64 0, .string ⟨#[]⟩, .int .i64 0, .int .i64 0, .int .i64 0, .int .i64 0, .slice none 0 0, .int .i64 0, .slice none 0 0, .int .i64 (x.at_ : Int)] 41 (0, 0)) from hS3.row)
    have hSA : Ss (w.alloc itm0) (w3.setCell ⟨w1.heap.size, 0, none⟩ (.slice va vn vc)) b g cap rv T w1.heap.size j0 d 41 [.l 9 1 ((ns).map nameD), .c (.int .i64 0), .c (.int .i64 0), .c (.string ⟨#[]⟩), .c (.int .i64 0), .c (.int .i64 0), .c (.int .i64 0), .c (.int .i64 0), .l 28 9 [], .c (.int .i64 0), .l 182 6 [], .c (.int .i64 (x.at_ : Int))] [.slice va vn vc, .int .i64 0, .int .i64 0, .string ⟨#[]⟩, .int .i64 0, .int .i64 0, .int .i64 0, .int .i64 0, .slice none 0 0, .int .i64 0, .slice none 0 0, .int .i64 (x.at_ : Int)] := hS3.set 0 (hk3.mono (Nat.succ_le_of_lt hql2)).rep
    have hPA0 := hSA.pa
    clear z0 z1 z2 z3 z4 z5 z6 z7 z8 z9 z10 z11 zf
    obtain ⟨z0, z1, z2, z3, z4, z5, z6, z7, z8, z9, z10, z11, zf⟩ := cells_12 (show w3.heap[w1.heap.size]? = some (.cells #[.slice none 0 0, .int .i64 0, .int .i64 0, .string ⟨#[]⟩, .int .i64 0, .int .i64 0, .int .i64 0, .int .i64 0, .slice none 0 0, .int .i64 0, .slice none 0 0, .int .i64 (x.at_ : Int)] 41 (0, 0)) from hS3.row)
    have HSA := Lib.hid hSA
    clear hSA hS3
    rcases Bool.eq_false_or_eq_true (Gram.sees T j0 [41]) with e0 | e0
    case inr =>
      have hM := gexpect_no b g cap rv T j0 d ⟨#[41]⟩ _ hPA0 e0
      refine Lib.hid ?_
      go_wp2_with (first | (go_at_call 77; refine hM.mono ?_; rintro e w9 ⟨rfl, hgz⟩))
      refine ⟨rfl, ?_⟩
      rw [HR2.out, Gram.expect_no e0]
      exact ⟨rfl, (grown_some (World.grownBy_alloc w itm0 none) b).trans (HSA.out.gr.trans hgz)⟩
    have hM := gexpect_yes b g cap rv T j0 d ⟨#[41]⟩ _ hPA0 e0 (hPA0.nextSees e0 (by decide))
    have HT : Hid (R = (Gram.expect T (j0 + 1) [61]).bind fun _ j => (Gram.exp T f d j).bind fun e j => (Gram.expect T j [59]).bind fun _ j => .ok (.mk ns e [] x.at_) j) := by show _ = _; rw [HR2.out, Gram.expect_yes e0]; rfl
    clear HR2 hPA0
    refine Lib.hid ?_
    go_wp2_with (first | (go_at_call 77; refine hM.mono ?_; rintro e w33 ⟨rfl, hP33, hg33⟩; refine Hid.out ?_))
    have hS := HSA.out.on hg33 hP33
    clear hM hL hA z0 z1 z2 z3 z4 z5 z6 z7 z8 z9 z10 z11 zf
    rcases Bool.eq_false_or_eq_true (Gram.sees T (j0 + 1) [61]) with e1 | e1
    case inr =>
      have hN := gexpect_no b g cap rv T (j0 + 1) d ⟨#[61]⟩ _ hS.pa e1
      have hg9 := hS.gr
      refine Lib.hid ?_
      go_wp2_with (first | (go_at_call 77; refine hN.mono ?_; rintro e w9 ⟨rfl, hgz⟩))
      refine ⟨rfl, ?_⟩
      rw [HT.out, Gram.expect_no e1]
      exact ⟨rfl, (grown_some (World.grownBy_alloc w itm0 none) b).trans (hg9.trans hgz)⟩
    have hN := gexpect_yes b g cap rv T (j0 + 1) d ⟨#[61]⟩ _ hS.pa e1 (hS.pa.nextSees e1 (by decide))
    have HS := Lib.hid hS
    clear hS
    refine Lib.hid ?_
    go_wp2_with (first | (go_at_call 77; refine hN.mono ?_; rintro e w4 ⟨rfl, hP4, hg4⟩; refine Hid.out ?_))
    have hS4 := HS.out.on hg4 hP4
    have HT4 : Hid (R = (Gram.exp T f d ((j0 + 1) + 1)).bind fun e j => (Gram.expect T j [59]).bind fun _ j => .ok (.mk ns e [] x.at_) j) := by show _ = _; rw [HT.out, Gram.expect_yes e1]; rfl
    clear HT
    have hEf : (Gram.exp T f d ((j0 + 1) + 1)).isFuel = false := by rw [HT4.out] at hf; exact Gram.PR.bind_fuel hf
    have hX := hE d ((j0 + 1) + 1) w4 hS4.pa hEf
    have HS4 := Lib.hid hS4
    clear hS4
    cases hr : Gram.exp T f d ((j0 + 1) + 1) with
    | fuel => rw [hr] at hEf; cases hEf
    | bad a er =>
      rw [hr] at hX
      simp only [ePost] at hX
      refine Lib.hid ?_
      go_wp2_with (first | (go_at_call 145; refine hX.mono ?_; rintro e w9 ⟨rfl, hgz⟩))
      refine ⟨rfl, ?_⟩
      rw [HT4.out, hr]
      exact ⟨rfl, (grown_some (World.grownBy_alloc w itm0 none) b).trans (HS4.out.gr.trans hgz)⟩
    | ok y k =>
    cases y with
    | mk f1 s1 nm1 tk1 tl1 n1 m1 ks1 a1 =>
    rw [hr] at hX
    simp only [ePost, expV] at hX
    have HT5 : Hid (R = (Gram.expect T k [59]).bind fun _ j => .ok (.mk ns (.mk f1 s1 nm1 tk1 tl1 n1 m1 ks1 a1) [] x.at_) j) := by show _ = _; rw [HT4.out, hr]; rfl
    clear HT4 hr hEf hf
    refine Lib.hid ?_
    go_wp2_with (first | (go_at_call 145; refine hX.mono ?_; rintro e w5 ⟨k5, rfl, hk5, hP5, hg5⟩; obtain ⟨ka, kn, kc, rfl⟩ := hk5.form; refine Hid.out ?_))
    have hS5 := HS4.out.on hg5 hP5
    have hql4 := HS4.out.ql
    obtain ⟨z0, z1, z2, z3, z4, z5, z6, z7, z8, z9, z10, z11, zf⟩ := cells_12 (show w5.heap[w1.heap.size]? = some (.cells #[.slice va vn vc, .int .i64 0, .int .i64 0, .string ⟨#[]⟩, .int .i64 0, .int .i64 0, .int .i64 0, .int .i64 0, .slice none 0 0, .int .i64 0, .slice none 0 0, .int .i64 (x.at_ : Int)] 41 (0, 0)) from hS5.row)
    have he5 : RepRow w5 (w1.heap.size + 1) [] [.c (.int .i64 f1), .c (.int .i64 s1), .c (.string ⟨nm1.toArray⟩), .c (.int .i64 tk1), .c (.int .i64 tl1), .c (.int .i64 n1), .c (.int .i64 m1), .l 28 9 (expsD ks1), .c (.int .i64 a1)] [.int .i64 f1, .int .i64 s1, .string ⟨nm1.toArray⟩, .int .i64 tk1, .int .i64 tl1, .int .i64 n1, .int .i64 m1, .slice ka kn kc, .int .i64 a1] := by
      have h9 := exp_row (x := (.mk f1 s1 nm1 tk1 tl1 n1 m1 ks1 a1)) (E := []) (hk5.mono (Nat.succ_le_of_lt hql4))
      simpa only [expD, expCells] using h9
    have hS6 : Ss (w.alloc itm0) (((((((((w5.setCell ⟨w1.heap.size, 1, none⟩ (.int .i64 f1)).setCell ⟨w1.heap.size, 2, none⟩ (.int .i64 s1)).setCell ⟨w1.heap.size, 3, none⟩ (.string ⟨nm1.toArray⟩)).setCell ⟨w1.heap.size, 4, none⟩ (.int .i64 tk1)).setCell ⟨w1.heap.size, 5, none⟩ (.int .i64 tl1)).setCell ⟨w1.heap.size, 6, none⟩ (.int .i64 n1)).setCell ⟨w1.heap.size, 7, none⟩ (.int .i64 m1)).setCell ⟨w1.heap.size, 8, none⟩ (.slice ka kn kc)).setCell ⟨w1.heap.size, 9, none⟩ (.int .i64 a1)) b g cap rv T w1.heap.size k d 41 [.l 9 1 ((ns).map nameD), .c (.int .i64 f1), .c (.int .i64 s1), .c (.string ⟨nm1.toArray⟩), .c (.int .i64 tk1), .c (.int .i64 tl1), .c (.int .i64 n1), .c (.int .i64 m1), .l 28 9 (expsD ks1), .c (.int .i64 a1), .l 182 6 [], .c (.int .i64 (x.at_ : Int))] [.slice va vn vc, .int .i64 f1, .int .i64 s1, .string ⟨nm1.toArray⟩, .int .i64 tk1, .int .i64 tl1, .int .i64 n1, .int .i64 m1, .slice ka kn kc, .int .i64 a1, .slice none 0 0, .int .i64 (x.at_ : Int)] := hS5.exp1 he5
    have hPA := hS6.pa
    have HS6 := Lib.hid hS6
    clear hS6 hS5 he5
    rcases Bool.eq_false_or_eq_true (Gram.sees T k [59]) with e2 | e2
    case inr =>
      have hM := gexpect_no b g cap rv T k d ⟨#[59]⟩ _ hPA e2
      refine Lib.hid ?_
      go_wp2_with (first | (go_at_call 77; refine hM.mono ?_; rintro e w9 ⟨rfl, hgz⟩))
      refine ⟨rfl, ?_⟩
      rw [HT5.out, Gram.expect_no e2]
      exact ⟨rfl, (grown_some (World.grownBy_alloc w itm0 none) b).trans (HS6.out.gr.trans hgz)⟩
    have hM := gexpect_yes b g cap rv T k d ⟨#[59]⟩ _ hPA e2 (hPA.nextSees e2 (by decide))
    have HRR : Hid (R = .ok (.mk ns (.mk f1 s1 nm1 tk1 tl1 n1 m1 ks1 a1) [] x.at_) (k + 1)) := by show _ = _; rw [HT5.out, Gram.expect_yes e2]; rfl
    clear HT5
    refine Lib.hid ?_
    go_wp2_with (first | (go_at_call 77; refine hM.mono ?_; rintro e w6 ⟨rfl, hP6, hg6⟩; refine Hid.out ?_))
    have hSE := HS6.out.on hg6 hP6
    have hgA := hSE.gr
    obtain ⟨y0, y1, y2, y3, y4, y5, y6, y7, y8, y9, y10, y11, yf⟩ := cells_12 (show w6.heap[w1.heap.size]? = some (.cells #[.slice va vn vc, .int .i64 f1, .int .i64 s1, .string ⟨nm1.toArray⟩, .int .i64 tk1, .int .i64 tl1, .int .i64 n1, .int .i64 m1, .slice ka kn kc, .int .i64 a1, .slice none 0 0, .int .i64 (x.at_ : Int)] 41 (0, 0)) from hSE.row)
    have HSE := Lib.hid hSE
    clear hSE hPA
    refine Lib.hid ?_
    go_wp2_with (with_reducible refine hold_st 2 ?_)
    refine Lib.hid ?_
    refine wpList_store_gen rfl _ _ _ rfl w.heap.size _ rfl rfl 41 _ ((hgA.block w.heap.size (by simp) (by simp; omega)).trans (heap_alloc_new w itm0)) (by kernel_rfl) rfl (by simp [Value.oneCell']) ?_
    intro w7 hh7 hg7
    go_wp2
    (try simp only [Exit.inBlock, Exit.then])
    refine bodyPost_ret (results_cell_row rfl _ _ w.heap.size 41 _ (0, 0) _ rfl hh7 Tryz.underlying41 rfl (by kernel_rfl)) rfl ?_
    have hG : w.grownBy w7 (some b) := ((grown_some (World.grownBy_alloc w itm0 none) b).trans hgA).andThen hg7 (fun j e => .inl (by cases e; exact Nat.le_refl _))
    obtain ⟨hkk, hss⟩ := HSE.out.ends hg7 (by simp) (by omega)
    rw [HRR.out]
    refine ⟨_, rfl, ?_, HH.out.to hG hss HSE.out.pa.lt, hG⟩
    simpa only [itemD, statesD, expD, expsD, List.cons_append, List.nil_append] using hkk
  · have hA := gaccept_no b g cap rv T i d ⟨#[40]⟩ _ hP1 hs
    have HR1 : Hid (R = ((Gram.name T i).bind fun n j => .ok [n] j).bind fun ns j => (Gram.expect T j [61]).bind fun _ j => (Gram.exp T f d j).bind fun e j => (Gram.expect T j [59]).bind fun _ j => .ok (.mk ns e [] x.at_) j) := by show _ = _; rw [HR.out, if_neg (by rw [hs]; decide)]
    clear HR
    have HS1 := Lib.hid hS1
    clear hS1 hP1
    refine Lib.hid ?_
    go_wp2_with (first | (go_at_call 123; refine hA.mono ?_; rintro e w2 ⟨rfl, hg2⟩; refine Hid.out ?_))
    have hS2 := HS1.out.kept0 hg2
    have hP2 := hS2.pa
    have HS2 := Lib.hid hS2
    clear hS2
    rcases Bool.eq_false_or_eq_true (Gram.isName T i) with hn | hn
    case inr =>
      have hM := gname_no b g cap rv T i d _ hP2 hn
      have HR2 : Hid (R = .bad ((Gram.tk T i).at_ : Int) 12) := by show _ = _; rw [HR1.out]; unfold Gram.name Gram.need Gram.fail; rw [if_neg (by rw [hn]; decide)]; rfl
      refine Lib.hid ?_
      go_wp2_with (first | (go_at_call 78; refine hM.mono ?_; rintro e w9 ⟨rfl, hgz⟩))
      refine ⟨rfl, ?_⟩
      rw [HR2.out]
      exact ⟨rfl, (grown_some (World.grownBy_alloc w itm0 none) b).trans (HS2.out.gr.trans hgz)⟩
    have hM := gname_yes b g cap rv T i d _ hP2 hn
    have HT : Hid (R = (Gram.expect T (i + 1) [61]).bind fun _ j => (Gram.exp T f d j).bind fun e j => (Gram.expect T j [59]).bind fun _ j => .ok (.mk [(Gram.tk T i).text] e [] x.at_) j) := by show _ = _; rw [HR1.out]; unfold Gram.name Gram.need; rw [if_pos hn]; rfl
    clear HR1
    generalize (Gram.tk T i).text = nx at hM HT
    refine Lib.hid ?_
    go_wp2_with (first | (go_at_call 78; refine hM.mono ?_; rintro e w3 ⟨rfl, hP3, hg3⟩; refine Hid.out ?_))
    have hS3 := HS2.out.on hg3 hP3
    have hql3 := hS3.ql
    have hne3 : ¬ w1.heap.size = w3.heap.size := by omega
    have hne3' : ¬ w3.heap.size = w1.heap.size := by omega
    have hS33 := hS3.kept0 (World.grownBy_alloc w3 (.cells #[.string ⟨nx.toArray⟩] 9) none)
    obtain ⟨z0, z1, z2, z3, z4, z5, z6, z7, z8, z9, z10, z11, zf⟩ := cells_12 (show w3.heap[w1.heap.size]? = some (.cells #[.slice none 0 0, .int .i64 0, .int .i64 0, .string ⟨#[]⟩, .int .i64 0, .int .i64 0, .int .i64 0, .int .i64 0, .slice none 0 0, .int .i64 0, .slice none 0 0, .int .i64 (x.at_ : Int)] 41 (0, 0)) from hS3.row)
    have hre : RepC (w3.alloc (.cells #[.string ⟨nx.toArray⟩] 9)) (w1.heap.size + 1) [] (.l 9 1 ([nx].map nameD)) (.slice (some ⟨w3.heap.size, 0, none⟩) 1 1) :=
      .l (xs := [.string ⟨nx.toArray⟩]) (owns_new 9 1 1 [.string ⟨nx.toArray⟩] (by omega) rfl (by unfold maxLen; omega)) (fun _ e => by cases e) (.cons (.c _) .nil)
    have hS : Ss (w.alloc itm0) ((w3.alloc (.cells #[.string ⟨nx.toArray⟩] 9)).setCell ⟨w1.heap.size, 0, none⟩ (.slice (some ⟨w3.heap.size, 0, none⟩) 1 1)) b g cap rv T w1.heap.size (i + 1) d 41 [.l 9 1 (([nx]).map nameD), .c (.int .i64 0), .c (.int .i64 0), .c (.string ⟨#[]⟩), .c (.int .i64 0), .c (.int .i64 0), .c (.int .i64 0), .c (.int .i64 0), .l 28 9 [], .c (.int .i64 0), .l 182 6 [], .c (.int .i64 (x.at_ : Int))] [.slice (some ⟨w3.heap.size, 0, none⟩) 1 1, .int .i64 0, .int .i64 0, .string ⟨#[]⟩, .int .i64 0, .int .i64 0, .int .i64 0, .int .i64 0, .slice none 0 0, .int .i64 0, .slice none 0 0, .int .i64 (x.at_ : Int)] := hS33.set 0 hre
    have e9 : (w3.alloc (.cells #[.string ⟨nx.toArray⟩] 9)).setCell ⟨w1.heap.size, 0, none⟩ (.slice (some ⟨w3.heap.size, 0, none⟩) 1 1) = (w3.setCell ⟨w1.heap.size, 0, none⟩ (.slice (some ⟨w3.heap.size, 0, none⟩) 1 1)).alloc (.cells #[.string ⟨nx.toArray⟩] 9) := by
      exact World.setCell_alloc_past _ _ _ _ hql3
    rw [e9] at hS
    clear hS33 hS3 hre hM hA e9
    rcases Bool.eq_false_or_eq_true (Gram.sees T (i + 1) [61]) with e1 | e1
    case inr =>
      have hN := gexpect_no b g cap rv T (i + 1) d ⟨#[61]⟩ _ hS.pa e1
      have hg9 := hS.gr
      refine Lib.hid ?_
      go_wp2_with (first | (go_at_call 77; refine hN.mono ?_; rintro e w9 ⟨rfl, hgz⟩))
      refine ⟨rfl, ?_⟩
      rw [HT.out, Gram.expect_no e1]
      exact ⟨rfl, (grown_some (World.grownBy_alloc w itm0 none) b).trans (hg9.trans hgz)⟩
    have hN := gexpect_yes b g cap rv T (i + 1) d ⟨#[61]⟩ _ hS.pa e1 (hS.pa.nextSees e1 (by decide))
    have HS := Lib.hid hS
    clear hS
    refine Lib.hid ?_
    go_wp2_with (first | (go_at_call 77; refine hN.mono ?_; rintro e w4 ⟨rfl, hP4, hg4⟩; refine Hid.out ?_))
    have hS4 := HS.out.on hg4 hP4
    have HT4 : Hid (R = (Gram.exp T f d ((i + 1) + 1)).bind fun e j => (Gram.expect T j [59]).bind fun _ j => .ok (.mk [nx] e [] x.at_) j) := by show _ = _; rw [HT.out, Gram.expect_yes e1]; rfl
    clear HT
    have hEf : (Gram.exp T f d ((i + 1) + 1)).isFuel = false := by rw [HT4.out] at hf; exact Gram.PR.bind_fuel hf
    have hX := hE d ((i + 1) + 1) w4 hS4.pa hEf
    have HS4 := Lib.hid hS4
    clear hS4
    cases hr : Gram.exp T f d ((i + 1) + 1) with
    | fuel => rw [hr] at hEf; cases hEf
    | bad a er =>
      rw [hr] at hX
      simp only [ePost] at hX
      refine Lib.hid ?_
      go_wp2_with (first | (go_at_call 145; refine hX.mono ?_; rintro e w9 ⟨rfl, hgz⟩))
      refine ⟨rfl, ?_⟩
      rw [HT4.out, hr]
      exact ⟨rfl, (grown_some (World.grownBy_alloc w itm0 none) b).trans (HS4.out.gr.trans hgz)⟩
    | ok y k =>
    cases y with
    | mk f1 s1 nm1 tk1 tl1 n1 m1 ks1 a1 =>
    rw [hr] at hX
    simp only [ePost, expV] at hX
    have HT5 : Hid (R = (Gram.expect T k [59]).bind fun _ j => .ok (.mk [nx] (.mk f1 s1 nm1 tk1 tl1 n1 m1 ks1 a1) [] x.at_) j) := by show _ = _; rw [HT4.out, hr]; rfl
    clear HT4 hr hEf hf
    refine Lib.hid ?_
    go_wp2_with (first | (go_at_call 145; refine hX.mono ?_; rintro e w5 ⟨k5, rfl, hk5, hP5, hg5⟩; obtain ⟨ka, kn, kc, rfl⟩ := hk5.form; refine Hid.out ?_))
    have hS5 := HS4.out.on hg5 hP5
    have hql4 := HS4.out.ql
    obtain ⟨z0, z1, z2, z3, z4, z5, z6, z7, z8, z9, z10, z11, zf⟩ := cells_12 (show w5.heap[w1.heap.size]? = some (.cells #[.slice (some ⟨w3.heap.size, 0, none⟩) 1 1, .int .i64 0, .int .i64 0, .string ⟨#[]⟩, .int .i64 0, .int .i64 0, .int .i64 0, .int .i64 0, .slice none 0 0, .int .i64 0, .slice none 0 0, .int .i64 (x.at_ : Int)] 41 (0, 0)) from hS5.row)
    have he5 : RepRow w5 (w1.heap.size + 1) [] [.c (.int .i64 f1), .c (.int .i64 s1), .c (.string ⟨nm1.toArray⟩), .c (.int .i64 tk1), .c (.int .i64 tl1), .c (.int .i64 n1), .c (.int .i64 m1), .l 28 9 (expsD ks1), .c (.int .i64 a1)] [.int .i64 f1, .int .i64 s1, .string ⟨nm1.toArray⟩, .int .i64 tk1, .int .i64 tl1, .int .i64 n1, .int .i64 m1, .slice ka kn kc, .int .i64 a1] := by
      have h9 := exp_row (x := (.mk f1 s1 nm1 tk1 tl1 n1 m1 ks1 a1)) (E := []) (hk5.mono (Nat.succ_le_of_lt hql4))
      simpa only [expD, expCells] using h9
    have hS6 : Ss (w.alloc itm0) (((((((((w5.setCell ⟨w1.heap.size, 1, none⟩ (.int .i64 f1)).setCell ⟨w1.heap.size, 2, none⟩ (.int .i64 s1)).setCell ⟨w1.heap.size, 3, none⟩ (.string ⟨nm1.toArray⟩)).setCell ⟨w1.heap.size, 4, none⟩ (.int .i64 tk1)).setCell ⟨w1.heap.size, 5, none⟩ (.int .i64 tl1)).setCell ⟨w1.heap.size, 6, none⟩ (.int .i64 n1)).setCell ⟨w1.heap.size, 7, none⟩ (.int .i64 m1)).setCell ⟨w1.heap.size, 8, none⟩ (.slice ka kn kc)).setCell ⟨w1.heap.size, 9, none⟩ (.int .i64 a1)) b g cap rv T w1.heap.size k d 41 [.l 9 1 (([nx]).map nameD), .c (.int .i64 f1), .c (.int .i64 s1), .c (.string ⟨nm1.toArray⟩), .c (.int .i64 tk1), .c (.int .i64 tl1), .c (.int .i64 n1), .c (.int .i64 m1), .l 28 9 (expsD ks1), .c (.int .i64 a1), .l 182 6 [], .c (.int .i64 (x.at_ : Int))] [.slice (some ⟨w3.heap.size, 0, none⟩) 1 1, .int .i64 f1, .int .i64 s1, .string ⟨nm1.toArray⟩, .int .i64 tk1, .int .i64 tl1, .int .i64 n1, .int .i64 m1, .slice ka kn kc, .int .i64 a1, .slice none 0 0, .int .i64 (x.at_ : Int)] := hS5.exp1 he5
    have hPA := hS6.pa
    have HS6 := Lib.hid hS6
    clear hS6 hS5 he5
    rcases Bool.eq_false_or_eq_true (Gram.sees T k [59]) with e2 | e2
    case inr =>
      have hM := gexpect_no b g cap rv T k d ⟨#[59]⟩ _ hPA e2
      refine Lib.hid ?_
      go_wp2_with (first | (go_at_call 77; refine hM.mono ?_; rintro e w9 ⟨rfl, hgz⟩))
      refine ⟨rfl, ?_⟩
      rw [HT5.out, Gram.expect_no e2]
      exact ⟨rfl, (grown_some (World.grownBy_alloc w itm0 none) b).trans (HS6.out.gr.trans hgz)⟩
    have hM := gexpect_yes b g cap rv T k d ⟨#[59]⟩ _ hPA e2 (hPA.nextSees e2 (by decide))
    have HRR : Hid (R = .ok (.mk [nx] (.mk f1 s1 nm1 tk1 tl1 n1 m1 ks1 a1) [] x.at_) (k + 1)) := by show _ = _; rw [HT5.out, Gram.expect_yes e2]; rfl
    clear HT5
    refine Lib.hid ?_
    go_wp2_with (first | (go_at_call 77; refine hM.mono ?_; rintro e w6 ⟨rfl, hP6, hg6⟩; refine Hid.out ?_))
    have hSE := HS6.out.on hg6 hP6
    have hgA := hSE.gr
    obtain ⟨y0, y1, y2, y3, y4, y5, y6, y7, y8, y9, y10, y11, yf⟩ := cells_12 (show w6.heap[w1.heap.size]? = some (.cells #[.slice (some ⟨w3.heap.size, 0, none⟩) 1 1, .int .i64 f1, .int .i64 s1, .string ⟨nm1.toArray⟩, .int .i64 tk1, .int .i64 tl1, .int .i64 n1, .int .i64 m1, .slice ka kn kc, .int .i64 a1, .slice none 0 0, .int .i64 (x.at_ : Int)] 41 (0, 0)) from hSE.row)
    have HSE := Lib.hid hSE
    clear hSE hPA
    refine Lib.hid ?_
    go_wp2_with (with_reducible refine hold_st 2 ?_)
    refine Lib.hid ?_
    refine wpList_store_gen rfl _ _ _ rfl w.heap.size _ rfl rfl 41 _ ((hgA.block w.heap.size (by simp) (by simp; omega)).trans (heap_alloc_new w itm0)) (by kernel_rfl) rfl (by simp [Value.oneCell']) ?_
    intro w7 hh7 hg7
    go_wp2
    (try simp only [Exit.inBlock, Exit.then])
    refine bodyPost_ret (results_cell_row rfl _ _ w.heap.size 41 _ (0, 0) _ rfl hh7 Tryz.underlying41 rfl (by kernel_rfl)) rfl ?_
    have hG : w.grownBy w7 (some b) := ((grown_some (World.grownBy_alloc w itm0 none) b).trans hgA).andThen hg7 (fun j e => .inl (by cases e; exact Nat.le_refl _))
    obtain ⟨hkk, hss⟩ := HSE.out.ends hg7 (by simp) (by omega)
    rw [HRR.out]
    refine ⟨_, rfl, ?_, HH.out.to hG hss HSE.out.pa.lt, hG⟩
    simpa only [itemD, statesD, expD, expsD, List.cons_append, List.nil_append] using hkk
end

end Go.Proofs.YtachmiajldeakaaGreatDoor
