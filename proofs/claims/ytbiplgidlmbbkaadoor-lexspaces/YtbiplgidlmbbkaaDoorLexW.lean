/- lex's words: the map that the call of words makes, and what it tells of every word. -/
import Derived.Test.YtbiplgidlmbbkaaDoorLexD
namespace Go.Proofs.YtbiplgidlmbbkaaDoor
open Go.RowKit Go.Maps Go.WideMaps

theorem wpList_insert_own {H : Type} {P : Program} (w : World) {ops : Array Oper} {rest : List Oper} {o : Oper} {a : Act} {Q : Exit → Act → World → Prop}
    (hg : o.guard = none) (m x v : Operand) (t : TypeId) (hop : o.op = Op.insert t m x v)
    (k e : TypeId) (K : Keyed P k) (ht : P.underlying t = some (.map k e)) (R : Value → Option (DataW H × List MemPlace)) (b n : Nat) (D : DataW H)
    (hm : a.eval m = .map (some b)) (hown : w.ownsMap P k R b n D) (hn : n < maxLen) (key val : Value) (kl : Lit) (hx : a.eval x = key) (hv : a.eval v = val) (hkey : keyOf P k key = some kl)
    (d : DataW H) (ps : List MemPlace) (hval : R val = some (d, ps))
    (hK : ∀ w', w'.ownsMap P k R b (n + 1) (D.put kl d) → w.mapTurned w' b → wpList P ops Q rest (a.put o.dst undef) w') :
    wpList P ops Q (o :: rest) a w := by
  refine wpList_plain hg fun K' hK' => ?_
  obtain ⟨w', hrun, r1, r2⟩ := hown.store K ht hn hkey hval
  unfold Oper.wp
  simp [execOp, hop, hm, hx, hv, hrun, Result.andThen]
  exact hK' _ _ (hK w' r1 r2)

theorem lawK : Keyed Tryd.prog 9 := string_keyed Tryd.underlying9

/-- the words as a datum -/
def wordsD : DataW Unit := .map (Lex.tbl.map (fun p => (.string p.1, .lit (.int .i64 p.2))))

/-- block m is the map of the words -/
def WMap (w : World) (m : Nat) : Prop := ∃ n, w.ownsMap Tryd.prog 9 (plainElem Tryd.prog 3) m n wordsD

theorem WMap.kept {w w' : World} {m : Nat} {row : Option Nat} (h : WMap w m) (hg : w.grownBy w' row) (hne : some m ≠ row) : WMap w' m := by
  obtain ⟨n, h⟩ := h
  exact ⟨n, h.kept hg hne⟩
theorem WMap.lt {w : World} {m : Nat} (h : WMap w m) : m < w.heap.size := by
  obtain ⟨n, h⟩ := h
  exact h.lt

theorem find_tbl (l : List UInt8) : ∀ t : List (List UInt8 × Int), (t.map (fun p => ((Lit.string p.1, DataW.lit (.int .i64 p.2)) : Lit × DataW Unit))).find? (fun p => p.1.sameKey (.string l)) = (t.find? (fun p => p.1 == l)).map (fun p => (.string p.1, .lit (.int .i64 p.2)))
  | [] => rfl
  | p :: r => by
    have ih := find_tbl l r
    simp only [List.map_cons, List.find?_cons, Lit.sameKey]
    cases p.1 == l
    · exact ih
    · rfl

theorem words_at (l : List UInt8) : wordsD.atKey (.string l) (.lit (.int .i64 0)) = .lit (.int .i64 (Lex.kindOf l)) := by
  unfold wordsD DataW.atKey Lex.kindOf Lex.look
  simp only [find_tbl]
  cases Lex.tbl.find? (fun p => p.1 == l) <;> rfl

theorem words_has (l : List UInt8) : Maps.has wordsD (.string l) = (Lex.look l).isSome := by
  have e : ∀ t : List (List UInt8 × Int), Maps.has (.map (t.map (fun p => ((Lit.string p.1, DataW.lit (.int .i64 p.2)) : Lit × DataW Unit)))) (.string l) = ((t.find? (fun p => p.1 == l)).map (·.2)).isSome := by
    intro t
    rw [Maps.has_eq]
    induction t with
    | nil => rfl
    | cons p r ih =>
      simp only [List.map_cons, List.any_cons, List.find?_cons, Lit.sameKey]
      cases p.1 == l
      · exact ih
      · rfl
  exact e Lex.tbl

theorem hold_insert {P : Program} {ops : Array Oper} {Q : Exit → Act → World → Prop} {d : Option Tmp} {t ty : TypeId} {m x v : Operand} {ps : String} {af : Array Edge} {g : Option (Nat × Bool)} {rest : List Oper} {a : Act} {w : World}
    (h : Hid (wpList P ops Q ({ dst := d, op := Op.insert t m x v, type := ty, pos := ps, after := af, guard := g } :: rest) a w)) : wpList P ops Q ({ dst := d, op := Op.insert t m x v, type := ty, pos := ps, after := af, guard := g } :: rest) a w := h

theorem insert_step (w : World) {ops : Array Oper} {rest : List Oper} {ty : TypeId} {ps : String} {af : Array Edge} {a : Act} {Q : Exit → Act → World → Prop} (kb : ByteArray) (z : Int) (b n : Nat) (D : DataW Unit)
    (hm : a.eval (.tmp 1) = .map (some b)) (hown : w.ownsMap Tryd.prog 9 (plainElem Tryd.prog 3) b n D) (hn : n < 100) (hs : kb.size ≤ 100) (hw : (Lit.int .i64 z).wf = true)
    (hK : ∀ w', w'.ownsMap Tryd.prog 9 (plainElem Tryd.prog 3) b (n + 1) (D.put (.string kb.data.toList) (.lit (.int .i64 z))) → w.mapTurned w' b → wpList Tryd.prog ops Q rest a w') :
    wpList Tryd.prog ops Q ({ dst := none, op := Op.insert 45 (.tmp 1) (.const (.string kb)) (.const (.int .i64 z)), type := ty, pos := ps, after := af, guard := none } :: rest) a w :=
  wpList_insert_own w rfl _ _ _ 45 rfl 9 3 lawK Tryd.underlying45 _ b n D hm hown (by unfold maxLen; omega) _ _ _ rfl rfl (keyOf_string_mk Tryd.underlying9 (by unfold maxLen; omega)) _ [] (plainElem_int Tryd.underlying3 hw) hK

set_option maxHeartbeats 4000000 in
theorem words_any (w : World) :
    Calls Tryd.prog 18 #[] w fun e w' => e = .returned (.map (some w.heap.size)) ∧ WMap w' w.heap.size ∧ w.grownBy w' none := by
  have hmm := @run_makeMap Tryd.prog
  have hown := World.ownsMap_made w Tryd.prog 9 (plainElem (H := Unit) Tryd.prog 3)
  have hgr := World.grownBy_alloc w (.map #[] 0) none
  go_enter Tryd.func18, Tryd.ntmps18
  go_wp2_with (with_reducible refine hold_insert ?_)
  refine Lib.hid ?_
  iterate 42 ((with_reducible refine insert_step _ _ _ w.heap.size _ _ ?_ hown ?_ ?_ ?_ ?_); (rfl); (decide); (decide); (decide); (intro w1 h1 h2); (replace hgr := hgr.andThen h2.grown (fun j e => .inl (by cases e; exact Nat.le_refl _))); (replace hown := h1); (clear h1 h2))
  go_wp2
  go_ret
  exact ⟨rfl, ⟨_, hown⟩, hgr⟩

end Go.Proofs.YtbiplgidlmbbkaaDoor
