/- As GuB, of declarations, items, states, nodes, programs; and what that says of Parse. -/
import Derived.Test.YtjcdkgjfecnkgabGreatDoorGuB
namespace Go.Proofs.YtjcdkgjfecnkgabGreatDoor.Gram
open Go.RowKit
open Lex (Tk)

section
variable {T : List Tk} {c : Nat}
theorem Sh.bindE {α β γ δ : Type} {g : α → β} {k : γ → δ} {r' : PR β} {r : PR α} {F' : β → Nat → PR δ} {F : α → Nat → PR γ} (h : Sh T c g r' r) (hF : ∀ x i, r = .ok x i → i < T.length → Sh T c k (F' (g x) i) (F x i)) : Sh T c k (r'.bind F') (r.bind F) := by
  cases r' <;> cases r <;> first | exact h.elim | skip
  · obtain ⟨rfl, rfl, h3⟩ := h; exact hF _ _ rfl h3
  · exact h
  · trivial
def nfar (c : Nat) (n : B × Int) : B × Int := (n.1, n.2 + c)
variable (hE : Ends T)
include hE
theorem exp_far (f d i : Nat) (hi : i < T.length) : Sh T c (Exp.far c) (exp (T.map (Tk.far c)) f d i) (exp T f d i) := (farE hE f).1 d i hi
theorem names_far : ∀ (f : Nat) (acc : List (B × Int)) (has i : Nat), i < T.length → Sh T c (List.map (nfar c)) (names (T.map (Tk.far c)) f (acc.map (nfar c)) has i) (names T f acc has i)
  | 0, _, _, _, _ => by unfold names; trivial
  | f + 1, acc, has, i, hi => by
    rw [names, names, isName_far, List.length_map, sees_far, tk_text, tk_at hi]
    rw [show acc.map (nfar c) ++ [((tk T i).text, ((tk T i).at_ : Int) + c)] = (acc ++ [((tk T i).text, ((tk T i).at_ : Int))]).map (nfar c) by simp [nfar]]
    refine Sh.need hi fun h1 => Sh.room hi ?_
    have h2 := hE.name hi h1
    exact Sh.ite (fun h3 => names_far f _ _ _ (hE.sees h2 (by decide) h3)) fun _ => Sh.ok rfl h2
theorem ty_far {i : Nat} (hi : i < T.length) : Sh T c id (ty (T.map (Tk.far c)) i) (ty T i) := by
  unfold ty
  refine (kind_far hE hi).bind fun k j hj => ?_
  rw [sees_far]
  refine Sh.ite (fun h3 => ?_) fun _ => Sh.ok rfl hj
  exact (size_far hE (hE.sees hj (by decide) h3)).bind fun n m hm => Sh.ok rfl hm
theorem decl_far (f : Nat) (vars : List Var) (i : Nat) (hi : i < T.length) : Sh T c (List.map (Var.far c)) (decl (T.map (Tk.far c)) f (vars.map (Var.far c)) i) (decl T f vars i) := by
  unfold decl
  rw [List.length_map]
  refine (names_far hE f [] _ i hi).bind fun ns j hj => (expect_far hE _ (by decide) hj).bind fun _ k hk => (ty_far hE hk).bind fun t m hm => Sh.ok ?_ hm
  simp [Var.far, nfar, Function.comp_def]
theorem decls_far : ∀ (f : Nat) (vars : List Var) (i : Nat), i < T.length → Sh T c (List.map (Var.far c)) (decls (T.map (Tk.far c)) f (vars.map (Var.far c)) i) (decls T f vars i)
  | 0, _, _, _ => by unfold decls; trivial
  | f + 1, vars, i, hi => by
    rw [decls, decls]
    refine (decl_far hE f vars i hi).bind fun vs j hj => ?_
    rw [sees_far]
    exact Sh.ite (fun h3 => decls_far f _ _ (hE.sees hj (by decide) h3)) fun _ => Sh.ok rfl hj
theorem edges_far : ∀ (f : Nat) (acc : List Edge) (i : Nat), i < T.length → Sh T c id (edges (T.map (Tk.far c)) f acc i) (edges T f acc i)
  | 0, _, _, _ => by unfold edges; trivial
  | f + 1, acc, i, hi => by
    rw [edges, edges, isName_far, sees_far]
    refine Sh.need hi fun _ => Sh.room hi ?_
    refine (edge_far hE hi).bind fun g j hj => ?_
    rw [sees_far]
    exact Sh.ite (fun h3 => edges_far f _ _ (hE.sees hj (by decide) h3)) fun _ => Sh.ok rfl hj
theorem local_far (f : Nat) (vars : List Var) (i : Nat) (hi : i < T.length) : Sh T c (List.map (Var.far c)) (local_ (T.map (Tk.far c)) f (vars.map (Var.far c)) i) (local_ T f vars i) := by
  unfold local_
  refine (decl_far hE f vars i hi).bind fun vs j hj => ?_
  rw [sees_far, List.length_map]
  refine Sh.bind (g := List.map (Var.far c)) (Sh.ite (fun h3 => ?_) fun _ => Sh.ok rfl hj) fun vs k hk => (expect_far hE _ (by decide) hk).bind fun _ m hm => Sh.ok rfl hm
  refine (edges_far hE f [] _ (hE.sees hj (by decide) h3)).bind fun cl k hk => Sh.ok ?_ hk
  simp [Var.far, Function.comp_def, List.map_take, List.map_drop]
theorem localsL_far : ∀ (f : Nat) (vars : List Var) (i : Nat), i < T.length → Sh T c (List.map (Var.far c)) (localsL (T.map (Tk.far c)) f (vars.map (Var.far c)) i) (localsL T f vars i)
  | 0, _, _, _ => by unfold localsL; trivial
  | f + 1, vars, i, hi => by
    rw [localsL, localsL]
    refine (local_far hE f vars i hi).bind fun vs j hj => ?_
    rw [isName_far]
    exact Sh.ite (fun _ => localsL_far f _ _ hj) fun _ => Sh.ok rfl hj
theorem locals_far (f i : Nat) (hi : i < T.length) : Sh T c (List.map (Var.far c)) (locals (T.map (Tk.far c)) f i) (locals T f i) := by
  unfold locals
  rw [sees_far]
  exact Sh.ite (fun h3 => localsL_far hE f [] _ (hE.sees hi (by decide) h3)) fun _ => Sh.ok rfl hi
omit hE in
theorem lhs_ne : ∀ (f : Nat) (acc : List B) (i : Nat) (l : List B) (j : Nat), lhs T f acc i = .ok l j → l ≠ []
  | 0, _, _, _, _, h => by unfold lhs at h; cases h
  | f + 1, acc, i, l, j, h => by
    unfold lhs need room fail at h
    split at h
    · split at h
      · cases h
      · cases hn : name T i with
        | ok x k =>
          rw [hn] at h
          simp only [PR.bind] at h
          split at h
          · exact lhs_ne f _ _ _ _ h
          · cases h; simp
        | bad => rw [hn] at h; cases h
        | fuel => rw [hn] at h; cases h
    · cases h
theorem lhs_far : ∀ (f : Nat) (acc : List B) (i : Nat), i < T.length → Sh T c id (lhs (T.map (Tk.far c)) f acc i) (lhs T f acc i)
  | 0, _, _, _ => by unfold lhs; trivial
  | f + 1, acc, i, hi => by
    rw [lhs, lhs, isName_far]
    refine Sh.need hi fun _ => Sh.room hi ?_
    refine (name_far hE hi).bind fun g j hj => ?_
    rw [sees_far]
    exact Sh.ite (fun h3 => lhs_far f _ _ (hE.sees hj (by decide) h3)) fun _ => Sh.ok rfl hj
theorem equation_far (f d i : Nat) (hi : i < T.length) : Sh T c (Item.far c) (equation (T.map (Tk.far c)) f d i) (equation T f d i) := by
  unfold equation
  rw [sees_far, tk_at hi]
  refine Sh.bindE (g := id) (Sh.ite (fun h3 => ?_) fun _ => (name_far hE hi).bind fun n j hj => Sh.ok rfl hj) fun ns j hns hj => ?_
  · exact (lhs_far hE f [] _ (hE.sees hi (by decide) h3)).bind fun ns j hj => (expect_far hE _ (by decide) hj).bind fun _ k hk => Sh.ok rfl hk
  · have hne : ns ≠ [] := by
      split at hns
      · cases hl : lhs T f [] (i + 1) with
        | ok l q =>
          rw [hl] at hns
          simp only [PR.bind] at hns
          cases he : expect T q [41] with
          | ok x y => rw [he] at hns; cases hns; exact lhs_ne _ _ _ _ _ hl
          | bad => rw [he] at hns; cases hns
          | fuel => rw [he] at hns; cases hns
        | bad => rw [hl] at hns; cases hns
        | fuel => rw [hl] at hns; cases hns
      · cases hl : name T i with
        | ok l q => rw [hl] at hns; cases hns; simp
        | bad => rw [hl] at hns; cases hns
        | fuel => rw [hl] at hns; cases hns
    refine (expect_far hE _ (by decide) hj).bind fun _ j hj => (exp_far hE f d j hj).bind fun e j hj => (expect_far hE _ (by decide) hj).bind fun _ j hj => Sh.ok ?_ hj
    cases ns with
    | nil => exact absurd rfl hne
    | cons a r => simp only [Item.far, sfarL, id]
theorem trans_far (f d i : Nat) (hi : i + 1 < T.length) : Sh T c (Trans.far c) (trans (T.map (Tk.far c)) f d i) (trans T f d i) := by
  unfold trans
  refine (exp_far hE f d _ hi).bind fun cn j hj => ?_
  rw [sees_far]
  refine Sh.bind (g := id) (Sh.ite (fun h3 => Sh.ok rfl (hE.sees hj (by decide) h3)) fun _ => (expect_far hE _ (by decide) hj).bind fun _ k hk => Sh.ok rfl hk) fun ct k hk => ?_
  refine (name_far hE hk).bind fun n j hj => (expect_far hE _ (by decide) hj).bind fun _ k hk => Sh.ok ?_ hk
  simp [Trans.far, Exp.at_far]
theorem transs_far (w : B) (hw : w ≠ []) (d : Nat) : ∀ (f : Nat) (acc : List Trans) (i : Nat), i < T.length → Sh T c (List.map (Trans.far c)) (transs (T.map (Tk.far c)) w d f (acc.map (Trans.far c)) i) (transs T w d f acc i)
  | 0, _, _, _ => by unfold transs; trivial
  | f + 1, acc, i, hi => by
    rw [transs, transs, sees_far, List.length_map]
    refine Sh.ite (fun h1 => Sh.room hi ?_) fun _ => Sh.ok rfl hi
    refine (trans_far hE f d i (hE.sees hi hw h1)).bind fun t j hj => ?_
    rw [show acc.map (Trans.far c) ++ [t.far c] = (acc ++ [t]).map (Trans.far c) by simp]
    exact transs_far w hw d f _ j hj
theorem Ends.item {i : Nat} (hi : i < T.length) (h : seesItem T i = true) : i + 1 < T.length := by
  unfold seesItem at h
  simp only [Bool.or_eq_true] at h
  rcases h with (h | h) | h
  · exact hE.name hi h
  · exact hE.sees hi (by decide) h
  · exact hE.sees hi (by decide) h
omit hE in
def FarI (T : List Tk) (c f : Nat) : Prop :=
  (∀ d acc i, i < T.length → Sh T c (List.map (Item.far c)) (items (T.map (Tk.far c)) f d (acc.map (Item.far c)) i) (items T f d acc i)) ∧
  (∀ d i, i < T.length → Sh T c (Item.far c) (item (T.map (Tk.far c)) f d i) (item T f d i)) ∧
  (∀ d acc i, i < T.length → Sh T c (List.map (State.far c)) (states (T.map (Tk.far c)) f d (acc.map (State.far c)) i) (states T f d acc i)) ∧
  (∀ d i, i + 1 < T.length → Sh T c (State.far c) (state (T.map (Tk.far c)) f d i) (state T f d i))
theorem farI : ∀ f, FarI T c f
  | 0 => by
    refine ⟨?_, ?_, ?_, ?_⟩ <;> intros
    · unfold items; trivial
    · unfold item; trivial
    · unfold states; trivial
    · unfold state; trivial
  | f + 1 => by
    obtain ⟨hIs, hI, hSs, hS⟩ := farI f
    refine ⟨?_, ?_, ?_, ?_⟩
    · intro d acc i hi
      rw [items, items, seesItem_far, List.length_map]
      refine Sh.ite (fun h1 => Sh.room hi ?_) fun _ => Sh.ok rfl hi
      refine (hI d i hi).bind fun t j hj => ?_
      rw [show acc.map (Item.far c) ++ [t.far c] = (acc ++ [t]).map (Item.far c) by simp]
      exact hIs d _ j hj
    · intro d i hi
      rw [item, item]
      simp only [sees_far]
      refine Sh.ite (fun h1 => Sh.room hi ?_) fun _ => equation_far hE f d i hi
      have h2 := hE.sees hi (by decide) h1
      refine Sh.need h2 fun h3 => ?_
      refine (hSs _ [] _ h2).bind fun ss j hj => (expect_far hE _ (by decide) hj).bind fun _ k hk => Sh.ok ?_ hk
      rw [tk_at hi]
      simp only [Item.far, sfarL_map]
    · intro d acc i hi
      rw [states, states, sees_far, List.length_map]
      refine Sh.ite (fun h1 => Sh.room hi ?_) fun _ => Sh.ok rfl hi
      refine (hS d i (hE.sees hi (by decide) h1)).bind fun t j hj => ?_
      rw [show acc.map (State.far c) ++ [t.far c] = (acc ++ [t]).map (State.far c) by simp]
      exact hSs d _ j hj
    · intro d i hi
      rw [state, state]
      refine (name_far hE hi).bind fun n j hj => (transs_far hE _ (by decide) d f [] j hj).bind fun us k hk => (locals_far hE f k hk).bind fun ls m hm => (expect_far hE _ (by decide) hm).bind fun _ q hq => ?_
      rw [seesItem_far]
      refine Sh.need hq fun _ => ?_
      refine (hIs d [] q hq).bind fun its r hr => (transs_far hE _ (by decide) d f [] r hr).bind fun ut v hv => Sh.ok ?_ hv
      rw [tk_at (by omega)]
      simp only [State.far, ifarL_map, id]
theorem node_far (f i : Nat) (hi : i < T.length) : Sh T c (Node.far c) (node (T.map (Tk.far c)) f i) (node T f i) := by
  unfold node
  refine (expect_far hE _ (by decide) hi).bind fun t j a1 => (name_far hE a1).bind fun n k a2 => (expect_far hE _ (by decide) a2).bind fun _ j a3 => ?_
  rw [sees_far]
  refine Sh.bind (g := List.map (Var.far c)) (Sh.ite (fun _ => Sh.ok rfl a3) fun _ => decls_far hE f [] _ a3) fun ins j a4 => ?_
  refine (expect_far hE _ (by decide) a4).bind fun _ j a5 => (expect_far hE _ (by decide) a5).bind fun _ j a6 => (expect_far hE _ (by decide) a6).bind fun _ j a7 => ?_
  refine (decls_far hE f [] _ a7).bind fun outs j a8 => (expect_far hE _ (by decide) a8).bind fun _ j a9 => (locals_far hE f j a9).bind fun ls j a10 => (expect_far hE _ (by decide) a10).bind fun _ j a11 => ?_
  rw [seesItem_far]
  refine Sh.need a11 fun _ => ?_
  refine ((farI hE f).1 0 [] j a11).bind fun its j a12 => (expect_far hE _ (by decide) a12).bind fun _ j a13 => Sh.ok ?_ a13
  simp [Node.far, Tk.far]
theorem nodes_far : ∀ (f : Nat) (acc : List Node) (i : Nat), i < T.length → Sh T c (List.map (Node.far c)) (nodes (T.map (Tk.far c)) f (acc.map (Node.far c)) i) (nodes T f acc i)
  | 0, _, _, _ => by unfold nodes; trivial
  | f + 1, acc, i, hi => by
    rw [nodes, nodes, sees_far, List.length_map]
    refine Sh.ite (fun h1 => Sh.room hi ?_) fun _ => Sh.ok rfl hi
    refine (node_far hE f i hi).bind fun t j hj => ?_
    rw [show acc.map (Node.far c) ++ [t.far c] = (acc ++ [t]).map (Node.far c) by simp]
    exact nodes_far f _ j hj
theorem program_far (f : Nat) (h0 : 0 < T.length) : Sh T c (List.map (Node.far c)) (program (T.map (Tk.far c)) f) (program T f) := by
  unfold program
  refine (nodes_far hE f [] 0 h0).bind fun ns j hj => ?_
  rw [tk_kind]
  exact Sh.need hj fun _ => Sh.ok rfl hj
end
def Res.far (c : Nat) : Res → Res
  | .ok l => .ok (l.map (Node.far c))
  | .bad a e => .bad (a + c) e
  | .fuel => .fuel
/-- Parse of tokens further on -/
theorem parse_of_far {s t : B} {c : Nat} (ht : Lex.tokens t = (Lex.tokens s).far c) (hE : ∀ T, Lex.tokens s = .ok T → Ends T ∧ 0 < T.length) : parse t = (parse s).far c := by
  unfold parse
  rw [ht]
  cases hs : Lex.tokens s with
  | err a e => simp [Lex.Res.far, Res.far]
  | ok T =>
    obtain ⟨h1, h2⟩ := hE T hs
    have h := program_far (c := c) h1 (20 * T.length + 100) h2
    simp only [Lex.Res.far, List.length_map]
    cases h3 : program (T.map (Tk.far c)) (20 * T.length + 100) <;> cases h4 : program T (20 * T.length + 100) <;> rw [h3, h4] at h <;> first | exact h.elim | skip
    · obtain ⟨rfl, _, _⟩ := h; rfl
    · obtain ⟨rfl, rfl⟩ := h; rfl
    · rfl
end Go.Proofs.YtjcdkgjfecnkgabGreatDoor.Gram
