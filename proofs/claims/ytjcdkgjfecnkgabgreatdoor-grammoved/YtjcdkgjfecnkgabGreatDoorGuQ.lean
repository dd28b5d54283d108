/- The plain mathematics of the grammar: every place that is told is a token's place; a node has an output. -/
import Derived.Test.YtjcdkgjfecnkgabGreatDoorMgK
namespace Go.Proofs.YtjcdkgjfecnkgabGreatDoor.Gram
open Go.RowKit
open Lex (Tk)

section
variable {T : List Tk} {α β : Type} (P : Int → Prop)
/-- what is wrong is told at a place of P; what was read is of G -/
def Bd (G : α → Prop) : PR α → Prop
  | .fuel => True
  | .bad a _ => P a
  | .ok x _ => G x
variable {P} {G : α → Prop} {H : β → Prop}
theorem Bd.bind {r : PR α} {g : α → Nat → PR β} (h : Bd P G r) (hg : ∀ x j, G x → Bd P H (g x j)) : Bd P H (r.bind g) := by
  cases r with
  | fuel => trivial
  | bad => exact h
  | ok x j => exact hg x j h
theorem Bd.need (hP : ∀ i, P ((tk T i).at_ : Int)) {i : Nat} {b : Bool} {r : PR α} (h : Bd P G r) : Bd P G (need T i b r) := by
  unfold Gram.need
  split
  · exact h
  · exact hP i
theorem Bd.room (hP : ∀ i, P ((tk T i).at_ : Int)) {i a b : Nat} {r : PR α} (h : Bd P G r) : Bd P G (room T i a b r) := by
  unfold Gram.room
  split
  · exact hP i
  · exact h
theorem Bd.ite {p : Prop} [Decidable p] {r s : PR α} (h : Bd P G r) (h2 : Bd P G s) : Bd P G (if p then r else s) := by
  split
  · exact h
  · exact h2
theorem Bd.weak {r : PR α} (h : Bd P G r) : Bd P (fun _ => True) r := by
  cases r with
  | fuel => trivial
  | bad => exact h
  | ok => trivial
theorem expect_bd (hP : ∀ i, P ((tk T i).at_ : Int)) (i : Nat) (s : B) : Bd P (fun t => P (t.at_ : Int)) (expect T i s) := Bd.need hP (hP i)
theorem name_bd (hP : ∀ i, P ((tk T i).at_ : Int)) (i : Nat) : Bd P (fun _ => True) (name T i) := Bd.need hP trivial
theorem size_bd (hP : ∀ i, P ((tk T i).at_ : Int)) (i : Nat) : Bd P (fun _ => True) (size T i) := Bd.need hP trivial
theorem kind_bd (hP : ∀ i, P ((tk T i).at_ : Int)) (i : Nat) : Bd P (fun _ => True) (kind T i) := Bd.need hP trivial
theorem edge_bd (hP : ∀ i, P ((tk T i).at_ : Int)) (i : Nat) : Bd P (fun _ => True) (edge T i) :=
  Bd.ite ((name_bd hP _).bind fun _ _ _ => trivial) ((name_bd hP _).bind fun _ _ _ => trivial)
theorem indexed_bd (hP : ∀ i, P ((tk T i).at_ : Int)) : ∀ f e i, Bd P (fun _ => True) (indexed T f e i)
  | 0, _, _ => by unfold indexed; trivial
  | f + 1, e, i => by
    unfold indexed
    exact Bd.ite ((size_bd hP _).bind fun _ _ _ => (expect_bd hP _ _).bind fun _ _ _ => indexed_bd hP f _ _) trivial
def BdE (T : List Tk) (P : Int → Prop) (f : Nat) : Prop :=
  (∀ d i, Bd P (fun _ => True) (exp T f d i)) ∧ (∀ d lv i, Bd P (fun _ => True) (read T f d lv i)) ∧ (∀ d lv a i, Bd P (fun _ => True) (lefts T f d lv a i)) ∧ (∀ d i, Bd P (fun _ => True) (prefixed T f d i)) ∧
  (∀ d i, Bd P (fun _ => True) (prim T f d i)) ∧ (∀ d i, Bd P (fun _ => True) (args T f d i)) ∧ (∀ d acc i, Bd P (fun _ => True) (exps T f d acc i)) ∧ (∀ d t i, Bd P (fun _ => True) (form T f d t i))
theorem bdE (hP : ∀ i, P ((tk T i).at_ : Int)) : ∀ f, BdE T P f
  | 0 => by
    refine ⟨?_, ?_, ?_, ?_, ?_, ?_, ?_, ?_⟩ <;> intros
    · unfold exp; trivial
    · unfold read; trivial
    · unfold lefts; trivial
    · unfold prefixed; trivial
    · unfold prim; trivial
    · unfold args; trivial
    · unfold exps; trivial
    · unfold form; trivial
  | f + 1 => by
    obtain ⟨hE, hR, hL, hX, hQ, hA, hS, hF⟩ := bdE hP f
    refine ⟨?_, ?_, ?_, ?_, ?_, ?_, ?_, ?_⟩
    · intro d i
      unfold exp
      exact Bd.need hP (Bd.room hP (hR _ _ _))
    · intro d lv i
      unfold read
      refine Bd.ite ?_ (Bd.ite ?_ (Bd.ite ?_ (Bd.ite ?_ ?_)))
      · refine (hR _ _ _).bind fun a j _ => ?_
        rcases sign T j lv with _ | s
        · trivial
        · exact (hR _ _ _).bind fun _ _ _ => trivial
      · refine (hR _ _ _).bind fun a j _ => ?_
        rcases sign T j lv with _ | s
        · trivial
        · exact (hR _ _ _).bind fun _ _ _ => trivial
      · exact (hR _ _ _).bind fun _ _ _ => hL _ _ _ _
      · exact Bd.room hP (hX _ _)
      · exact (hQ _ _).bind fun _ _ _ => indexed_bd hP _ _ _
    · intro d lv a i
      unfold lefts
      rcases sign T i lv with _ | s
      · trivial
      · exact (hR _ _ _).bind fun _ _ _ => hL _ _ _ _
    · intro d i
      unfold prefixed
      exact Bd.ite ((hR _ _ _).bind fun _ _ _ => trivial) (Bd.ite ((hR _ _ _).bind fun _ _ _ => trivial) (Bd.ite (indexed_bd hP _ _ _) ((hR _ _ _).bind fun _ _ _ => trivial)))
    · intro d i
      unfold prim
      exact Bd.ite (Bd.need hP trivial) (Bd.ite (Bd.ite ((hA _ _).bind fun _ _ _ => trivial) trivial) (Bd.ite ((hE _ _).bind fun _ _ _ => (expect_bd hP _ _).bind fun _ _ _ => trivial) (Bd.need hP (hF _ _ _))))
    · intro d i
      unfold args
      refine (expect_bd hP _ _).bind fun _ j _ => ?_
      exact Bd.bind (G := fun _ => True) (Bd.ite trivial (hS _ _ _)) fun _ _ _ => (expect_bd hP _ _).bind fun _ _ _ => trivial
    · intro d acc i
      unfold exps
      exact Bd.need hP (Bd.room hP ((hE _ _).bind fun _ _ _ => Bd.ite (hS _ _ _) trivial))
    · intro d t i
      unfold form
      refine Bd.ite trivial (Bd.ite trivial (Bd.ite ?_ (Bd.ite ?_ (Bd.ite ?_ (Bd.ite ?_ (Bd.ite ?_ (Bd.ite ?_ (Bd.ite ?_ (Bd.ite ?_ (Bd.ite ?_ ?_))))))))))
      all_goals
        (repeat (first
          | trivial
          | refine (expect_bd hP _ _).bind fun _ _ _ => ?_
          | refine (name_bd hP _).bind fun _ _ _ => ?_
          | refine (size_bd hP _).bind fun _ _ _ => ?_
          | refine (kind_bd hP _).bind fun _ _ _ => ?_
          | refine (edge_bd hP _).bind fun _ _ _ => ?_
          | refine (hE _ _).bind fun _ _ _ => ?_
          | refine (hS _ _ _).bind fun _ _ _ => ?_
          | refine (hA _ _).bind fun _ _ _ => ?_))
/-- variables: each at a place of P -/
def VarsOk (P : Int → Prop) (l : List Var) : Prop := ∀ v ∈ l, P v.at_
theorem names_bd (hP : ∀ i, P ((tk T i).at_ : Int)) : ∀ f acc has i, (∀ n ∈ acc, P n.2) → Bd P (fun l => l ≠ [] ∧ ∀ n ∈ l, P n.2) (names T f acc has i)
  | 0, _, _, _, _ => by unfold names; trivial
  | f + 1, acc, has, i, h => by
    unfold names
    have h2 : ∀ n ∈ acc ++ [((tk T i).text, ((tk T i).at_ : Int))], P n.2 := by
      intro n hn
      rcases List.mem_append.1 hn with hn | hn
      · exact h n hn
      · rw [List.mem_singleton] at hn; subst hn; exact hP i
    exact Bd.need hP (Bd.room hP (Bd.ite (names_bd hP f _ _ _ h2) ⟨by simp, h2⟩))
theorem ty_bd (hP : ∀ i, P ((tk T i).at_ : Int)) (i : Nat) : Bd P (fun _ => True) (ty T i) := by
  unfold ty
  exact (kind_bd hP _).bind fun _ _ _ => Bd.ite ((size_bd hP _).bind fun _ _ _ => trivial) trivial
theorem decl_bd (hP : ∀ i, P ((tk T i).at_ : Int)) (f : Nat) (vars : List Var) (i : Nat) (h : VarsOk P vars) : Bd P (fun l => l ≠ [] ∧ VarsOk P l) (decl T f vars i) := by
  unfold decl
  refine (names_bd hP f [] _ i (fun _ h => by cases h)).bind fun ns j hn => (expect_bd hP _ _).bind fun _ _ _ => (ty_bd hP _).bind fun t m _ => ⟨by simp [hn.1], ?_⟩
  intro v hv
  rcases List.mem_append.1 hv with hv | hv
  · exact h v hv
  · obtain ⟨n, hn1, rfl⟩ := List.mem_map.1 hv; exact hn.2 n hn1
theorem decls_bd (hP : ∀ i, P ((tk T i).at_ : Int)) : ∀ f vars i, VarsOk P vars → Bd P (fun l => l ≠ [] ∧ VarsOk P l) (decls T f vars i)
  | 0, _, _, _ => by unfold decls; trivial
  | f + 1, vars, i, h => by
    unfold decls
    exact (decl_bd hP f _ _ h).bind fun _ _ hv => Bd.ite (decls_bd hP f _ _ hv.2) hv
theorem edges_bd (hP : ∀ i, P ((tk T i).at_ : Int)) : ∀ f acc i, Bd P (fun _ => True) (edges T f acc i)
  | 0, _, _ => by unfold edges; trivial
  | f + 1, acc, i => by
    unfold edges
    exact Bd.need hP (Bd.room hP ((edge_bd hP _).bind fun _ _ _ => Bd.ite (edges_bd hP f _ _) trivial))
theorem local_bd (hP : ∀ i, P ((tk T i).at_ : Int)) (f : Nat) (vars : List Var) (i : Nat) (h : VarsOk P vars) : Bd P (VarsOk P) (local_ T f vars i) := by
  unfold local_
  refine (decl_bd hP f _ _ h).bind fun vs j hv => ?_
  refine Bd.bind (G := VarsOk P) (Bd.ite ((edges_bd hP _ _ _).bind fun c k _ => ?_) hv.2) fun _ _ hq => (expect_bd hP _ _).bind fun _ _ _ => hq
  intro v hm
  rcases List.mem_append.1 hm with hm | hm
  · exact hv.2 v (List.mem_of_mem_take hm)
  · obtain ⟨x, hx, rfl⟩ := List.mem_map.1 hm; exact hv.2 x (List.mem_of_mem_drop hx)
theorem localsL_bd (hP : ∀ i, P ((tk T i).at_ : Int)) : ∀ f vars i, VarsOk P vars → Bd P (fun _ => True) (localsL T f vars i)
  | 0, _, _, _ => by unfold localsL; trivial
  | f + 1, vars, i, h => by
    unfold localsL
    exact (local_bd hP f _ _ h).bind fun _ _ hv => Bd.ite (localsL_bd hP f _ _ hv) trivial
theorem locals_bd (hP : ∀ i, P ((tk T i).at_ : Int)) (f i : Nat) : Bd P (fun _ => True) (locals T f i) := by
  unfold locals
  exact Bd.ite (localsL_bd hP f _ _ (fun _ h => by cases h)) trivial
theorem lhs_bd (hP : ∀ i, P ((tk T i).at_ : Int)) : ∀ f acc i, Bd P (fun _ => True) (lhs T f acc i)
  | 0, _, _ => by unfold lhs; trivial
  | f + 1, acc, i => by
    unfold lhs
    exact Bd.need hP (Bd.room hP ((name_bd hP _).bind fun _ _ _ => Bd.ite (lhs_bd hP f _ _) trivial))
theorem equation_bd (hP : ∀ i, P ((tk T i).at_ : Int)) (f d i : Nat) : Bd P (fun _ => True) (equation T f d i) := by
  unfold equation
  exact Bd.bind (G := fun _ => True) (Bd.ite ((lhs_bd hP _ _ _).bind fun _ _ _ => (expect_bd hP _ _).bind fun _ _ _ => trivial) ((name_bd hP _).bind fun _ _ _ => trivial)) fun _ _ _ => (expect_bd hP _ _).bind fun _ _ _ => ((bdE hP f).1 _ _).bind fun _ _ _ => (expect_bd hP _ _).bind fun _ _ _ => trivial
theorem trans_bd (hP : ∀ i, P ((tk T i).at_ : Int)) (f d i : Nat) : Bd P (fun _ => True) (trans T f d i) := by
  unfold trans
  exact ((bdE hP f).1 _ _).bind fun _ _ _ => Bd.bind (G := fun _ => True) (Bd.ite trivial ((expect_bd hP _ _).bind fun _ _ _ => trivial)) fun _ _ _ => (name_bd hP _).bind fun _ _ _ => (expect_bd hP _ _).bind fun _ _ _ => trivial
theorem transs_bd (hP : ∀ i, P ((tk T i).at_ : Int)) (w : B) (d : Nat) : ∀ f acc i, Bd P (fun _ => True) (transs T w d f acc i)
  | 0, _, _ => by unfold transs; trivial
  | f + 1, acc, i => by
    unfold transs
    exact Bd.ite (Bd.room hP ((trans_bd hP _ _ _).bind fun _ _ _ => transs_bd hP w d f _ _)) trivial
def BdI (T : List Tk) (P : Int → Prop) (f : Nat) : Prop := (∀ d acc i, Bd P (fun _ => True) (items T f d acc i)) ∧ (∀ d i, Bd P (fun _ => True) (item T f d i)) ∧ (∀ d acc i, Bd P (fun _ => True) (states T f d acc i)) ∧ (∀ d i, Bd P (fun _ => True) (state T f d i))
theorem bdI (hP : ∀ i, P ((tk T i).at_ : Int)) : ∀ f, BdI T P f
  | 0 => by
    refine ⟨?_, ?_, ?_, ?_⟩ <;> intros
    · unfold items; trivial
    · unfold item; trivial
    · unfold states; trivial
    · unfold state; trivial
  | f + 1 => by
    obtain ⟨hIs, hI, hSs, hS⟩ := bdI hP f
    refine ⟨?_, ?_, ?_, ?_⟩
    · intro d acc i
      unfold items
      exact Bd.ite (Bd.room hP ((hI _ _).bind fun _ _ _ => hIs _ _ _)) trivial
    · intro d i
      unfold item
      exact Bd.ite (Bd.room hP (Bd.need hP ((hSs _ _ _).bind fun _ _ _ => (expect_bd hP _ _).bind fun _ _ _ => trivial))) (equation_bd hP _ _ _)
    · intro d acc i
      unfold states
      exact Bd.ite (Bd.room hP ((hS _ _).bind fun _ _ _ => hSs _ _ _)) trivial
    · intro d i
      unfold state
      exact (name_bd hP _).bind fun _ _ _ => (transs_bd hP _ _ _ _ _).bind fun _ _ _ => (locals_bd hP _ _).bind fun _ _ _ => (expect_bd hP _ _).bind fun _ _ _ => Bd.need hP ((hIs _ _ _).bind fun _ _ _ => (transs_bd hP _ _ _ _ _).bind fun _ _ _ => trivial)
/-- a node: at a place of P, with an output at one -/
def NodeOk (P : Int → Prop) (n : Node) : Prop := P n.at_ ∧ ∃ v r, n.outs = v :: r ∧ P v.at_
theorem node_bd (hP : ∀ i, P ((tk T i).at_ : Int)) (f i : Nat) : Bd P (NodeOk P) (node T f i) := by
  unfold node
  refine (expect_bd hP _ _).bind fun t _ ht => (name_bd hP _).bind fun _ _ _ => (expect_bd hP _ _).bind fun _ _ _ => ?_
  refine Bd.bind (G := fun _ => True) (Bd.ite trivial ?_) fun _ _ _ => (expect_bd hP _ _).bind fun _ _ _ => (expect_bd hP _ _).bind fun _ _ _ => (expect_bd hP _ _).bind fun _ _ _ => (decls_bd hP f [] _ (fun _ h => by cases h)).bind fun outs _ ho => (expect_bd hP _ _).bind fun _ _ _ => (locals_bd hP _ _).bind fun _ _ _ => (expect_bd hP _ _).bind fun _ _ _ => Bd.need hP (((bdI hP f).1 _ _ _).bind fun _ _ _ => (expect_bd hP _ _).bind fun _ _ _ => ?_)
  · exact Bd.weak (decls_bd hP f [] _ (fun _ h => by cases h))
  · refine ⟨ht, ?_⟩
    cases outs with
    | nil => exact absurd rfl ho.1
    | cons v r => exact ⟨v, r, rfl, ho.2 v List.mem_cons_self⟩
theorem nodes_bd (hP : ∀ i, P ((tk T i).at_ : Int)) : ∀ f acc i, (∀ n ∈ acc, NodeOk P n) → Bd P (fun l => ∀ n ∈ l, NodeOk P n) (nodes T f acc i)
  | 0, _, _, _ => by unfold nodes; trivial
  | f + 1, acc, i, h => by
    unfold nodes
    refine Bd.ite (Bd.room hP ((node_bd hP _ _).bind fun x _ hx => nodes_bd hP f _ _ ?_)) h
    intro n hn
    rcases List.mem_append.1 hn with hn | hn
    · exact h n hn
    · rw [List.mem_singleton] at hn; subst hn; exact hx
theorem program_bd (hP : ∀ i, P ((tk T i).at_ : Int)) (f : Nat) : Bd P (fun l => ∀ n ∈ l, NodeOk P n) (program T f) := by
  unfold program
  exact (nodes_bd hP f [] 0 (fun _ h => by cases h)).bind fun _ _ h => Bd.need hP h
end
end Go.Proofs.YtjcdkgjfecnkgabGreatDoor.Gram
