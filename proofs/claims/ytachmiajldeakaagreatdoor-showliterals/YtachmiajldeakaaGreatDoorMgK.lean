/- My texts GuA GuD GuH, joined. -/
import Derived.Test.YtachmiajldeakaaGreatDoorMgB
import Derived.Test.YtachmiajldeakaaGreatDoorMgJ
import Derived.Test.YtachmiajldeakaaGreatDoorRows
import Derived.Stop.LaidErr
import Derived.Stop.Joined
import Derived.LaidMore
import Derived.LaidHandle
import Derived.Lay
import Derived.ProofKit
set_option linter.unusedVariables false
/- The plain mathematics of the grammar: twenty steps a token and a hundred are enough. -/
namespace Go.Proofs.YtachmiajldeakaaGreatDoor.Gram
open Go.RowKit
open Lex (Tk)

/-- it had enough steps, and if it read something it stands at m or further on, within the tokens -/
def Adv {α : Type} (T : List Tk) (m : Nat) : PR α → Prop
  | .fuel => False
  | .bad _ _ => True
  | .ok _ j => m ≤ j ∧ j ≤ T.length

section
variable {T : List Tk} {α β : Type}
theorem Adv.bind {m n : Nat} {r : PR α} {g : α → Nat → PR β} (h : Adv T m r) (hg : ∀ x j, m ≤ j → j ≤ T.length → Adv T n (g x j)) : Adv T n (r.bind g) := by
  cases r with
  | fuel => exact h.elim
  | bad => trivial
  | ok x j => exact hg x j h.1 h.2
theorem Adv.mono {m n : Nat} {r : PR α} (hn : n ≤ m) (h : Adv T m r) : Adv T n r := by
  cases r with
  | fuel => exact h.elim
  | bad => trivial
  | ok x j => exact ⟨Nat.le_trans hn h.1, h.2⟩
theorem Adv.ok {m j : Nat} {x : α} (h : m ≤ j) (h2 : j ≤ T.length) : Adv T m (PR.ok x j) := ⟨h, h2⟩
theorem Adv.need {m i : Nat} {b : Bool} {r : PR α} (h : b = true → Adv T m r) : Adv T m (need T i b r) := by
  unfold Gram.need
  split
  · next hb => exact h hb
  · trivial
theorem Adv.room {m i a b : Nat} {r : PR α} (h : Adv T m r) : Adv T m (room T i a b r) := by
  unfold Gram.room
  split
  · trivial
  · exact h
theorem Adv.ite {m : Nat} {c : Prop} [Decidable c] {r s : PR α} (h : c → Adv T m r) (h2 : ¬ c → Adv T m s) : Adv T m (if c then r else s) := by
  split
  · next hb => exact h hb
  · next hb => exact h2 hb
theorem tk_lt {i : Nat} (h : tk T i ≠ endTk) : i < T.length := by
  rcases Nat.lt_or_ge i T.length with h1 | h1
  · exact h1
  · exact absurd (by unfold tk; simp [List.getD, List.getElem?_eq_none h1]) h
theorem sees_lt {i : Nat} {s : B} (hs : s ≠ []) (h : sees T i s = true) : i < T.length :=
  tk_lt fun e => by unfold sees at h; rw [e] at h; exact hs (by simpa [endTk] using (eq_of_beq h).symm)
theorem isName_lt {i : Nat} (h : isName T i = true) : i < T.length :=
  tk_lt fun e => by unfold isName at h; rw [e] at h; cases h
theorem isNum_lt {i : Nat} (h : isNum T i = true) : i < T.length :=
  tk_lt fun e => by unfold isNum at h; rw [e] at h; cases h
theorem isVal_lt {i : Nat} (h : isVal T i = true) : i < T.length := isNum_lt (by unfold isVal at h; simp at h; exact h.1)
theorem words_ne : expWords.contains ([] : B) = false := by decide
theorem seesExp_lt {i : Nat} (h : seesExp T i = true) : i < T.length := by
  unfold seesExp at h
  simp only [Bool.or_eq_true] at h
  rcases h with (h | h) | h
  · exact tk_lt fun e => by rw [e] at h; rw [show endTk.text = [] from rfl, words_ne] at h; cases h
  · exact isName_lt h
  · exact isVal_lt h
theorem sign_lt {i lv : Nat} {s : B × Int × Int} (h : sign T i lv = some s) : i < T.length :=
  tk_lt fun e => by
    unfold sign at h
    rw [e] at h
    have h2 := List.find?_some h
    have h3 := List.mem_of_find?_eq_some h
    have h4 : s.1 = [] := (eq_of_beq h2).symm
    unfold signs at h3
    split at h3 <;> (simp at h3; try (rcases h3 with h3 | h3 | h3 | h3 | h3 | h3) <;> (rw [h3] at h4; cases h4)) <;> (try (rcases h3 with h3 | h3) <;> (rw [h3] at h4; cases h4)) <;> (try (rcases h3 with h3 | h3 | h3) <;> (rw [h3] at h4; cases h4)) <;> (try (rw [h3] at h4; cases h4))
theorem expect_adv {i : Nat} {s : B} (hs : s ≠ []) : Adv T (i + 1) (expect T i s) := Adv.need fun h => ⟨Nat.le_refl _, sees_lt hs h⟩
theorem name_adv (i : Nat) : Adv T (i + 1) (name T i) := Adv.need fun h => ⟨Nat.le_refl _, isName_lt h⟩
theorem size_adv (i : Nat) : Adv T (i + 1) (size T i) := Adv.need fun h => ⟨Nat.le_refl _, isNum_lt (by simp at h; exact h.1)⟩
theorem kind_nil : Lex.kindOf [] = 0 := by decide
theorem kind_adv (i : Nat) : Adv T (i + 1) (kind T i) := Adv.need fun h => ⟨Nat.le_refl _, tk_lt fun e => by rw [e, show endTk.text = [] from rfl, kind_nil] at h; cases h⟩
theorem edge_adv (i : Nat) : Adv T (i + 1) (edge T i) :=
  Adv.ite (fun _ => (name_adv (i + 1)).bind fun _ j h h2 => Adv.ok (by omega) h2) fun _ => (name_adv i).bind fun _ j h h2 => Adv.ok h h2
end

theorem indexed_adv (T : List Tk) : ∀ f e i, T.length - i < f → i ≤ T.length → Adv T i (indexed T f e i)
  | 0, _, _, h, _ => by omega
  | f + 1, e, i, h, hi => by
    unfold indexed
    refine Adv.ite (fun hs => ?_) fun _ => Adv.ok (Nat.le_refl _) hi
    have h1 := sees_lt (by decide) hs
    refine (size_adv _).bind fun n j h2 h3 => ?_
    refine (expect_adv (by decide)).bind fun _ k h4 h5 => ?_
    exact (indexed_adv T f _ k (by omega) h5).mono (by omega)

/-- enough for every part of an expression -/
def Enough (T : List Tk) (f : Nat) : Prop :=
  (∀ d i, i ≤ T.length → 20 * (T.length - i) + 15 ≤ f → Adv T (i + 1) (exp T f d i)) ∧
  (∀ d lv i, lv ≤ 11 → i ≤ T.length → 20 * (T.length - i) + 14 ≤ f + lv → Adv T (i + 1) (read T f d lv i)) ∧
  (∀ d lv a i, lv ≤ 10 → i ≤ T.length → 20 * (T.length - i) + 1 ≤ f → Adv T i (lefts T f d lv a i)) ∧
  (∀ d i, i < T.length → 20 * (T.length - i) + 1 ≤ f → (sees T i [110, 111, 116] || sees T i [45] || sees T i [112, 114, 101]) = true → Adv T (i + 1) (prefixed T f d i)) ∧
  (∀ d i, i ≤ T.length → 20 * (T.length - i) + 2 ≤ f → Adv T (i + 1) (prim T f d i)) ∧
  (∀ d i, i ≤ T.length → 20 * (T.length - i) + 1 ≤ f → Adv T (i + 1) (args T f d i)) ∧
  (∀ d acc i, i ≤ T.length → 20 * (T.length - i) + 16 ≤ f → Adv T (i + 1) (exps T f d acc i)) ∧
  (∀ d t i, i ≤ T.length → 20 * (T.length - i) + 17 ≤ f → Adv T i (form T f d t i))

theorem enough (T : List Tk) : ∀ f, Enough T f
  | 0 => ⟨fun _ i _ h => by omega, fun _ lv i _ _ h => by omega, fun _ _ _ i _ _ h => by omega, fun _ i _ h => by omega, fun _ i _ h => by omega, fun _ i _ h => by omega, fun _ _ i _ h => by omega, fun _ _ i _ h => by omega⟩
  | f + 1 => by
    obtain ⟨hE, hR, hL, hX, hP, hA, hS, hF⟩ := enough T f
    refine ⟨?_, ?_, ?_, ?_, ?_, ?_, ?_, ?_⟩
    · intro d i hi h
      unfold exp
      exact Adv.need fun hs => Adv.room (hR _ _ _ (by omega) hi (by omega))
    · intro d lv i hlv hi h
      unfold read
      refine Adv.ite (fun h1 => ?_) fun h1 => Adv.ite (fun h2 => ?_) fun h2 => Adv.ite (fun h3 => ?_) fun h3 => Adv.ite (fun h4 => ?_) fun h4 => ?_
      · refine (hR _ _ _ (by omega) hi (by omega)).bind fun a j h5 h6 => ?_
        rcases hs : sign T j lv with _ | s
        · exact Adv.ok h5 h6
        have h7 := sign_lt hs
        exact (hR _ _ _ (by omega) (by omega) (by omega)).bind fun b k h8 h9 => Adv.ok (by omega) h9
      · refine (hR _ _ _ (by omega) hi (by omega)).bind fun a j h5 h6 => ?_
        rcases hs : sign T j lv with _ | s
        · exact Adv.ok h5 h6
        have h7 := sign_lt hs
        exact (hR _ _ _ (by omega) (by omega) (by omega)).bind fun b k h8 h9 => Adv.ok (by omega) h9
      · refine (hR _ _ _ (by omega) hi (by omega)).bind fun a j h5 h6 => ?_
        exact (hL _ _ _ _ h3 h6 (by omega)).mono h5
      · have h5 : i < T.length := by
          simp only [Bool.or_eq_true] at h4
          rcases h4 with (h4 | h4) | h4 <;> exact sees_lt (by decide) h4
        exact Adv.room (hX _ _ h5 (by omega) h4)
      · refine (hP _ _ hi (by omega)).bind fun e j h5 h6 => ?_
        exact (indexed_adv T f e j (by omega) h6).mono h5
    · intro d lv a i hlv hi h
      unfold lefts
      rcases hs : sign T i lv with _ | s
      · exact Adv.ok (Nat.le_refl _) hi
      have h7 := sign_lt hs
      refine (hR _ _ _ (by omega) (by omega) (by omega)).bind fun b k h8 h9 => ?_
      exact (hL _ _ _ _ hlv h9 (by omega)).mono (by omega)
    · intro d i hi h h4
      unfold prefixed
      have hr : Adv T (i + 1 + 1) (read T f d 11 (i + 1)) := hR _ _ _ (by omega) (by omega) (by omega)
      refine Adv.ite (fun h1 => ?_) fun h1 => Adv.ite (fun h2 => ?_) fun h2 => Adv.ite (fun h3 => ?_) fun h3 => ?_
      · exact hr.bind fun x j h5 h6 => Adv.ok (by omega) h6
      · exact hr.bind fun x j h5 h6 => Adv.ok (by omega) h6
      · have h5 := isVal_lt h3
        exact (indexed_adv T f _ _ (by omega) (by omega)).mono (by omega)
      · exact hr.bind fun x j h5 h6 => Adv.ok (by omega) h6
    · intro d i hi h
      unfold prim
      refine Adv.ite (fun h1 => ?_) fun h1 => Adv.ite (fun h2 => ?_) fun h2 => Adv.ite (fun h3 => ?_) fun h3 => ?_
      · exact Adv.need fun _ => Adv.ok (Nat.le_refl _) (isVal_lt h1)
      · have h4 := isName_lt h2
        refine Adv.ite (fun h3 => ?_) fun h3 => Adv.ok (Nat.le_refl _) h4
        exact (hA _ _ (by omega) (by omega)).bind fun l j h5 h6 => Adv.ok (by omega) h6
      · have h4 := sees_lt (by decide) h3
        refine (hE _ _ (by omega) (by omega)).bind fun e j h5 h6 => ?_
        exact (expect_adv (by decide)).bind fun _ k h7 h8 => Adv.ok (by omega) h8
      · refine Adv.need fun h4 => ?_
        have h5 := seesExp_lt h4
        exact hF _ _ _ (by omega) (by omega)
    · intro d i hi h
      unfold args
      refine (expect_adv (by decide)).bind fun _ j h1 h2 => ?_
      refine Adv.bind (m := j) (Adv.ite (fun _ => Adv.ok (Nat.le_refl _) h2) fun _ => (hS _ _ _ h2 (by omega)).mono (by omega)) fun l k h3 h4 => ?_
      exact (expect_adv (by decide)).bind fun _ m h5 h6 => Adv.ok (by omega) h6
    · intro d acc i hi h
      unfold exps
      refine Adv.need fun h0 => Adv.room ?_
      have h1 := seesExp_lt h0
      refine (hE _ _ hi (by omega)).bind fun e j h2 h3 => ?_
      refine Adv.ite (fun h4 => ?_) fun _ => Adv.ok h2 h3
      have h5 := sees_lt (by decide) h4
      exact (hS _ _ _ (by omega) (by omega)).mono (by omega)
    · intro d t i hi h
      unfold form
      have hx : ∀ d j, i ≤ j → j ≤ T.length → Adv T (j + 1) (exp T f d j) := fun d j a b => hE d j b (by omega)
      have hs : ∀ d j, i ≤ j → j ≤ T.length → Adv T (j + 1) (exps T f d [] j) := fun d j a b => hS d [] j b (by omega)
      have ha : ∀ d j, i ≤ j → j ≤ T.length → Adv T (j + 1) (args T f d j) := fun d j a b => hA d j b (by omega)
      have hk : ∀ (s : B) j, s ≠ [] → Adv T (j + 1) (expect T j s) := fun s j e => expect_adv e
      refine Adv.ite (fun _ => Adv.ok (Nat.le_refl _) hi) fun _ => Adv.ite (fun _ => Adv.ok (Nat.le_refl _) hi) fun _ => Adv.ite (fun _ => ?_) fun _ => Adv.ite (fun _ => ?_) fun _ => Adv.ite (fun _ => ?_) fun _ => Adv.ite (fun _ => ?_) fun _ => Adv.ite (fun _ => ?_) fun _ => Adv.ite (fun _ => ?_) fun _ => Adv.ite (fun _ => ?_) fun _ => Adv.ite (fun _ => ?_) fun _ => Adv.ite (fun _ => ?_) fun _ => ?_
      all_goals
        (repeat (first
          | exact Adv.ok (by omega) (by assumption)
          | refine (hk _ _ (by decide)).bind fun _ _ _ _ => ?_
          | refine (name_adv _).bind fun _ _ _ _ => ?_
          | refine (size_adv _).bind fun _ _ _ _ => ?_
          | refine (kind_adv _).bind fun _ _ _ _ => ?_
          | refine (edge_adv _).bind fun _ _ _ _ => ?_
          | refine (hx _ _ (by omega) (by omega)).bind fun _ _ _ _ => ?_
          | refine (hs _ _ (by omega) (by omega)).bind fun _ _ _ _ => ?_
          | refine (ha _ _ (by omega) (by omega)).bind fun _ _ _ _ => ?_))

/-! declarations, items, nodes -/
theorem exp_adv (T : List Tk) (f d i : Nat) (hi : i ≤ T.length) (h : 20 * (T.length - i) + 15 ≤ f) : Adv T (i + 1) (exp T f d i) := (enough T f).1 d i hi h
theorem names_adv (T : List Tk) : ∀ f acc has i, T.length - i < f → i ≤ T.length → Adv T (i + 1) (names T f acc has i)
  | 0, _, _, _, h, _ => by omega
  | f + 1, acc, has, i, h, hi => by
    unfold names
    refine Adv.need fun h1 => Adv.room ?_
    have h2 := isName_lt h1
    refine Adv.ite (fun h3 => ?_) fun _ => Adv.ok (Nat.le_refl _) h2
    have h4 := sees_lt (by decide) h3
    exact (names_adv T f _ _ _ (by omega) (by omega)).mono (by omega)
theorem ty_adv (T : List Tk) (i : Nat) : Adv T (i + 1) (ty T i) := by
  unfold ty
  refine (kind_adv _).bind fun k j h1 h2 => Adv.ite (fun _ => ?_) fun _ => Adv.ok h1 h2
  exact (size_adv _).bind fun n m h3 h4 => Adv.ok (by omega) h4
theorem decl_adv (T : List Tk) (f : Nat) (vars : List Var) (i : Nat) (h : T.length - i < f) (hi : i ≤ T.length) : Adv T (i + 1) (decl T f vars i) := by
  unfold decl
  refine (names_adv T f _ _ _ h hi).bind fun ns j h1 h2 => (expect_adv (by decide)).bind fun _ k h3 h4 => (ty_adv T k).bind fun t m h5 h6 => Adv.ok (by omega) h6
theorem decls_adv (T : List Tk) : ∀ f vars i, T.length - i + 1 < f → i ≤ T.length → Adv T (i + 1) (decls T f vars i)
  | 0, _, _, h, _ => by omega
  | f + 1, vars, i, h, hi => by
    unfold decls
    refine (decl_adv T f _ _ (by omega) hi).bind fun vs j h1 h2 => Adv.ite (fun h3 => ?_) fun _ => Adv.ok h1 h2
    have h4 := sees_lt (by decide) h3
    exact (decls_adv T f _ _ (by omega) (by omega)).mono (by omega)
theorem edges_adv (T : List Tk) : ∀ f acc i, T.length - i < f → i ≤ T.length → Adv T (i + 1) (edges T f acc i)
  | 0, _, _, h, _ => by omega
  | f + 1, acc, i, h, hi => by
    unfold edges
    refine Adv.need fun _ => Adv.room ?_
    refine (edge_adv _).bind fun g j h1 h2 => Adv.ite (fun h3 => ?_) fun _ => Adv.ok h1 h2
    have h4 := sees_lt (by decide) h3
    exact (edges_adv T f _ _ (by omega) (by omega)).mono (by omega)
theorem local_adv (T : List Tk) (f : Nat) (vars : List Var) (i : Nat) (h : T.length - i < f) (hi : i ≤ T.length) : Adv T (i + 1) (local_ T f vars i) := by
  unfold local_
  refine (decl_adv T f _ _ h hi).bind fun vs j h1 h2 => ?_
  refine Adv.bind (m := j) (Adv.ite (fun h3 => ?_) fun _ => Adv.ok (Nat.le_refl _) h2) fun vs k h5 h6 => (expect_adv (by decide)).bind fun _ m h7 h8 => Adv.ok (by omega) h8
  have h4 := sees_lt (by decide) h3
  exact (edges_adv T f _ _ (by omega) (by omega)).bind fun c k h5 h6 => Adv.ok (by omega) h6
theorem localsL_adv (T : List Tk) : ∀ f vars i, T.length - i + 1 < f → i ≤ T.length → Adv T (i + 1) (localsL T f vars i)
  | 0, _, _, h, _ => by omega
  | f + 1, vars, i, h, hi => by
    unfold localsL
    refine (local_adv T f _ _ (by omega) hi).bind fun vs j h1 h2 => Adv.ite (fun h3 => ?_) fun _ => Adv.ok h1 h2
    have h4 := isName_lt h3
    exact (localsL_adv T f _ _ (by omega) (by omega)).mono (by omega)
theorem locals_adv (T : List Tk) (f i : Nat) (h : T.length - i + 1 < f) (hi : i ≤ T.length) : Adv T i (locals T f i) := by
  unfold locals
  refine Adv.ite (fun h3 => ?_) fun _ => Adv.ok (Nat.le_refl _) hi
  have h4 := sees_lt (by decide) h3
  exact (localsL_adv T f _ _ (by omega) (by omega)).mono (by omega)
theorem lhs_adv (T : List Tk) : ∀ f acc i, T.length - i < f → i ≤ T.length → Adv T (i + 1) (lhs T f acc i)
  | 0, _, _, h, _ => by omega
  | f + 1, acc, i, h, hi => by
    unfold lhs
    refine Adv.need fun _ => Adv.room ?_
    refine (name_adv _).bind fun g j h1 h2 => Adv.ite (fun h3 => ?_) fun _ => Adv.ok h1 h2
    have h4 := sees_lt (by decide) h3
    exact (lhs_adv T f _ _ (by omega) (by omega)).mono (by omega)
theorem equation_adv (T : List Tk) (f d i : Nat) (hi : i ≤ T.length) (h : 20 * (T.length - i) + 15 ≤ f) : Adv T (i + 1) (equation T f d i) := by
  unfold equation
  refine Adv.bind (m := i + 1) (Adv.ite (fun h3 => ?_) fun _ => (name_adv _).bind fun n j h1 h2 => Adv.ok h1 h2) fun ns j h1 h2 => ?_
  · have h4 := sees_lt (by decide) h3
    exact (lhs_adv T f _ _ (by omega) (by omega)).bind fun ns j h1 h2 => (expect_adv (by decide)).bind fun _ k h5 h6 => Adv.ok (by omega) h6
  · exact (expect_adv (by decide)).bind fun _ k h3 h4 => (exp_adv T f d k h4 (by omega)).bind fun e k h5 h6 => (expect_adv (by decide)).bind fun _ k h7 h8 => Adv.ok (by omega) h8
theorem trans_adv (T : List Tk) (f d i : Nat) (hi : i < T.length) (h : 20 * (T.length - i) ≤ f) : Adv T (i + 1) (trans T f d i) := by
  unfold trans
  refine (exp_adv T f d _ (by omega) (by omega)).bind fun c j h1 h2 => ?_
  refine Adv.bind (m := j) (Adv.ite (fun h3 => Adv.ok (by omega) (sees_lt (by decide) h3)) fun _ => (expect_adv (by decide)).bind fun _ k h5 h6 => Adv.ok (by omega) h6) fun ct k h5 h6 => ?_
  exact (name_adv _).bind fun n j h7 h8 => (expect_adv (by decide)).bind fun _ k h9 h10 => Adv.ok (by omega) h10
theorem transs_adv (T : List Tk) (w : B) (hw : w ≠ []) (d : Nat) : ∀ f acc i, 20 * (T.length - i) + 1 ≤ f → i ≤ T.length → Adv T i (transs T w d f acc i)
  | 0, _, _, h, _ => by omega
  | f + 1, acc, i, h, hi => by
    unfold transs
    refine Adv.ite (fun h1 => Adv.room ?_) fun _ => Adv.ok (Nat.le_refl _) hi
    have h2 := sees_lt hw h1
    refine (trans_adv T f d i h2 (by omega)).bind fun t j h3 h4 => ?_
    exact (transs_adv T w hw d f _ j (by omega) h4).mono (by omega)
theorem seesItem_lt {T : List Tk} {i : Nat} (h : seesItem T i = true) : i < T.length := by
  unfold seesItem at h
  simp only [Bool.or_eq_true] at h
  rcases h with (h | h) | h
  · exact isName_lt h
  · exact sees_lt (by decide) h
  · exact sees_lt (by decide) h
def EnoughI (T : List Tk) (f : Nat) : Prop :=
  (∀ d acc i, i ≤ T.length → 20 * (T.length - i) + 1 ≤ f → Adv T i (items T f d acc i)) ∧
  (∀ d i, i < T.length → 20 * (T.length - i) ≤ f → Adv T (i + 1) (item T f d i)) ∧
  (∀ d acc i, i ≤ T.length → 20 * (T.length - i) + 1 ≤ f → Adv T i (states T f d acc i)) ∧
  (∀ d i, i < T.length → 20 * (T.length - i) ≤ f → Adv T (i + 1) (state T f d i))
theorem equation_adv' (T : List Tk) (f d i : Nat) (hi : i < T.length) (h : 20 * (T.length - i) ≤ f + 1) : Adv T (i + 1) (equation T f d i) := by
  unfold equation
  refine Adv.bind (m := i + 1) (Adv.ite (fun h3 => ?_) fun _ => (name_adv _).bind fun n j h1 h2 => Adv.ok h1 h2) fun ns j h1 h2 => ?_
  · have h4 := sees_lt (by decide) h3
    exact (lhs_adv T f _ _ (by omega) (by omega)).bind fun ns j h1 h2 => (expect_adv (by decide)).bind fun _ k h5 h6 => Adv.ok (by omega) h6
  · exact (expect_adv (by decide)).bind fun _ k h3 h4 => (exp_adv T f d k h4 (by omega)).bind fun e k h5 h6 => (expect_adv (by decide)).bind fun _ k h7 h8 => Adv.ok (by omega) h8
theorem enoughI (T : List Tk) : ∀ f, EnoughI T f
  | 0 => ⟨fun _ _ i _ h => by omega, fun _ i _ h => by omega, fun _ _ i _ h => by omega, fun _ i _ h => by omega⟩
  | f + 1 => by
    obtain ⟨hIs, hI, hSs, hS⟩ := enoughI T f
    refine ⟨?_, ?_, ?_, ?_⟩
    · intro d acc i hi h
      unfold items
      refine Adv.ite (fun h1 => Adv.room ?_) fun _ => Adv.ok (Nat.le_refl _) hi
      have h2 := seesItem_lt h1
      refine (hI d i h2 (by omega)).bind fun t j h3 h4 => ?_
      exact (hIs d _ j h4 (by omega)).mono (by omega)
    · intro d i hi h
      unfold item
      refine Adv.ite (fun h1 => Adv.room (Adv.need fun h2 => ?_)) fun _ => equation_adv' T f d i hi (by omega)
      have h3 := sees_lt (by decide) h2
      exact (hSs _ _ _ (by omega) (by omega)).bind fun ss j h4 h5 => (expect_adv (by decide)).bind fun _ k h6 h7 => Adv.ok (by omega) h7
    · intro d acc i hi h
      unfold states
      refine Adv.ite (fun h1 => Adv.room ?_) fun _ => Adv.ok (Nat.le_refl _) hi
      have h2 := sees_lt (by decide) h1
      refine (hS d i h2 (by omega)).bind fun t j h3 h4 => ?_
      exact (hSs d _ j h4 (by omega)).mono (by omega)
    · intro d i hi h
      unfold state
      refine (name_adv _).bind fun n j h1 h2 => (transs_adv T _ (by decide) d f _ j (by omega) h2).bind fun us k h3 h4 => (locals_adv T f k (by omega) h4).bind fun ls m h5 h6 => (expect_adv (by decide)).bind fun _ n h7 h8 => Adv.need fun _ => ?_
      exact (hIs d _ n h8 (by omega)).bind fun its q h9 h10 => (transs_adv T _ (by decide) d f _ q (by omega) h10).bind fun ut r h11 h12 => Adv.ok (by omega) h12
theorem node_adv (T : List Tk) (f i : Nat) (hi : i ≤ T.length) (h : 20 * (T.length - i) ≤ f + 19) : Adv T (i + 1) (node T f i) := by
  unfold node
  refine (expect_adv (by decide)).bind fun t j a1 b1 => (name_adv _).bind fun n k a2 b2 => (expect_adv (by decide)).bind fun _ j a3 b3 => ?_
  refine Adv.bind (m := j) (Adv.ite (fun _ => Adv.ok (Nat.le_refl _) b3) fun _ => (decls_adv T f _ _ (by omega) b3).mono (by omega)) fun ins j a4 b4 => ?_
  refine (expect_adv (by decide)).bind fun _ j a5 b5 => (expect_adv (by decide)).bind fun _ j a6 b6 => (expect_adv (by decide)).bind fun _ j a7 b7 => ?_
  refine (decls_adv T f _ _ (by omega) b7).bind fun outs j a8 b8 => (expect_adv (by decide)).bind fun _ j a9 b9 => (locals_adv T f j (by omega) b9).bind fun ls j a10 b10 => (expect_adv (by decide)).bind fun _ j a11 b11 => Adv.need fun _ => ?_
  exact ((enoughI T f).1 0 _ j b11 (by omega)).bind fun its j a12 b12 => (expect_adv (by decide)).bind fun _ j a13 b13 => Adv.ok (by omega) b13
theorem nodes_adv (T : List Tk) : ∀ f acc i, 20 * (T.length - i) + 1 ≤ f → i ≤ T.length → Adv T i (nodes T f acc i)
  | 0, _, _, h, _ => by omega
  | f + 1, acc, i, h, hi => by
    unfold nodes
    refine Adv.ite (fun h1 => Adv.room ?_) fun _ => Adv.ok (Nat.le_refl _) hi
    have h2 := sees_lt (by decide) h1
    refine (node_adv T f i hi (by omega)).bind fun t j h3 h4 => ?_
    exact (nodes_adv T f _ j (by omega) h4).mono (by omega)
theorem program_adv (T : List Tk) (f : Nat) (h : 20 * T.length + 1 ≤ f) : Adv T 0 (program T f) := by
  unfold program
  exact (nodes_adv T f [] 0 (by omega) (by omega)).bind fun ns j h1 h2 => Adv.need fun _ => Adv.ok h1 h2
/-- Parse's steps are always enough -/
theorem parse_any (s : B) : parse s ≠ .fuel := by
  unfold parse
  split
  · intro h; cases h
  · next T _ =>
    have h := program_adv T (20 * T.length + 100) (by omega)
    split
    · intro h; cases h
    · intro h; cases h
    · next h9 => rw [h9] at h; exact h.elim
end Go.Proofs.YtachmiajldeakaaGreatDoor.Gram

/- Reading what Parse answers: the rows of a list in memory; num; and the statements' own look at fixed answers (alive). -/
namespace Go.Proofs.YtachmiajldeakaaGreatDoor
open Go.RowKit Go.Maps Go.WideMaps

section
variable {w : World} {B : Nat} {E : List Nat}
theorem RepRow.drop : ∀ (i : Nat) {ds : List D} {vs : List Value}, RepRow w B E ds vs → RepRow w B E (ds.drop i) (vs.drop i)
  | 0, _, _, h => by simpa using h
  | _ + 1, _, _, .nil => by simpa using RepRow.nil
  | i + 1, _, _, .cons _ t => by simpa using RepRow.drop i t
theorem RepRow.take : ∀ (i : Nat) {ds : List D} {vs : List Value}, RepRow w B E ds vs → RepRow w B E (ds.take i) (vs.take i)
  | 0, _, _, h => by simpa using RepRow.nil
  | _ + 1, _, _, .nil => by simpa using RepRow.nil
  | i + 1, _, _, .cons h t => by simpa using RepRow.cons h (RepRow.take i t)
theorem flatten_at {α : Type} {sz : Nat} : ∀ {rows : List (List α)} (_ : ∀ r ∈ rows, r.length = sz) {i : Nat} {r : List α}, rows[i]? = some r → (rows.flatten.drop (i * sz)).take sz = r
  | [], _, _, _, h => by simp at h
  | a :: l, hs, 0, r, h => by
    simp at h; subst h
    rw [Nat.zero_mul, List.drop_zero, List.flatten_cons, List.take_append_of_le_length (by rw [hs _ List.mem_cons_self]; exact Nat.le_refl _), List.take_of_length_le (by rw [hs _ List.mem_cons_self]; exact Nat.le_refl _)]
  | a :: l, hs, i + 1, r, h => by
    have h1 := hs _ List.mem_cons_self
    have e : (a ++ l.flatten).drop ((i + 1) * sz) = l.flatten.drop (i * sz) := by
      rw [Nat.add_mul, Nat.one_mul, Nat.add_comm, ← h1, List.drop_append]
      simp
    rw [List.flatten_cons, e]
    exact flatten_at (fun x hx => hs x (List.mem_cons_of_mem _ hx)) (by simpa using h)
theorem RepC.lies {e : TypeId} {sz : Nat} {rows : List (List D)} {v : Value} (h : RepC w B E (.l e sz rows) v) (h0 : 0 < rows.length) : ∃ g cap, v = .slice (some ⟨g, 0, none⟩) rows.length cap := by
  cases h with
  | l ho _ _ =>
    rcases ho.2 with ⟨_, h1⟩ | ⟨g, cap, cur, rfl, _⟩
    · omega
    · exact ⟨g, cap, rfl⟩
theorem RepC.len {e : TypeId} {sz : Nat} {rows : List (List D)} {v : Value} (h : RepC w B E (.l e sz rows) v) : ∃ a cap, v = .slice a rows.length cap := by
  cases h with
  | l ho _ _ =>
    rcases ho.2 with ⟨rfl, h1⟩ | ⟨g, cap, cur, rfl, _⟩
    · exact ⟨_, _, by rw [h1]⟩
    · exact ⟨_, cap, rfl⟩
/-- the i-th row's cells -/
theorem RepC.rowAt {e : TypeId} {sz g n cap : Nat} {rows : List (List D)} (h : RepC w B E (.l e sz rows) (.slice (some ⟨g, 0, none⟩) n cap)) (hs : ∀ r ∈ rows, r.length = sz) (i : Nat) {r : List D} (hi : rows[i]? = some r) :
    ∃ vs, RepRow w B E r vs ∧ ∀ k u, vs[k]? = some u → w.cell? ⟨g, i * sz + k, none⟩ = some u := by
  cases h with
  | @l _ _ _ _ xs ho _ hr =>
    refine ⟨(xs.drop (i * sz)).take sz, ?_, ?_⟩
    · have h1 := (hr.drop (i * sz)).take sz
      rw [flatten_at hs hi] at h1
      exact h1
    · intro k u hk
      have hk1 : k < sz := by
        rcases Nat.lt_or_ge k sz with h1 | h1
        · exact h1
        · rw [List.getElem?_take, if_neg (by omega)] at hk; cases hk
      rw [List.getElem?_take, if_pos hk1, List.getElem?_drop] at hk
      have hx : i * sz + k < xs.length := (List.getElem?_eq_some_iff.1 hk).1
      have hn : n = rows.length := by
        rcases ho.2 with ⟨h1, _⟩ | ⟨g2, cap2, cur, h1, _⟩
        · cases h1
        · cases h1; rfl
      subst hn
      rw [← hk]
      exact ho.cellAt _ (by rw [← ho.1]; exact hx)
end

/-- what a law knows of the world ahead of Parse -/
def LaidG (w : World) : Prop := LaidR w ∧ w.cell? ⟨0, 0, none⟩ = some (.iface 156 (.agg #[.pointer (some ⟨7, 88, none⟩)]))
theorem LaidG.on {w w' : World} (h : LaidG w) (hg : w.grownBy w' none) : LaidG w' := ⟨h.1.on hg (by simp), hg.cell h.2 (by simp)⟩
theorem gparse (s : ByteArray) (w : World) (h : LaidG w) : Calls Tryz.prog 7 #[.string s] w fun e w' => psPost w (Gram.parse s.data.toList) e w' := gparse_any s w h.1 h.2 (fun _ e h => Gram.parse_any _ (e.trans h))

theorem gparse_ok {s : ByteArray} {l : List Gram.Node} (h : Gram.parse s.data.toList = .ok l) (w : World) (hl : LaidG w) : Calls Tryz.prog 7 #[.string s] w fun e w' => ∃ v, e = .returned (.tuple #[.agg #[v], .int .i64 0, .int .i64 0]) ∧ RepC w' w.heap.size [] (.l 45 6 (l.map nodeD)) v ∧ w.grownBy w' none := by
  have := gparse s w hl
  rw [h] at this
  exact this
theorem gparse_bad {s : ByteArray} {a er : Int} (h : Gram.parse s.data.toList = .bad a er) (w : World) (hl : LaidG w) : Calls Tryz.prog 7 #[.string s] w fun e w' => e = .returned (.tuple #[.agg #[.slice none 0 0], .int .i64 a, .int .i64 er]) ∧ w.grownBy w' none := by
  have := gparse s w hl
  rw [h] at this
  exact this

namespace Gram
def alN : Node := ⟨[102], [⟨[120], 2, 0, [], 7⟩], [⟨[121], 2, 0, [], 23⟩], [], [.mk [[121]] (.mk 7 0 [] 0 0 0 0 [.mk 1 0 [] 2 0 0 0 [] 38, .mk 4 3 [] 0 0 0 0 [.mk 6 0 [] 0 0 0 0 [.mk 2 0 [121] 0 0 0 0 [] 49] 45, .mk 2 0 [120] 0 0 0 0 [] 53] 45] 38) [] 34], 0⟩
theorem alive1 : parse [110, 111, 100, 101, 32, 102, 40, 120, 58, 32, 105, 56, 41, 32, 114, 101, 116, 117, 114, 110, 115, 32, 40, 121, 58, 32, 105, 56, 41, 32, 108, 101, 116, 32, 121, 32, 61, 32, 48, 105, 56, 32, 45, 62, 32, 112, 114, 101, 32, 121, 32, 43, 32, 120, 59, 32, 116, 101, 108] = .ok [alN] := by kernel_rfl
theorem alive2 : parse [110, 111, 100, 101, 32, 102, 40, 120, 58, 32, 105, 56, 41, 32, 114, 101, 116, 117, 114, 110, 115, 32, 40, 121, 58, 32, 105, 56, 41, 32, 108, 101, 116, 32, 121, 32, 61, 32, 120, 32, 60, 32, 120, 32, 60, 32, 120, 59, 32, 116, 101, 108] = .bad 44 12 := by kernel_rfl
end Gram
theorem nodeD_len (n : Gram.Node) : (nodeD n).length = 6 := rfl
theorem expD_len (x : Gram.Exp) : (expD x).length = 9 := by cases x; rfl
theorem itemD_len (x : Gram.Item) : (itemD x).length = 12 := by cases x; simp [itemD, expD_len]
theorem rows_map {α : Type} {F : α → List D} {k : Nat} (h : ∀ x, (F x).length = k) (l : List α) : ∀ r ∈ l.map F, r.length = k := by
  intro r hr
  obtain ⟨x, _, rfl⟩ := List.mem_map.1 hr
  exact h x

/-- the cells of the fixed answer that alive looks at -/
theorem alive_cells {w : World} {B : Nat} {v : Value} (h : RepC w B [] (.l 45 6 ([Gram.alN].map nodeD)) v) :
    ∃ g1 c1 g2 c2 g3 c3 g4 c4 a1 n1 m1 a2 n2 m2, v = .slice (some ⟨g1, 0, none⟩) 1 c1 ∧ w.cell? ⟨g1, 4, none⟩ = some (.slice (some ⟨g2, 0, none⟩) 1 c2) ∧
      (w.cell? ⟨g2, 0, none⟩ = some (.slice a1 n1 m1) ∧ w.cell? ⟨g2, 1, none⟩ = some (.int .i64 7) ∧ w.cell? ⟨g2, 2, none⟩ = some (.int .i64 0) ∧ w.cell? ⟨g2, 3, none⟩ = some (.string ⟨#[]⟩) ∧ w.cell? ⟨g2, 4, none⟩ = some (.int .i64 0) ∧ w.cell? ⟨g2, 5, none⟩ = some (.int .i64 0) ∧ w.cell? ⟨g2, 6, none⟩ = some (.int .i64 0) ∧ w.cell? ⟨g2, 7, none⟩ = some (.int .i64 0) ∧ w.cell? ⟨g2, 8, none⟩ = some (.slice (some ⟨g3, 0, none⟩) 2 c3) ∧ w.cell? ⟨g2, 9, none⟩ = some (.int .i64 38) ∧ w.cell? ⟨g2, 10, none⟩ = some (.slice a2 n2 m2) ∧ w.cell? ⟨g2, 11, none⟩ = some (.int .i64 34)) ∧
      w.cell? ⟨g3, 9, none⟩ = some (.int .i64 4) ∧ w.cell? ⟨g3, 10, none⟩ = some (.int .i64 3) ∧ w.cell? ⟨g3, 16, none⟩ = some (.slice (some ⟨g4, 0, none⟩) 2 c4) ∧ w.cell? ⟨g4, 0, none⟩ = some (.int .i64 6) := by
  obtain ⟨g1, c1, rfl⟩ := h.lies (by simp)
  obtain ⟨vs, hv, hc⟩ := h.rowAt (rows_map nodeD_len _) 0 rfl
  obtain ⟨u1, rfl, h_1⟩ := RepRow.cInv hv
  obtain ⟨b1, m1, k1, u2, rfl, _, h_2⟩ := h_1.lInv
  obtain ⟨b2, m2, k2, u3, rfl, _, h_3⟩ := h_2.lInv
  obtain ⟨b3, m3, k3, u4, rfl, _, h_4⟩ := h_3.lInv
  obtain ⟨b4, m4, k4, u5, rfl, hI, h_5⟩ := h_4.lInv
  have e4 := hc 4 _ rfl
  clear hc h_1 h_2 h_3 h_4 h_5 hv
  have hI2 : RepC w B [] (.l 41 12 (Gram.alN.items.map itemD)) (.slice b4 m4 k4) := by rw [← itemsD_map]; exact hI
  obtain ⟨g2, c2, e⟩ := hI2.lies (by simp [Gram.alN])
  rw [e] at e4 hI2
  obtain ⟨vs, hv, hc⟩ := hI2.rowAt (rows_map itemD_len _) 0 rfl
  simp only [itemD] at hv
  obtain ⟨a1, n1, d1, u1, rfl, _, h_1⟩ := hv.lInv
  obtain ⟨u, t, rfl, h1, h_2⟩ := RepRow.appInv h_1
  obtain ⟨a2, n2, d2, rfl, hk⟩ := expInv h1
  obtain ⟨a3, n3, d3, u3, rfl, _, h_3⟩ := h_2.lInv
  obtain ⟨u4, rfl, h_4⟩ := h_3.cInv
  obtain rfl := h_4.nInv
  obtain ⟨g3, c3, e3⟩ := RepC.lies hk (by simp [Gram.Exp.kids, expsD])
  rw [e3] at hc hk
  obtain ⟨vs, hv, hc3⟩ := RepC.rowAt hk (by rw [expsD_map]; exact rows_map expD_len _) 1 rfl
  obtain ⟨a4, n4, d4, rfl, hk4⟩ := expInv hv
  obtain ⟨g4, c4, e5⟩ := RepC.lies hk4 (by simp [Gram.Exp.kids, expsD])
  rw [e5] at hc3 hk4
  obtain ⟨vs, hv4, hc4⟩ := RepC.rowAt hk4 (by rw [expsD_map]; exact rows_map expD_len _) 0 rfl
  obtain ⟨a5, n5, d5, rfl, _⟩ := expInv hv4
  exact ⟨g1, c1, g2, c2, g3, c3, g4, c4, a1, n1, d1, a3, n3, d3, rfl, e4, ⟨hc 0 _ rfl, hc 1 _ rfl, hc 2 _ rfl, hc 3 _ rfl, hc 4 _ rfl, hc 5 _ rfl, hc 6 _ rfl, hc 7 _ rfl, hc 8 _ rfl, hc 9 _ rfl, hc 10 _ rfl, hc 11 _ rfl⟩, hc3 0 _ rfl, hc3 1 _ rfl, hc3 7 _ rfl, hc4 0 _ rfl⟩

end Go.Proofs.YtachmiajldeakaaGreatDoor

/- What the rows' list of variables gives: strconv.ErrRange holds an error, errors.errorType the type error; and a world that meets the list. -/
namespace Go.Proofs.YtachmiajldeakaaGreatDoor
open Go.RowKit

abbrev laid6 : List (String × DataW Unit) := Rows.showLiteralsRow.laid
abbrev laid5 : List (String × DataW Unit) := laid6.filter fun x => x.2.handleName?.isNone

theorem gER : Tryz.prog.globalNamed "strconv.ErrRange" = some 4 := by kernel_rfl
theorem gERType : (Tryz.prog.globals[4]?).map (·.type) = some 88 := by kernel_rfl
theorem star : "*" ++ "errors.errorString" = "*errors.errorString" := by decide
theorem rowES (u : TypeId) (h : Tryz.prog.typeName? 3 u = some "*errors.errorString") : u = 256 :=
  typeName_ptr_named (P := Tryz.prog) (nm := "errors.errorString") (by rw [star]; kernel_rfl) (by kernel_rfl) (by decide) u (by rw [star]; exact h)
theorem cellsES : Tryz.prog.cellsOf 258 = 1 := by kernel_rfl
theorem cellsStr : Tryz.prog.cellsOf 9 = 1 := by kernel_rfl
theorem gET : Tryz.prog.globalNamed "errors.errorType" = some 0 := by kernel_rfl
theorem rtET : (Tryz.prog.cutTypes.find? (·.1 == "internal/reflectlite.rtype")).map (·.2) = some 156 := by kernel_rfl
theorem oneET : ((List.range 284).filter fun t => Tryz.prog.rowNamed t [101, 114, 114, 111, 114]) = [88] := by kernel_rfl
theorem sizeT : Tryz.prog.types.size = 284 := by kernel_rfl

theorem laidG_of {W : World} (h : laidMetH Tryz.prog laid6 W) : LaidG W := by
  have h' : laidMet Tryz.prog laid5 W ∧ handlesMet Tryz.prog (laid6.filter fun x => x.2.handleName?.isSome) W := h
  refine ⟨?_, ?_⟩
  · obtain ⟨a, s, hv, -, -, -⟩ := laid_sentinel h'.1.tail.tail.tail gER gERType Tryz.underlying88 rowES Tryz.underlying256 Tryz.underlying258 rfl rfl Tryz.underlying9 cellsES cellsStr
    have h0 := World.var?_cell gER hv 0
    exact ⟨_, _, by simpa using h0⟩
  · obtain ⟨name, u, ty, e1, e2, e3, e4, e5⟩ := h'.2 ("errors.errorType", Rows.laid_errors_errorType) (List.mem_singleton.2 rfl)
    have en : name = [101, 114, 114, 111, 114] := (Option.some.inj e1).symm
    subst en
    obtain rfl := Option.some.inj (rtET.symm.trans e2)
    have hm : ty ∈ (List.range 284).filter fun t => Tryz.prog.rowNamed t [101, 114, 114, 111, 114] := List.mem_filter.2 ⟨List.mem_range.2 (by rw [← sizeT]; exact e3), e4⟩
    rw [oneET] at hm
    obtain rfl := List.mem_singleton.1 hm
    have hh : typeHandle Tryz.prog 88 = .pointer (some ⟨7, 88, none⟩) := by kernel_rfl
    rw [hh] at e5
    simpa using World.var?_cell gET e5 0

theorem laidMet_lay {P : Program} {w0 : World} {laid : List (String × DataW Unit)} (args : Array Value) (hf : w0.layFits P laid [] = true) (hi : w0.layIfaces P laid (w0.layVars P laid) = true) :
    laidMet P laid ((w0.layVars P laid).forCall (fun _ _ => 0) ⟨#[], args, []⟩).memory := by
  have e1 : (laid.filter fun x => (laid.map (·.1)).contains x.1) = laid := List.filter_eq_self.2 fun x hx => List.contains_iff_mem.2 (List.mem_map.2 ⟨x, hx, rfl⟩)
  have e2 : (laid.filter fun x => !(laid.map (·.1)).contains x.1) = [] := List.filter_eq_nil_iff.2 fun x hx => by rw [List.contains_iff_mem.2 (List.mem_map.2 ⟨x, hx, rfl⟩)]; simp
  have h : laidMet P laid (w0.layVars P laid) := laidMet_layVars (w0 := w0) (laid.map (·.1)) [] (by rw [e1]) (by rw [e1]; exact hf) (by rw [e1]; exact hi) (by rw [e2]; exact LaidIn.none)
  exact h.of_heap (by simp [World.memory, World.forCall, Input.heap])
/-- A world that meets the condition: the settled one, the handle's cell laid, then the others. -/
theorem laidW_met (os : Os) (args : Array Value) : laidMetH Tryz.prog laid6 ((({ World.holding Tryz.prog os ⟨#[], #[], []⟩ with heap := (World.holding Tryz.prog os ⟨#[], #[], []⟩).heap.modify 0 fun | .cells _ t frozen => .cells #[.iface 156 (.agg #[.pointer (some ⟨7, 88, none⟩)])] t frozen | o => o } : World).layVars Tryz.prog laid5).forCall (fun _ _ => 0) ⟨#[], args, []⟩).memory :=
  laidMetH_of_parts (laidMet_lay args (by kernel_rfl) (by kernel_rfl)) (by kernel_rfl)

theorem cell_alloc_zero (w : World) (v : Value) (t : TypeId) : (w.alloc (.cells #[v] t)).cell? ⟨w.heap.size, 0, none⟩ = some v := by simp

end Go.Proofs.YtachmiajldeakaaGreatDoor
