/- The plain mathematics of the grammar: tokens that stand c further on are the same program, each place c further on. -/
import Derived.Test.YtjcdkgjfecnkgaaGreatDoorMgK
import Derived.Test.YtjcdkgjfecnkgaaGreatDoorLexFa
namespace Go.Proofs.YtjcdkgjfecnkgaaGreatDoor.Gram
open Go.RowKit
open Lex (Tk)

mutual
def Exp.far (c : Nat) : Exp → Exp
  | .mk f s nm tk tl n m ks a => .mk f s nm tk tl n m (farL c ks) (a + c)
def farL (c : Nat) : List Exp → List Exp
  | [] => []
  | e :: r => e.far c :: farL c r
end
theorem farL_map (c : Nat) : ∀ l, farL c l = l.map (Exp.far c)
  | [] => by simp [farL]
  | e :: r => by simp [farL, farL_map c r]
theorem Exp.at_far (c : Nat) (x : Exp) : (x.far c).at_ = x.at_ + c := by cases x; simp [Exp.far, Exp.at_]
def Var.far (c : Nat) (v : Var) : Var := { v with at_ := v.at_ + c }
def Trans.far (c : Nat) (t : Trans) : Trans := { t with cond := t.cond.far c, at_ := t.at_ + c }
mutual
def Item.far (c : Nat) : Item → Item
  | .mk ns e ss a => .mk ns (match ns with | [] => e | _ :: _ => e.far c) (sfarL c ss) (a + c)
def State.far (c : Nat) : State → State
  | .mk n us ut ls its a => .mk n (us.map (Trans.far c)) (ut.map (Trans.far c)) (ls.map (Var.far c)) (ifarL c its) (a + c)
def ifarL (c : Nat) : List Item → List Item
  | [] => []
  | e :: r => e.far c :: ifarL c r
def sfarL (c : Nat) : List State → List State
  | [] => []
  | e :: r => e.far c :: sfarL c r
end
theorem ifarL_map (c : Nat) : ∀ l, ifarL c l = l.map (Item.far c)
  | [] => by simp [ifarL]
  | e :: r => by simp [ifarL, ifarL_map c r]
theorem sfarL_map (c : Nat) : ∀ l, sfarL c l = l.map (State.far c)
  | [] => by simp [sfarL]
  | e :: r => by simp [sfarL, sfarL_map c r]
def Node.far (c : Nat) (n : Node) : Node := { n with ins := n.ins.map (Var.far c), outs := n.outs.map (Var.far c), locals := n.locals.map (Var.far c), items := n.items.map (Item.far c), at_ := n.at_ + c }

/-- the last token, and it alone, has no text -/
def Ends (T : List Tk) : Prop := ∀ i, i < T.length → ((tk T i).kind ≠ 5 ∨ (tk T i).text ≠ []) → i + 1 < T.length
/-- the same, places c further on -/
def Sh (T : List Tk) (c : Nat) {α β : Type} (g : α → β) : PR β → PR α → Prop
  | .fuel, .fuel => True
  | .bad a e, .bad b e' => a = b + c ∧ e = e'
  | .ok x i, .ok y j => x = g y ∧ i = j ∧ j < T.length
  | _, _ => False

section
variable {T : List Tk} {c : Nat}
theorem tk_far {i : Nat} (h : i < T.length) : tk (T.map (Tk.far c)) i = (tk T i).far c := by
  unfold tk; simp [List.getD, h]
theorem tk_kind (i : Nat) : (tk (T.map (Tk.far c)) i).kind = (tk T i).kind := by
  unfold tk; simp only [List.getD, List.getElem?_map]; cases T[i]? <;> rfl
theorem tk_text (i : Nat) : (tk (T.map (Tk.far c)) i).text = (tk T i).text := by
  unfold tk; simp only [List.getD, List.getElem?_map]; cases T[i]? <;> rfl
theorem tk_n (i : Nat) : (tk (T.map (Tk.far c)) i).n = (tk T i).n := by
  unfold tk; simp only [List.getD, List.getElem?_map]; cases T[i]? <;> rfl
theorem tk_t (i : Nat) : (tk (T.map (Tk.far c)) i).t = (tk T i).t := by
  unfold tk; simp only [List.getD, List.getElem?_map]; cases T[i]? <;> rfl
theorem tk_at {i : Nat} (h : i < T.length) : (((tk (T.map (Tk.far c)) i).at_ : Nat) : Int) = ((tk T i).at_ : Int) + c := by rw [tk_far h]; simp [Tk.far]
theorem sees_far (i : Nat) (s : B) : sees (T.map (Tk.far c)) i s = sees T i s := by unfold sees; rw [tk_text]
theorem isName_far (i : Nat) : isName (T.map (Tk.far c)) i = isName T i := by unfold isName; rw [tk_kind]
theorem isNum_far (i : Nat) : isNum (T.map (Tk.far c)) i = isNum T i := by unfold isNum; rw [tk_kind]
theorem isVal_far (i : Nat) : isVal (T.map (Tk.far c)) i = isVal T i := by unfold isVal; rw [isNum_far, tk_t]
theorem seesExp_far (i : Nat) : seesExp (T.map (Tk.far c)) i = seesExp T i := by unfold seesExp; rw [tk_text, isName_far, isVal_far]
theorem sign_far (i lv : Nat) : sign (T.map (Tk.far c)) i lv = sign T i lv := by unfold sign; rw [tk_text]
theorem seesItem_far (i : Nat) : seesItem (T.map (Tk.far c)) i = seesItem T i := by unfold seesItem; rw [isName_far, sees_far, sees_far]

variable (hE : Ends T)
include hE
theorem Ends.sees {i : Nat} {s : B} (hi : i < T.length) (hs : s ≠ []) (h : sees T i s = true) : i + 1 < T.length := hE i hi (.inr (by unfold Gram.sees at h; rw [eq_of_beq h]; exact hs))
theorem Ends.name {i : Nat} (hi : i < T.length) (h : isName T i = true) : i + 1 < T.length := hE i hi (.inl (by unfold isName at h; rw [eq_of_beq h]; decide))
theorem Ends.num {i : Nat} (hi : i < T.length) (h : isNum T i = true) : i + 1 < T.length := hE i hi (.inl (by unfold isNum at h; rw [eq_of_beq h]; decide))
theorem Ends.val {i : Nat} (hi : i < T.length) (h : isVal T i = true) : i + 1 < T.length := hE.num hi (by unfold isVal at h; simp at h; exact h.1)
theorem Ends.exp {i : Nat} (hi : i < T.length) (h : seesExp T i = true) : i + 1 < T.length := by
  unfold seesExp at h
  simp only [Bool.or_eq_true] at h
  rcases h with (h | h) | h
  · exact hE i hi (.inr fun e => by rw [e, words_ne] at h; cases h)
  · exact hE.name hi h
  · exact hE.val hi h
theorem Ends.sign {i lv : Nat} {s : B × Int × Int} (hi : i < T.length) (h : sign T i lv = some s) : i + 1 < T.length := by
  refine hE i hi (.inr fun e => ?_)
  unfold Gram.sign at h
  rw [e] at h
  have h2 := List.find?_some h
  have h3 := List.mem_of_find?_eq_some h
  have h4 : s.1 = [] := (eq_of_beq h2).symm
  unfold signs at h3
  split at h3 <;> (simp at h3; try (rcases h3 with h3 | h3 | h3 | h3 | h3 | h3) <;> (rw [h3] at h4; cases h4)) <;> (try (rcases h3 with h3 | h3) <;> (rw [h3] at h4; cases h4)) <;> (try (rcases h3 with h3 | h3 | h3) <;> (rw [h3] at h4; cases h4)) <;> (try (rw [h3] at h4; cases h4))
theorem Ends.kind {i : Nat} (hi : i < T.length) (h : (Lex.kindOf (tk T i).text != 0) = true) : i + 1 < T.length := hE i hi (.inr fun e => by rw [e, kind_nil] at h; cases h)
omit hE

variable {α β γ δ : Type} {g : α → β} {k : γ → δ}
theorem Sh.bind {r' : PR β} {r : PR α} {F' : β → Nat → PR δ} {F : α → Nat → PR γ} (h : Sh T c g r' r) (hF : ∀ x i, i < T.length → Sh T c k (F' (g x) i) (F x i)) : Sh T c k (r'.bind F') (r.bind F) := by
  cases r' <;> cases r <;> first | exact h.elim | skip
  · obtain ⟨rfl, rfl, h3⟩ := h; exact hF _ _ h3
  · exact h
  · trivial
theorem Sh.ok {x : α} {i : Nat} {y : β} (hy : y = g x) (hi : i < T.length) : Sh T c g (PR.ok y i) (PR.ok x i) := ⟨hy, rfl, hi⟩
theorem Sh.fail {i : Nat} (hi : i < T.length) (e : Int) : Sh T c g (fail (T.map (Tk.far c)) i e) (fail T i e) := ⟨tk_at hi, rfl⟩
theorem Sh.need {i : Nat} {b : Bool} {r' : PR β} {r : PR α} (hi : i < T.length) (h : b = true → Sh T c g r' r) : Sh T c g (need (T.map (Tk.far c)) i b r') (need T i b r) := by
  unfold Gram.need
  cases b with
  | true => exact h rfl
  | false => exact Sh.fail hi 12
theorem Sh.room {i a m : Nat} {r' : PR β} {r : PR α} (hi : i < T.length) (h : Sh T c g r' r) : Sh T c g (room (T.map (Tk.far c)) i a m r') (room T i a m r) := by
  unfold Gram.room
  by_cases hb : m ≤ a
  · rw [if_pos hb, if_pos hb]; exact Sh.fail hi 2
  · rw [if_neg hb, if_neg hb]; exact h
theorem Sh.ite {p : Prop} [Decidable p] {r' s' : PR β} {r s : PR α} (h : p → Sh T c g r' r) (h2 : ¬ p → Sh T c g s' s) : Sh T c g (if p then r' else s') (if p then r else s) := by
  by_cases hb : p
  · rw [if_pos hb, if_pos hb]; exact h hb
  · rw [if_neg hb, if_neg hb]; exact h2 hb
include hE
theorem expect_far {i : Nat} (s : B) (hs : s ≠ []) (hi : i < T.length) : Sh T c (Tk.far c) (expect (T.map (Tk.far c)) i s) (expect T i s) := by
  unfold expect; rw [sees_far]; exact Sh.need hi fun h => Sh.ok (tk_far hi) (hE.sees hi hs h)
theorem name_far {i : Nat} (hi : i < T.length) : Sh T c id (name (T.map (Tk.far c)) i) (name T i) := by
  unfold name; rw [isName_far, tk_text]; exact Sh.need hi fun h => Sh.ok rfl (hE.name hi h)
theorem size_far {i : Nat} (hi : i < T.length) : Sh T c id (size (T.map (Tk.far c)) i) (size T i) := by
  unfold size; rw [isNum_far, tk_t, tk_n]; exact Sh.need hi fun h => Sh.ok rfl (hE.num hi (by simp at h; exact h.1))
theorem kind_far {i : Nat} (hi : i < T.length) : Sh T c id (kind (T.map (Tk.far c)) i) (kind T i) := by
  unfold kind; rw [tk_text]; exact Sh.need hi fun h => Sh.ok rfl (hE.kind hi h)
theorem edge_far {i : Nat} (hi : i < T.length) : Sh T c id (edge (T.map (Tk.far c)) i) (edge T i) := by
  unfold edge
  rw [sees_far]
  refine Sh.ite (fun h => ?_) fun _ => (name_far hE hi).bind fun x j hj => Sh.ok rfl hj
  exact (name_far hE (hE.sees hi (by decide) h)).bind fun x j hj => Sh.ok rfl hj
theorem indexed_far : ∀ (f : Nat) (e : Exp) (i : Nat), i < T.length → Sh T c (Exp.far c) (indexed (T.map (Tk.far c)) f (e.far c) i) (indexed T f e i)
  | 0, _, _, _ => by unfold indexed; trivial
  | f + 1, e, i, hi => by
    rw [indexed, indexed, sees_far]
    refine Sh.ite (fun h => ?_) fun _ => Sh.ok rfl hi
    refine (size_far hE (hE.sees hi (by decide) h)).bind fun n j hj => (expect_far hE _ (by decide) hj).bind fun _ k hk => ?_
    have e1 := indexed_far f (.mk 16 0 [] 0 0 n 0 [e] e.at_) k hk
    simpa only [Exp.far, farL, Exp.at_far, id] using e1

/-- all parts of an expression -/
def FarE (T : List Tk) (c f : Nat) : Prop :=
  (∀ d i, i < T.length → Sh T c (Exp.far c) (exp (T.map (Tk.far c)) f d i) (exp T f d i)) ∧
  (∀ d lv i, i < T.length → Sh T c (Exp.far c) (read (T.map (Tk.far c)) f d lv i) (read T f d lv i)) ∧
  (∀ d lv a i, i < T.length → Sh T c (Exp.far c) (lefts (T.map (Tk.far c)) f d lv (Exp.far c a) i) (lefts T f d lv a i)) ∧
  (∀ d i, i < T.length → (sees T i [110, 111, 116] || sees T i [45] || sees T i [112, 114, 101]) = true → Sh T c (Exp.far c) (prefixed (T.map (Tk.far c)) f d i) (prefixed T f d i)) ∧
  (∀ d i, i < T.length → Sh T c (Exp.far c) (prim (T.map (Tk.far c)) f d i) (prim T f d i)) ∧
  (∀ d i, i < T.length → Sh T c (List.map (Exp.far c)) (args (T.map (Tk.far c)) f d i) (args T f d i)) ∧
  (∀ d acc i, i < T.length → Sh T c (List.map (Exp.far c)) (exps (T.map (Tk.far c)) f d (acc.map (Exp.far c)) i) (exps T f d acc i)) ∧
  (∀ d t i, i < T.length → Sh T c (Exp.far c) (form (T.map (Tk.far c)) f d (t.far c) i) (form T f d t i))

omit hE in
theorem join_far (s : B × Int × Int) (a b : Exp) : join s (a.far c) (b.far c) = (join s a b).far c := by unfold join; simp only [Exp.far, farL, Exp.at_far]
omit hE in
theorem literal_far (k n a : Int) : literal k n (a + c) = (literal k n a).far c := by unfold literal; simp only [Exp.far, farL]

theorem farE : ∀ f, FarE T c f
  | 0 => by
    refine ⟨?_, ?_, ?_, ?_, ?_, ?_, ?_, ?_⟩ <;> intros
    · unfold exp; trivial
    · unfold read; trivial
    · unfold lefts; trivial
    · unfold prefixed; trivial
    · unfold prim; trivial
    · unfold args; trivial
    · unfold exps; trivial
    · unfold form; trivial
  | f + 1 => by
    obtain ⟨hX, hR, hL, hF, hP, hA, hS, hW⟩ := farE f
    refine ⟨?_, ?_, ?_, ?_, ?_, ?_, ?_, ?_⟩
    · intro d i hi
      rw [exp, exp, seesExp_far]
      exact Sh.need hi fun _ => Sh.room hi (hR _ _ _ hi)
    · intro d lv i hi
      rw [read, read]
      simp only [sees_far, sign_far]
      refine Sh.ite (fun h1 => ?_) fun h1 => Sh.ite (fun h2 => ?_) fun h2 => Sh.ite (fun h3 => ?_) fun h3 => Sh.ite (fun h4 => ?_) fun h4 => ?_
      · refine (hR _ _ _ hi).bind fun a j hj => ?_
        rcases hs : sign T j lv with _ | s
        · exact Sh.ok rfl hj
        · exact (hR _ _ _ (hE.sign hj hs)).bind fun b k hk => Sh.ok (join_far s a b) hk
      · refine (hR _ _ _ hi).bind fun a j hj => ?_
        rcases hs : sign T j lv with _ | s
        · exact Sh.ok rfl hj
        · exact (hR _ _ _ (hE.sign hj hs)).bind fun b k hk => Sh.ok (join_far s a b) hk
      · exact (hR _ _ _ hi).bind fun a j hj => hL _ _ _ _ hj
      · exact Sh.room hi (hF _ _ hi h4)
      · exact (hP _ _ hi).bind fun e j hj => indexed_far hE f e j hj
    · intro d lv a i hi
      rw [lefts, lefts, sign_far]
      rcases hs : sign T i lv with _ | s
      · exact Sh.ok rfl hi
      · refine (hR _ _ _ (hE.sign hi hs)).bind fun b k hk => ?_
        rw [join_far]
        exact hL _ _ _ _ hk
    · intro d i hi h4
      rw [prefixed, prefixed]
      simp only [sees_far, isVal_far, tk_t, tk_n]
      have h5 : i + 1 < T.length := by
        simp only [Bool.or_eq_true] at h4
        rcases h4 with (h4 | h4) | h4 <;> exact hE.sees hi (by decide) h4
      rw [tk_at hi]
      refine Sh.ite (fun h1 => ?_) fun h1 => Sh.ite (fun h2 => ?_) fun h2 => Sh.ite (fun h3 => ?_) fun h3 => ?_
      · exact (hR _ _ _ h5).bind fun x j hj => Sh.ok (by simp only [Exp.far, farL]) hj
      · exact (hR _ _ _ h5).bind fun x j hj => Sh.ok (by simp only [Exp.far, farL]) hj
      · rw [literal_far]; exact indexed_far hE f _ _ (hE.val h5 h3)
      · exact (hR _ _ _ h5).bind fun x j hj => Sh.ok (by simp only [Exp.far, farL]) hj
    · intro d i hi
      rw [prim, prim]
      simp only [sees_far, isVal_far, isName_far, seesExp_far, tk_t, tk_n, tk_text]
      rw [tk_at hi]
      refine Sh.ite (fun h1 => ?_) fun h1 => Sh.ite (fun h2 => ?_) fun h2 => Sh.ite (fun h3 => ?_) fun h3 => ?_
      · exact Sh.need hi fun _ => Sh.ok (literal_far _ _ _) (hE.val hi h1)
      · have h4 := hE.name hi h2
        refine Sh.ite (fun h3 => ?_) fun h3 => Sh.ok (by simp only [Exp.far, farL]) h4
        exact (hA _ _ h4).bind fun l j hj => Sh.ok (by simp only [Exp.far, farL_map]) hj
      · exact (hX _ _ (hE.sees hi (by decide) h3)).bind fun e j hj => (expect_far hE _ (by decide) hj).bind fun _ k hk => Sh.ok rfl hk
      · refine Sh.need hi fun h4 => ?_
        rw [tk_far hi]
        exact hW _ _ _ (hE.exp hi h4)
    · intro d i hi
      rw [args, args]
      refine (expect_far hE _ (by decide) hi).bind fun _ j hj => ?_
      rw [sees_far]
      refine Sh.bind (g := List.map (Exp.far c)) (Sh.ite (fun _ => Sh.ok rfl hj) fun _ => hS _ [] _ hj) fun l k hk => ?_
      exact (expect_far hE _ (by decide) hk).bind fun _ m hm => Sh.ok rfl hm
    · intro d acc i hi
      rw [exps, exps, seesExp_far, List.length_map]
      refine Sh.need hi fun h0 => Sh.room hi ?_
      refine (hX _ _ hi).bind fun e j hj => ?_
      rw [sees_far, show acc.map (Exp.far c) ++ [e.far c] = (acc ++ [e]).map (Exp.far c) by simp]
      exact Sh.ite (fun h4 => hS _ _ _ (hE.sees hj (by decide) h4)) fun _ => Sh.ok rfl hj
    · intro d t i hi
      rw [form, form]
      have ht : (t.far c).text = t.text := rfl
      have ha : (((t.far c).at_ : Nat) : Int) = (t.at_ : Int) + c := by simp [Tk.far]
      simp only [ht, ha]
      refine Sh.ite (fun _ => Sh.ok (by simp only [Exp.far, farL]) hi) fun _ => Sh.ite (fun _ => Sh.ok (by simp only [Exp.far, farL]) hi) fun _ => Sh.ite (fun _ => ?_) fun _ => Sh.ite (fun _ => ?_) fun _ => Sh.ite (fun _ => ?_) fun _ => Sh.ite (fun _ => ?_) fun _ => Sh.ite (fun _ => ?_) fun _ => Sh.ite (fun _ => ?_) fun _ => Sh.ite (fun _ => ?_) fun _ => Sh.ite (fun _ => ?_) fun _ => Sh.ite (fun _ => ?_) fun _ => ?_
      all_goals
        (repeat (first
          | exact Sh.ok (by simp [Exp.far, farL, farL_map]) (by assumption)
          | refine (expect_far hE _ (by decide) (by assumption)).bind fun _ _ _ => ?_
          | refine (name_far hE (by assumption)).bind fun _ _ _ => ?_
          | refine (size_far hE (by assumption)).bind fun _ _ _ => ?_
          | refine (kind_far hE (by assumption)).bind fun _ _ _ => ?_
          | refine (edge_far hE (by assumption)).bind fun _ _ _ => ?_
          | refine (hX _ _ (by assumption)).bind fun _ _ _ => ?_
          | refine (hS _ [] _ (by assumption)).bind fun _ _ _ => ?_
          | refine (hA _ _ (by assumption)).bind fun _ _ _ => ?_))
end
end Go.Proofs.YtjcdkgjfecnkgaaGreatDoor.Gram
