/- The plain mathematics of the grammar: an expression that is read up to a semicolon is read again, places c further on, from the same tokens where a bracket (or a semicolon) stands behind them; or it is too deep there. -/
import Derived.Test.YtjcdkgjfecnkgaaGreatDoorGuB
import Derived.Test.YtjcdkgjfecnkgaaGreatDoorGuE
namespace Go.Proofs.YtjcdkgjfecnkgaaGreatDoor.Gram
open Go.RowKit
open Lex (Tk)

/-- tokens lo to hi of T stand in U, o further on, their places c further on; behind them a semicolon in T, a bracket or a semicolon in U -/
structure Win (T U : List Tk) (lo hi o c : Nat) : Prop where
  tok : ∀ i, lo ≤ i → i < hi → tk U (i + o) = (tk T i).far c
  semi : At T hi (4, [59])
  shut : At U (hi + o) (4, [41]) ∨ At U (hi + o) (4, [59])

/-- what is read of T is read of U, or it is too long there -/
def Wi (lo hi o : Nat) {α β : Type} (g : α → β) (r' : PR β) (r : PR α) : Prop := ∀ x j, r = .ok x j → lo ≤ j ∧ j ≤ hi ∧ (r' = .ok (g x) (j + o) ∨ ∃ a, r' = .bad a 2)

section
variable {T U : List Tk} {lo hi o c : Nat} {α β γ δ : Type} {g : α → β} {k : γ → δ}
theorem Wi.bind {r' : PR β} {r : PR α} {F' : β → Nat → PR δ} {F : α → Nat → PR γ} (h : Wi lo hi o g r' r) (hF : ∀ x j, lo ≤ j → j ≤ hi → Wi lo hi o k (F' (g x) (j + o)) (F x j)) : Wi lo hi o k (r'.bind F') (r.bind F) := by
  intro y m hy
  cases hr : r with
  | bad a e => rw [hr] at hy; cases hy
  | fuel => rw [hr] at hy; cases hy
  | ok x j =>
    rw [hr] at hy
    obtain ⟨h1, h2, h3⟩ := h x j hr
    obtain ⟨h4, h5, h6⟩ := hF x j h1 h2 y m hy
    refine ⟨h4, h5, ?_⟩
    rcases h3 with e | ⟨a, e⟩
    · rw [e]; exact h6
    · rw [e]; exact .inr ⟨a, rfl⟩
theorem Wi.ok {x : α} {i j : Nat} {y : β} (hy : y = g x) (h1 : lo ≤ i) (h2 : i ≤ hi) (hj : j = i + o) : Wi lo hi o g (PR.ok y j) (PR.ok x i) := by
  intro z m h
  injection h with e1 e2
  subst e1; subst e2; subst hj
  exact ⟨h1, h2, .inl (by rw [hy])⟩
theorem Wi.none {r' : PR β} {r : PR α} (h : ∀ x j, r ≠ .ok x j) : Wi lo hi o g r' r := fun x j e => absurd e (h x j)
theorem Wi.need {i j : Nat} {b b' : Bool} {r' : PR β} {r : PR α} (hb : b = true → b' = true) (h : b = true → Wi lo hi o g r' r) : Wi lo hi o g (need U j b' r') (need T i b r) := by
  unfold Gram.need
  cases b with
  | false => exact Wi.none fun x j e => by cases e
  | true => rw [hb rfl]; exact h rfl
theorem Wi.room {i j a a' m : Nat} {r' : PR β} {r : PR α} (h : Wi lo hi o g r' r) (ha : a' = a) : Wi lo hi o g (room U j a' m r') (room T i a m r) := by
  unfold Gram.room
  subst ha
  by_cases hb : m ≤ a'
  · rw [if_pos hb, if_pos hb]; exact Wi.none fun x j e => by cases e
  · rw [if_neg hb, if_neg hb]; exact h
/-- as deep again, or deeper -/
theorem Wi.deep {i j a a' m : Nat} {r' : PR β} {r : PR α} (h : Wi lo hi o g r' r) : Wi lo hi o g (Gram.room U j a' m r') (Gram.room T i a m r) := by
  unfold Gram.room
  by_cases hb : m ≤ a
  · rw [if_pos hb]; exact Wi.none fun x j e => by cases e
  · rw [if_neg hb]
    by_cases hb' : m ≤ a'
    · rw [if_pos hb']
      intro x j' e
      obtain ⟨h1, h2, _⟩ := h x j' e
      exact ⟨h1, h2, .inr ⟨_, rfl⟩⟩
    · rw [if_neg hb']; exact h
theorem Wi.ite {p q : Prop} [Decidable p] [Decidable q] {r' s' : PR β} {r s : PR α} (hq : q ↔ p) (h : p → Wi lo hi o g r' r) (h2 : ¬ p → Wi lo hi o g s' s) : Wi lo hi o g (if q then r' else s') (if p then r else s) := by
  by_cases hb : p
  · rw [if_pos hb, if_pos (hq.2 hb)]; exact h hb
  · rw [if_neg hb, if_neg (fun e => hb (hq.1 e))]; exact h2 hb

variable (W : Win T U lo hi o c)
include W
theorem Win.shutAt : ∃ s, At U (hi + o) (4, s) ∧ (s = [41] ∨ s = [59]) := by
  rcases W.shut with h | h
  · exact ⟨_, h, .inl rfl⟩
  · exact ⟨_, h, .inr rfl⟩
theorem Win.sees {i : Nat} {s : B} (h1 : lo ≤ i) (h2 : i ≤ hi) (hs : (s == [59]) = false) (hs2 : (s == [41]) = false) : sees U (i + o) s = sees T i s := by
  by_cases h : i < hi
  · unfold Gram.sees; rw [W.tok i h1 h]; rfl
  · have e : i = hi := by omega
    subst e
    obtain ⟨z, hz, hz2⟩ := W.shutAt
    rw [hz.sees, W.semi.sees]
    have e1 : (([59] : B) == s) = false := by rw [← hs]; exact BEq.comm
    have e2 : (([41] : B) == s) = false := by rw [← hs2]; exact BEq.comm
    rcases hz2 with rfl | rfl
    · rw [e1, e2]
    · rfl
theorem Win.sees_lt {i : Nat} {s : B} (h2 : i ≤ hi) (hs : (s == [59]) = false) (h : Gram.sees T i s = true) : i < hi := by
  rcases Nat.lt_or_ge i hi with h3 | h3
  · exact h3
  · have e : i = hi := by omega
    subst e
    rw [W.semi.sees] at h
    have e1 : (([59] : B) == s) = false := by rw [← hs]; exact BEq.comm
    rw [e1] at h; cases h
theorem Win.isName {i : Nat} (h1 : lo ≤ i) (h2 : i ≤ hi) : isName U (i + o) = isName T i := by
  by_cases h : i < hi
  · unfold Gram.isName; rw [W.tok i h1 h]; rfl
  · have e : i = hi := by omega
    subst e
    obtain ⟨z, hz, hz2⟩ := W.shutAt
    rw [hz.isName, W.semi.isName]
theorem Win.name_lt {i : Nat} (h2 : i ≤ hi) (h : Gram.isName T i = true) : i < hi := by
  rcases Nat.lt_or_ge i hi with h3 | h3
  · exact h3
  · have e : i = hi := by omega
    subst e
    rw [W.semi.isName] at h; cases h
theorem Win.isNum {i : Nat} (h1 : lo ≤ i) (h2 : i ≤ hi) : isNum U (i + o) = isNum T i := by
  by_cases h : i < hi
  · unfold Gram.isNum; rw [W.tok i h1 h]; rfl
  · have e : i = hi := by omega
    subst e
    obtain ⟨z, hz, hz2⟩ := W.shutAt
    rw [hz.isNum, W.semi.isNum]
theorem Win.num_lt {i : Nat} (h2 : i ≤ hi) (h : Gram.isNum T i = true) : i < hi := by
  rcases Nat.lt_or_ge i hi with h3 | h3
  · exact h3
  · have e : i = hi := by omega
    subst e
    rw [W.semi.isNum] at h; cases h
theorem Win.isVal {i : Nat} (h1 : lo ≤ i) (h2 : i ≤ hi) : isVal U (i + o) = isVal T i := by
  by_cases h : i < hi
  · unfold Gram.isVal Gram.isNum; rw [W.tok i h1 h]; rfl
  · have e : i = hi := by omega
    subst e
    obtain ⟨z, hz, hz2⟩ := W.shutAt
    rw [hz.isVal (by simp), W.semi.isVal (by simp)]
theorem Win.val_lt {i : Nat} (h2 : i ≤ hi) (h : Gram.isVal T i = true) : i < hi := W.num_lt h2 (by unfold Gram.isVal at h; simp at h; exact h.1)
theorem Win.seesExp {i : Nat} (h1 : lo ≤ i) (h2 : i ≤ hi) : seesExp U (i + o) = seesExp T i := by
  by_cases h : i < hi
  · unfold Gram.seesExp Gram.isName Gram.isVal Gram.isNum; rw [W.tok i h1 h]; rfl
  · have e : i = hi := by omega
    subst e
    obtain ⟨z, hz, hz2⟩ := W.shutAt
    rw [hz.seesExp (by simp), W.semi.seesExp (by simp)]
    rcases hz2 with rfl | rfl <;> decide
theorem Win.exp_lt {i : Nat} (h2 : i ≤ hi) (h : Gram.seesExp T i = true) : i < hi := by
  rcases Nat.lt_or_ge i hi with h3 | h3
  · exact h3
  · have e : i = hi := by omega
    subst e
    rw [W.semi.seesExp (by decide)] at h
    exact absurd h (by decide)
theorem Win.sign {i : Nat} (h1 : lo ≤ i) (h2 : i ≤ hi) (lv : Nat) : sign U (i + o) lv = sign T i lv := by
  by_cases h : i < hi
  · unfold Gram.sign; rw [W.tok i h1 h]; rfl
  · have e : i = hi := by omega
    subst e
    obtain ⟨z, hz, hz2⟩ := W.shutAt
    rw [hz.sign, W.semi.sign]
    rw [quiet_sign (by rcases hz2 with rfl | rfl <;> decide), quiet_sign (by decide)]
theorem Win.sign_lt {i lv : Nat} {s : B × Int × Int} (h2 : i ≤ hi) (h : Gram.sign T i lv = some s) : i < hi := by
  rcases Nat.lt_or_ge i hi with h3 | h3
  · exact h3
  · have e : i = hi := by omega
    subst e
    rw [W.semi.sign, quiet_sign (by decide)] at h; cases h
theorem Win.at_ {i : Nat} (h1 : lo ≤ i) (h2 : i < hi) : (((tk U (i + o)).at_ : Nat) : Int) = ((tk T i).at_ : Int) + c := by rw [W.tok i h1 h2]; simp [Tk.far]

theorem expect_win {i : Nat} (s : B) (hs : (s == [59]) = false) (h1 : lo ≤ i) (h2 : i ≤ hi) : Wi lo hi o (Tk.far c) (expect U (i + o) s) (expect T i s) := by
  unfold expect
  by_cases h : sees T i s = true
  · have h3 := W.sees_lt h2 hs h
    have e : sees U (i + o) s = true := by rw [← h]; unfold Gram.sees; rw [W.tok i h1 h3]; rfl
    rw [h, e]
    exact Wi.ok (W.tok i h1 h3) (by omega) (by omega) (by omega)
  · refine Wi.none fun x j e => ?_
    rw [show sees T i s = false by simpa using h] at e
    cases e
theorem name_win {i : Nat} (h1 : lo ≤ i) (h2 : i ≤ hi) : Wi lo hi o id (name U (i + o)) (name T i) := by
  unfold name
  refine Wi.need (fun h => by rw [W.isName h1 h2]; exact h) fun h => ?_
  have h3 := W.name_lt h2 h
  exact Wi.ok (by rw [W.tok i h1 h3]; rfl) (by omega) (by omega) (by omega)
theorem size_win {i : Nat} (h1 : lo ≤ i) (h2 : i ≤ hi) : Wi lo hi o id (size U (i + o)) (size T i) := by
  unfold size
  by_cases h3 : i < hi
  · unfold Gram.isNum
    rw [W.tok i h1 h3]
    exact Wi.need (fun h => h) fun h => Wi.ok rfl (by omega) (by omega) (by omega)
  · have e : i = hi := by omega
    subst e
    rw [W.semi.isNum]
    exact Wi.none fun x j e => by cases e
theorem kind_win {i : Nat} (h1 : lo ≤ i) (h2 : i ≤ hi) : Wi lo hi o id (kind U (i + o)) (kind T i) := by
  unfold kind
  by_cases h3 : i < hi
  · rw [W.tok i h1 h3]
    exact Wi.need (fun h => h) fun h => Wi.ok rfl (by omega) (by omega) (by omega)
  · have e : i = hi := by omega
    subst e
    rw [W.semi.2, show (Lex.kindOf [59] != 0) = false by decide]
    exact Wi.none fun x j e => by cases e
theorem edge_win {i : Nat} (h1 : lo ≤ i) (h2 : i ≤ hi) : Wi lo hi o id (edge U (i + o)) (edge T i) := by
  unfold edge
  refine Wi.ite (by rw [W.sees h1 h2 (by decide) (by decide)]) (fun h => ?_) fun _ => (name_win W h1 h2).bind fun x j a1 a2 => Wi.ok rfl a1 a2 rfl
  have h3 := W.sees_lt h2 (by decide) h
  rw [show i + o + 1 = i + 1 + o by omega]
  exact (name_win W (by omega) (by omega)).bind fun x j a1 a2 => Wi.ok rfl a1 a2 rfl
theorem indexed_win : ∀ (f f' : Nat) (e : Exp) (i : Nat), f ≤ f' → lo ≤ i → i ≤ hi → Wi lo hi o (Exp.far c) (indexed U f' (e.far c) (i + o)) (indexed T f e i)
  | 0, _, _, _, _, _, _ => by unfold indexed; exact Wi.none fun x j e => by cases e
  | f + 1, 0, _, _, h, _, _ => by omega
  | f + 1, f' + 1, e, i, hf, h1, h2 => by
    rw [indexed, indexed]
    refine Wi.ite (by rw [W.sees h1 h2 (by decide) (by decide)]) (fun h => ?_) fun _ => Wi.ok rfl h1 h2 rfl
    have h3 := W.sees_lt h2 (by decide) h
    rw [show i + o + 1 = i + 1 + o by omega]
    refine (size_win W (by omega) (by omega)).bind fun n j a1 a2 => (expect_win W _ (by decide) a1 a2).bind fun _ k b1 b2 => ?_
    have e1 := indexed_win f f' (.mk 16 0 [] 0 0 n 0 [e] e.at_) k (by omega) b1 b2
    simpa only [Exp.far, farL, Exp.at_far, id] using e1
end

/-- all parts of an expression -/
def WinE (T U : List Tk) (lo hi o c f : Nat) : Prop :=
  (∀ f' d d' i, f ≤ f' → lo ≤ i → i ≤ hi → Wi lo hi o (Exp.far c) (exp U f' d' (i + o)) (exp T f d i)) ∧
  (∀ f' d d' lv i, f ≤ f' → lo ≤ i → i ≤ hi → Wi lo hi o (Exp.far c) (read U f' d' lv (i + o)) (read T f d lv i)) ∧
  (∀ f' d d' lv a i, f ≤ f' → lo ≤ i → i ≤ hi → Wi lo hi o (Exp.far c) (lefts U f' d' lv (Exp.far c a) (i + o)) (lefts T f d lv a i)) ∧
  (∀ f' d d' i, f ≤ f' → lo ≤ i → i ≤ hi → (sees T i [110, 111, 116] || sees T i [45] || sees T i [112, 114, 101]) = true → Wi lo hi o (Exp.far c) (prefixed U f' d' (i + o)) (prefixed T f d i)) ∧
  (∀ f' d d' i, f ≤ f' → lo ≤ i → i ≤ hi → Wi lo hi o (Exp.far c) (prim U f' d' (i + o)) (prim T f d i)) ∧
  (∀ f' d d' i, f ≤ f' → lo ≤ i → i ≤ hi → Wi lo hi o (List.map (Exp.far c)) (args U f' d' (i + o)) (args T f d i)) ∧
  (∀ f' d d' acc i, f ≤ f' → lo ≤ i → i ≤ hi → Wi lo hi o (List.map (Exp.far c)) (exps U f' d' (acc.map (Exp.far c)) (i + o)) (exps T f d acc i)) ∧
  (∀ f' d d' t i, f ≤ f' → lo ≤ i → i ≤ hi → Wi lo hi o (Exp.far c) (form U f' d' (t.far c) (i + o)) (form T f d t i))

theorem winE {T U : List Tk} {lo hi o c : Nat} (W : Win T U lo hi o c) : ∀ f, WinE T U lo hi o c f
  | 0 => by
    refine ⟨?_, ?_, ?_, ?_, ?_, ?_, ?_, ?_⟩ <;> intros
    · unfold exp; exact Wi.none fun x j e => by cases e
    · unfold read; exact Wi.none fun x j e => by cases e
    · unfold lefts; exact Wi.none fun x j e => by cases e
    · unfold prefixed; exact Wi.none fun x j e => by cases e
    · unfold prim; exact Wi.none fun x j e => by cases e
    · unfold args; exact Wi.none fun x j e => by cases e
    · unfold exps; exact Wi.none fun x j e => by cases e
    · unfold form; exact Wi.none fun x j e => by cases e
  | f + 1 => by
    obtain ⟨hX, hR, hL, hF, hP, hA, hS, hW⟩ := winE W f
    refine ⟨?_, ?_, ?_, ?_, ?_, ?_, ?_, ?_⟩
    · intro f' d d' i hf h1 h2
      obtain ⟨q, rfl⟩ : ∃ q, f' = q + 1 := ⟨f' - 1, by omega⟩
      rw [exp, exp]
      exact Wi.need (fun h => by rw [W.seesExp h1 h2]; exact h) fun _ => Wi.deep (hR _ _ _ _ _ (by omega) h1 h2)
    · intro f' d d' lv i hf h1 h2
      obtain ⟨q, rfl⟩ : ∃ q, f' = q + 1 := ⟨f' - 1, by omega⟩
      rw [read, read]
      rw [W.sees h1 h2 (by decide) (by decide), W.sees h1 h2 (by decide) (by decide), W.sees h1 h2 (by decide) (by decide)]
      refine Wi.ite Iff.rfl (fun c1 => ?_) fun c1 => Wi.ite Iff.rfl (fun c2 => ?_) fun c2 => Wi.ite Iff.rfl (fun c3 => ?_) fun c3 => Wi.ite Iff.rfl (fun c4 => ?_) fun c4 => ?_
      · refine (hR _ _ _ _ _ (by omega) h1 h2).bind fun a j a1 a2 => ?_
        rw [W.sign a1 a2]
        rcases hs : sign T j lv with _ | s
        · exact Wi.ok rfl a1 a2 rfl
        · have a3 := W.sign_lt a2 hs
          rw [show j + o + 1 = j + 1 + o by omega]
          exact (hR _ _ _ _ _ (by omega) (by omega) (by omega)).bind fun b k b1 b2 => Wi.ok (join_far s a b) b1 b2 rfl
      · refine (hR _ _ _ _ _ (by omega) h1 h2).bind fun a j a1 a2 => ?_
        rw [W.sign a1 a2]
        rcases hs : sign T j lv with _ | s
        · exact Wi.ok rfl a1 a2 rfl
        · have a3 := W.sign_lt a2 hs
          rw [show j + o + 1 = j + 1 + o by omega]
          exact (hR _ _ _ _ _ (by omega) (by omega) (by omega)).bind fun b k b1 b2 => Wi.ok (join_far s a b) b1 b2 rfl
      · exact (hR _ _ _ _ _ (by omega) h1 h2).bind fun a j a1 a2 => hL _ _ _ _ _ _ (by omega) a1 a2
      · exact Wi.deep (hF _ _ _ _ (by omega) h1 h2 c4)
      · exact (hP _ _ _ _ (by omega) h1 h2).bind fun e j a1 a2 => indexed_win W f q e j (by omega) a1 a2
    · intro f' d d' lv a i hf h1 h2
      obtain ⟨q, rfl⟩ : ∃ q, f' = q + 1 := ⟨f' - 1, by omega⟩
      rw [lefts, lefts, W.sign h1 h2]
      rcases hs : sign T i lv with _ | s
      · exact Wi.ok rfl h1 h2 rfl
      · have a3 := W.sign_lt h2 hs
        rw [show i + o + 1 = i + 1 + o by omega]
        refine (hR _ _ _ _ _ (by omega) (by omega) (by omega)).bind fun b k b1 b2 => ?_
        rw [join_far]
        exact hL _ _ _ _ _ _ (by omega) b1 b2
    · intro f' d d' i hf h1 h2 h4
      obtain ⟨q, rfl⟩ : ∃ q, f' = q + 1 := ⟨f' - 1, by omega⟩
      have h3 : i < hi := by
        simp only [Bool.or_eq_true] at h4
        rcases h4 with (h4 | h4) | h4 <;> exact W.sees_lt h2 (by decide) h4
      rw [prefixed, prefixed]
      rw [W.sees h1 h2 (by decide) (by decide), W.sees h1 h2 (by decide) (by decide)]
      rw [show i + o + 1 = i + 1 + o by omega, show i + o + 2 = i + 2 + o by omega, W.isVal (by omega) (by omega), W.at_ h1 h3]
      refine Wi.ite Iff.rfl (fun c1 => ?_) fun c1 => Wi.ite Iff.rfl (fun c2 => ?_) fun c2 => Wi.ite Iff.rfl (fun c3 => ?_) fun c3 => ?_
      · exact (hR _ _ _ _ _ (by omega) (by omega) (by omega)).bind fun x j a1 a2 => Wi.ok (by simp only [Exp.far, farL]) a1 a2 rfl
      · exact (hR _ _ _ _ _ (by omega) (by omega) (by omega)).bind fun x j a1 a2 => Wi.ok (by simp only [Exp.far, farL]) a1 a2 rfl
      · have c4 := W.val_lt (by omega) c3
        rw [W.tok (i + 1) (by omega) c4]
        show Wi lo hi o _ (indexed U q (literal (tk T (i + 1)).t (Bv.wrp (tk T (i + 1)).t (wrap64 (-(tk T (i + 1)).n))) ((tk T i).at_ + c)) (i + 2 + o)) _
        rw [literal_far]; exact indexed_win W f q _ _ (by omega) (by omega) (by omega)
      · exact (hR _ _ _ _ _ (by omega) (by omega) (by omega)).bind fun x j a1 a2 => Wi.ok (by simp only [Exp.far, farL]) a1 a2 rfl
    · intro f' d d' i hf h1 h2
      obtain ⟨q, rfl⟩ : ∃ q, f' = q + 1 := ⟨f' - 1, by omega⟩
      rw [prim, prim]
      rw [W.isVal h1 h2, W.isName h1 h2, W.sees h1 h2 (s := [40]) (by decide) (by decide), W.seesExp h1 h2, show i + o + 1 = i + 1 + o by omega]
      refine Wi.ite Iff.rfl (fun c1 => ?_) fun c1 => Wi.ite Iff.rfl (fun c2 => ?_) fun c2 => Wi.ite Iff.rfl (fun c3 => ?_) fun c3 => ?_
      · have c4 := W.val_lt h2 c1
        rw [W.tok i h1 c4]
        exact Wi.need (fun h => h) fun _ => Wi.ok (by show literal (tk T i).t (tk T i).n (((tk T i).at_ + c : Nat) : Int) = _; rw [Int.natCast_add, literal_far]) (by omega) (by omega) rfl
      · have c4 := W.name_lt h2 c2
        rw [W.tok i h1 c4, W.sees (by omega) (by omega) (by decide) (by decide)]
        refine Wi.ite Iff.rfl (fun c3 => ?_) fun c3 => Wi.ok (by simp [Exp.far, farL, Tk.far]) (by omega) (by omega) rfl
        exact (hA _ _ _ _ (by omega) (by omega) (by omega)).bind fun l j a1 a2 => Wi.ok (by simp [Exp.far, farL_map, Tk.far]) a1 a2 rfl
      · have c4 := W.sees_lt h2 (by decide) c3
        exact (hX _ _ _ _ (by omega) (by omega) (by omega)).bind fun e j a1 a2 => (expect_win W _ (by decide) a1 a2).bind fun _ k b1 b2 => Wi.ok rfl b1 b2 rfl
      · refine Wi.need (fun h => h) fun h4 => ?_
        have c4 := W.exp_lt h2 h4
        rw [W.tok i h1 c4]
        exact hW _ _ _ _ _ (by omega) (by omega) (by omega)
    · intro f' d d' i hf h1 h2
      obtain ⟨q, rfl⟩ : ∃ q, f' = q + 1 := ⟨f' - 1, by omega⟩
      rw [args, args]
      refine (expect_win W _ (by decide) h1 h2).bind fun _ j a1 a2 => ?_
      have key : Wi lo hi o (List.map (Exp.far c)) (if sees U (j + o) [41] = true then PR.ok [] (j + o) else exps U q d' [] (j + o)) (if sees T j [41] = true then PR.ok [] j else exps T f d [] j) := by
        by_cases h3 : j < hi
        · have e : sees U (j + o) [41] = sees T j [41] := by unfold Gram.sees; rw [W.tok j a1 h3]; rfl
          rw [e]
          exact Wi.ite Iff.rfl (fun _ => Wi.ok rfl a1 a2 rfl) fun _ => hS _ _ _ [] _ (by omega) a1 a2
        · have e : j = hi := by omega
          subst e
          have e2 : (if sees T j [41] = true then PR.ok [] j else exps T f d [] j) = exps T f d [] j := by rw [W.semi.sees]; exact if_neg (by decide)
          rw [e2]
          refine Wi.none fun x k e => ?_
          cases f with
          | zero => rw [exps] at e; cases e
          | succ f =>
            rw [exps, W.semi.seesExp (by decide)] at e
            rw [show (expWords.contains ((4, [59]) : Int × B).2 || ((4, [59]) : Int × B).1 == 1) = false by decide] at e
            cases e
      exact key.bind fun l k b1 b2 => (expect_win W _ (by decide) b1 b2).bind fun _ m m1 m2 => Wi.ok rfl m1 m2 rfl
    · intro f' d d' acc i hf h1 h2
      obtain ⟨q, rfl⟩ : ∃ q, f' = q + 1 := ⟨f' - 1, by omega⟩
      rw [exps, exps, List.length_map]
      refine Wi.need (fun h => by rw [W.seesExp h1 h2]; exact h) fun h0 => Wi.room ?_ rfl
      refine (hX _ _ _ _ (by omega) h1 h2).bind fun e j a1 a2 => ?_
      rw [show acc.map (Exp.far c) ++ [e.far c] = (acc ++ [e]).map (Exp.far c) by simp]
      refine Wi.ite (by rw [W.sees a1 a2 (by decide) (by decide)]) (fun h4 => ?_) fun _ => Wi.ok rfl a1 a2 rfl
      have a3 := W.sees_lt a2 (by decide) h4
      rw [show j + o + 1 = j + 1 + o by omega]
      exact hS _ _ _ _ _ (by omega) (by omega) (by omega)
    · intro f' d d' t i hf h1 h2
      obtain ⟨q, rfl⟩ : ∃ q, f' = q + 1 := ⟨f' - 1, by omega⟩
      have hfq : f ≤ q := by omega
      rw [form, form]
      have ht : (t.far c).text = t.text := rfl
      have ha : (((t.far c).at_ : Nat) : Int) = (t.at_ : Int) + c := by simp [Tk.far]
      simp only [ht, ha]
      refine Wi.ite Iff.rfl (fun _ => Wi.ok (by simp only [Exp.far, farL]) h1 h2 rfl) fun _ => Wi.ite Iff.rfl (fun _ => Wi.ok (by simp only [Exp.far, farL]) h1 h2 rfl) fun _ => Wi.ite Iff.rfl (fun _ => ?_) fun _ => Wi.ite Iff.rfl (fun _ => ?_) fun _ => Wi.ite Iff.rfl (fun _ => ?_) fun _ => Wi.ite Iff.rfl (fun _ => ?_) fun _ => Wi.ite Iff.rfl (fun _ => ?_) fun _ => Wi.ite Iff.rfl (fun _ => ?_) fun _ => Wi.ite Iff.rfl (fun _ => ?_) fun _ => Wi.ite Iff.rfl (fun _ => ?_) fun _ => Wi.ite Iff.rfl (fun _ => ?_) fun _ => ?_
      all_goals
        (repeat (first
          | exact Wi.ok (by simp [Exp.far, farL, farL_map]) (by assumption) (by assumption) rfl
          | refine (expect_win W _ (by decide) (by assumption) (by assumption)).bind fun _ _ _ _ => ?_
          | refine (name_win W (by assumption) (by assumption)).bind fun _ _ _ _ => ?_
          | refine (size_win W (by assumption) (by assumption)).bind fun _ _ _ _ => ?_
          | refine (kind_win W (by assumption) (by assumption)).bind fun _ _ _ _ => ?_
          | refine (edge_win W (by assumption) (by assumption)).bind fun _ _ _ _ => ?_
          | refine (hX _ _ _ _ hfq (by assumption) (by assumption)).bind fun _ _ _ _ => ?_
          | refine (hS _ _ _ [] _ hfq (by assumption) (by assumption)).bind fun _ _ _ _ => ?_
          | refine (hA _ _ _ _ hfq (by assumption) (by assumption)).bind fun _ _ _ _ => ?_))
end Go.Proofs.YtjcdkgjfecnkgaaGreatDoor.Gram
