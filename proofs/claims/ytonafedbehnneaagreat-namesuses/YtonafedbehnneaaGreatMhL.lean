/- My texts RqI NpA RqJ, joined. -/
import Derived.Test.YtonafedbehnneaaGreatMhI
import Derived.Test.YtonafedbehnneaaGreatMhK
import Derived.Test.YtonafedbehnneaaGreatMhJ
set_option linter.unusedVariables false
set_option linter.unusedSimpArgs false
set_option linter.unnecessarySimpa false
set_option linter.unusedSectionVars false
set_option maxHeartbeats 12800000
set_option maxRecDepth 20000
namespace Go.Proofs.YtonafedbehnneaaGreat.Gram.Rf
open Go.RowKit
open Lex (Tk)
mutual
def ok1 : Exp → Bool
 | .mk f _ _ _ _ _ _ ks _ => (!Nam.leaf f || ks.isEmpty) && okL ks
def okL : List Exp → Bool
 | [] => true
 | x :: r => ok1 x && okL r
end
mutual
def sz : Exp → Nat
 | .mk _ _ _ _ _ _ _ ks _ => 1 + szL ks
def szL : List Exp → Nat
 | [] => 0
 | x :: r => sz x + szL r
end
theorem okL_app : ∀ a b, okL (a ++ b) = (okL a && okL b)
 | [], b => by simp [okL]
 | x :: r, b => by simp [okL, okL_app r b, Bool.and_assoc]
theorem szL_app : ∀ a b, szL (a ++ b) = szL a + szL b
 | [], b => by simp [szL]
 | x :: r, b => by simp [szL, szL_app r b, Nat.add_assoc]
def Of (x : Exp) (s s' : St) : Prop := ok1 x = true ∧ (s'.e = 0 → s.e = 0 ∧ s.i + sz x ≤ s'.i)
def OfL (l : List Exp) (s s' : St) : Prop := okL l = true ∧ (s'.e = 0 → s.e = 0 ∧ s.i + szL l ≤ s'.i)
section
variable {T : List Tk} {α β : Type} {s s1 s2 : St}
theorem bindS_some {r : Option (α × St)} {F : α → St → Option (β × St)} {y : β} {s' : St} (h : bindS r F = some (y, s')) : ∃ x s, r = some (x, s) ∧ F x s = some (y, s') := by
 cases r with
 | none => cases h
 | some x => exact ⟨x.1, x.2, rfl, h⟩
def On (k : Nat) (s s' : St) : Prop := s'.e = 0 → s.e = 0 ∧ s.i + k ≤ s'.i
theorem On.refl (s : St) : On 0 s s := fun h => ⟨h, by omega⟩
theorem On.trans {k j : Nat} {a b c : St} (h : On k a b) (g : On j b c) : On (k + j) a c := fun h0 => by
 have h1 := g h0
 have h2 := h h1.1
 exact ⟨h2.1, by omega⟩
theorem On.mono {k j : Nat} {a b : St} (h : On k a b) (hj : j ≤ k) : On j a b := fun h0 => ⟨(h h0).1, by have := h h0; omega⟩
theorem fail_on (c : Int) (hc : ¬ c = 0) (k : Nat) (a s : St) : On k a (fail T c s) := (fail_fw (T := T) c hc k a s).2
theorem take_on {w : B} (hw : w ≠ []) (s : St) : On 1 s (take T w s) := (take_fw (T := T) hw s).2
theorem name_on (s : St) : On 1 s (name T s).2 := (name_fw (T := T) s).2
theorem size_on (s : St) : On 1 s (size T s).2 := (size_fw (T := T) s).2
theorem kind_on (s : St) : On 1 s (kind T s).2 := (kind_fw (T := T) s).2
theorem maybe_on {w : B} (hw : w ≠ []) (s : St) : On 0 s (maybe T w s) := by
 unfold maybe
 split
 ·next h => exact fun _ => ⟨(is_lt hw h).1, by show s.i + 0 ≤ s.i + 1; omega⟩
 ·exact On.refl s
theorem edge_on (s : St) : On 1 s (edge T s).2 := ((maybe_on (by decide) s).trans (name_on _)).mono (by omega)
theorem adv_on (h : s.e = 0) : On 1 s (adv s) := fun _ => ⟨h, Nat.le_refl _⟩
theorem opened_on (s : St) : On 0 s (opened s) := fun h => ⟨h, Nat.le_refl _⟩
theorem closed_on (s : St) : On 0 s (closed s) := fun h => ⟨h, Nat.le_refl _⟩
theorem Of.on {x : Exp} {a b : St} (h : Of x a b) : On (sz x) a b := h.2
theorem OfL.on {x : List Exp} {a b : St} (h : OfL x a b) : On (szL x) a b := h.2
theorem Of.mk {f u tk tl n m at_ : Int} {nm : B} {ks : List Exp} {a b : St} (hl : Nam.leaf f = false ∨ ks = []) (hk : okL ks = true) (h : On (1 + szL ks) a b) : Of (.mk f u nm tk tl n m ks at_) a b := by
 refine ⟨?_, ?_⟩
 ·simp only [ok1, hk, Bool.and_true]
  rcases hl with hl | hl
  ·simp [hl]
  ·simp [hl]
 ·simp only [sz]; exact h
theorem ok_one {x : Exp} (h : ok1 x = true) : okL [x] = true := by simp [okL, h]
theorem ok_two {x y : Exp} (h : ok1 x = true) (g : ok1 y = true) : okL [x, y] = true := by simp [okL, h, g]
theorem sz_one (x : Exp) : szL [x] = sz x := by simp [szL]
theorem sz_two (x y : Exp) : szL [x, y] = sz x + sz y := by simp [szL]
end
theorem indexed_of (T : List Tk) : ∀ f x s a x' s', ok1 x = true → On (sz x) a s → indexed T f x s = some (x', s') → Of x' a s'
 | 0, _, _, _, _, _, _, _, h => by cases h
 | f + 1, x, s, a, x', s', hx, ha, h => by
  unfold indexed at h
  split at h
  ·next hi =>
   have h1 := adv_on (is_lt (by decide) hi).1
   have h2 := ((ha.trans h1).trans (size_on (T := T) (adv s))).trans (take_on (T := T) (w := [93]) (by decide) _)
   refine indexed_of T f _ _ a x' s' ?_ ?_ h
   ·simp [ok1, ok_one hx, Nam.leaf]
   ·exact h2.mono (by simp only [sz, sz_one]; omega)
  ·cases h; exact ⟨hx, ha⟩
structure Gd (T : List Tk) (f : Nat) : Prop where
 exp : ∀ s x s', Rf.exp T f s = some (x, s') → Of x s s'
 arrow : ∀ s x s', Rf.arrow T f s = some (x, s') → Of x s s'
 fby : ∀ s x s', Rf.fby T f s = some (x, s') → Of x s s'
 imp : ∀ s x s', Rf.imp T f s = some (x, s') → Of x s s'
 level : ∀ n s x s', Rf.level T f n s = some (x, s') → Of x s s'
 levels : ∀ n a s b x s', ok1 a = true → On (sz a) b s → Rf.levels T f n a s = some (x, s') → Of x b s'
 unary : ∀ s x s', Rf.unary T f s = some (x, s') → Of x s s'
 signed : ∀ s x s', Rf.signed T f s = some (x, s') → Of x s s'
 exps : ∀ l s b l' s', okL l = true → On (szL l) b s → Rf.exps T f l s = some (l', s') → OfL l' b s'
 call : ∀ s l s', Rf.call T f s = some (l, s') → OfL l s s'
 prim : ∀ s x s', Rf.prim T f s = some (x, s') → Of x s s'
 wordE : ∀ t s x s', s.e = 0 → Rf.wordE T f t s = some (x, s') → Of x s s'
theorem zero_of (T : List Tk) (c : Int) (hc : ¬ c = 0) (a s : St) : Of zeroExp a (fail T c s) := ⟨by decide, fail_on c hc _ a s⟩
theorem form0_of (T : List Tk) (at_ : Int) (a s : St) : Of (.mk 0 0 [] 0 0 0 0 [] at_) a (fail T 12 s) := Of.mk (.inr rfl) rfl (fail_on 12 (by decide) _ a s)
theorem two_of {f u : Int} (hf : Nam.leaf f = false) {x y : Exp} {a b c d : St} (hx : Of x a b) (hb : On 1 b c) (hy : Of y c d) : Of (two f u x y) a d :=
 Of.mk (.inl hf) (ok_two hx.1 hy.1) (((hx.on.trans hb).trans hy.on).mono (by rw [sz_two]; omega))
theorem gd (T : List Tk) : ∀ f, Gd T f
 | 0 => ⟨fun _ _ _ h => (by cases h), fun _ _ _ h => (by cases h), fun _ _ _ h => (by cases h), fun _ _ _ h => (by cases h), fun _ _ _ _ h => (by cases h), fun _ _ _ _ _ _ _ _ h => (by cases h), fun _ _ _ h => (by cases h), fun _ _ _ h => (by cases h), fun _ _ _ _ _ _ _ h => (by cases h), fun _ _ _ h => (by cases h), fun _ _ _ h => (by cases h), fun _ _ _ _ _ h => (by cases h)⟩
 | f + 1 => by
  have E := gd T f
  constructor
  ·intro s x s' h
   unfold Rf.exp at h
   split at h
   ·cases h; exact zero_of T 2 (by decide) _ _
   ·obtain ⟨y, s1, h1, h2⟩ := bindS_some h
    cases h2
    exact ⟨(E.arrow _ _ _ h1).1, (((opened_on s).trans (E.arrow _ _ _ h1).on).trans (closed_on s1)).mono (by omega)⟩
  ·intro s x s' h
   unfold Rf.arrow at h
   obtain ⟨y, s1, h1, h2⟩ := bindS_some h
   split at h2
   ·next hi =>
    obtain ⟨z, s3, h3, h4⟩ := bindS_some h2
    cases h4
    exact two_of (by decide) (E.fby _ _ _ h1) (adv_on (is_lt (by decide) hi).1) (E.arrow _ _ _ h3)
   ·cases h2; exact E.fby _ _ _ h1
  ·intro s x s' h
   unfold Rf.fby at h
   obtain ⟨y, s1, h1, h2⟩ := bindS_some h
   split at h2
   ·next hi =>
    obtain ⟨z, s3, h3, h4⟩ := bindS_some h2
    cases h4
    exact two_of (by decide) (E.imp _ _ _ h1) (adv_on (is_lt (by decide) hi).1) (E.fby _ _ _ h3)
   ·cases h2; exact E.imp _ _ _ h1
  ·intro s x s' h
   unfold Rf.imp at h
   obtain ⟨y, s1, h1, h2⟩ := bindS_some h
   split at h2
   ·next hi =>
    obtain ⟨z, s3, h3, h4⟩ := bindS_some h2
    cases h4
    exact two_of (by decide) (E.level _ _ _ _ h1) (adv_on (is_lt (by decide) hi).1) (E.imp _ _ _ h3)
   ·cases h2; exact E.level _ _ _ _ h1
  ·intro n s x s' h
   unfold Rf.level at h
   split at h
   ·exact E.unary _ _ _ h
   ·obtain ⟨y, s1, h1, h2⟩ := bindS_some h
    have h3 := E.level _ _ _ _ h1
    exact E.levels _ _ _ _ _ _ h3.1 h3.on h2
  ·intro n a s b x s' ha hb h
   unfold Rf.levels at h
   split at h
   ·cases h; exact ⟨ha, hb⟩
   ·next hi =>
    obtain ⟨y, s1, h1, h2⟩ := bindS_some h
    have h3 := two_of (f := 4) (u := inf T n s) (by decide) ⟨ha, hb⟩ (adv_on (inf_lt hi).1) (E.level _ _ _ _ h1)
    split at h2
    ·cases h2; exact h3
    ·exact E.levels _ _ _ _ _ _ h3.1 h3.on h2
  ·intro s x s' h
   unfold Rf.unary at h
   split at h
   ·split at h
    ·cases h; exact zero_of T 2 (by decide) _ _
    ·obtain ⟨y, s1, h1, h2⟩ := bindS_some h
     cases h2
     exact ⟨(E.signed _ _ _ h1).1, (((opened_on s).trans (E.signed _ _ _ h1).on).trans (closed_on s1)).mono (by omega)⟩
   ·exact E.signed _ _ _ h
  ·intro s x s' h
   unfold Rf.signed at h
   simp only at h
   have un : ∀ (ff u : Int) (hl : Nam.leaf ff = false) {w : B} (hi : is T w s = true) (hw : w ≠ []) {at_ : Int} {y : Exp} {s1 : St}, Rf.unary T f (adv s) = some (y, s1) → Of (.mk ff u [] 0 0 0 0 [y] at_) s s1 := fun ff u hl w hi hw at_ y s1 h1 =>
    Of.mk (.inl hl) (ok_one (E.unary _ _ _ h1).1) (((adv_on (is_lt hw hi).1).trans (E.unary _ _ _ h1).on).mono (by rw [sz_one]; omega))
   split at h
   ·next hi =>
    obtain ⟨y, s1, h1, h2⟩ := bindS_some h
    cases h2
    exact un 3 1 (by decide) hi (by decide) h1
   split at h
   ·next hi =>
    obtain ⟨y, s1, h1, h2⟩ := bindS_some h
    cases h2
    exact un 6 0 (by decide) hi (by decide) h1
   split at h
   ·next hi =>
    split at h
    ·exact indexed_of T f _ _ _ _ _ (by simp [ok1, okL]) (((adv_on (is_lt (by decide) hi).1).trans (adv_on (s := adv s) (is_lt (by decide) hi).1)).mono (by simp [sz, szL])) h
    ·obtain ⟨y, s1, h1, h2⟩ := bindS_some h
     cases h2
     exact un 3 2 (by decide) hi (by decide) h1
   ·obtain ⟨y, s1, h1, h2⟩ := bindS_some h
    exact indexed_of T f _ _ _ _ _ (E.prim _ _ _ h1).1 (E.prim _ _ _ h1).on h2
  ·intro l s b l' s' hl hb h
   unfold Rf.exps at h
   split at h
   ·split at h
    ·cases h; exact ⟨hl, fail_on 2 (by decide) _ _ _⟩
    ·obtain ⟨y, s1, h1, h2⟩ := bindS_some h
     have h3 := E.exp _ _ _ h1
     have h4 : okL (l ++ [y]) = true := by rw [okL_app, hl, ok_one h3.1]; rfl
     have h5 : On (szL (l ++ [y])) b s1 := (hb.trans h3.on).mono (by rw [szL_app, sz_one]; omega)
     split at h2
     ·next hi => exact E.exps _ _ _ _ _ h4 ((h5.trans (adv_on (is_lt (by decide) hi).1)).mono (by omega)) h2
     ·cases h2; exact ⟨h4, h5⟩
   ·cases h; exact ⟨hl, hb⟩
  ·intro s l s' h
   unfold Rf.call at h
   simp only at h
   split at h
   ·cases h; exact ⟨rfl, ((take_on (T := T) (w := [40]) (by decide) s).trans (take_on (by decide) _)).mono (by simp [szL])⟩
   ·obtain ⟨y, s1, h1, h2⟩ := bindS_some h
    cases h2
    have h3 := E.exps _ _ s _ _ rfl ((take_on (T := T) (w := [40]) (by decide) s).mono (by simp [szL])) h1
    exact ⟨h3.1, (h3.on.trans (take_on (by decide) _)).mono (by omega)⟩
  ·intro s x s' h
   unfold Rf.prim at h
   simp only at h
   split at h
   ·next h0 =>
    have ha := adv_on h0
    split at h
    ·split at h
     ·obtain ⟨y, s1, h1, h2⟩ := bindS_some h
      cases h2
      have h3 := E.call _ _ _ h1
      exact Of.mk (.inl (by decide)) h3.1 ((ha.trans h3.on).mono (by omega))
     ·cases h; exact Of.mk (.inr rfl) rfl (ha.mono (by simp [szL]))
    split at h
    ·split at h
     ·cases h; exact form0_of T _ _ _
     ·cases h; exact Of.mk (.inr rfl) rfl (ha.mono (by simp [szL]))
    split at h
    ·split at h
     ·obtain ⟨y, s1, h1, h2⟩ := bindS_some h
      cases h2
      have h3 := E.exp _ _ _ h1
      exact ⟨h3.1, ((ha.trans h3.on).trans (take_on (by decide) _)).mono (by omega)⟩
     split at h
     ·obtain ⟨y, s1, h1, h2⟩ := bindS_some h
      cases h2
      have h3 := E.exps [] (adv s) (adv s) _ _ rfl (show On (szL []) (adv s) (adv s) from On.refl _) h1
      exact Of.mk (.inl (by decide)) h3.1 (((ha.trans h3.on).trans (take_on (by decide) _)).mono (by omega))
     ·cases h; exact form0_of T _ _ _
    split at h
    ·exact E.wordE _ _ _ _ h0 h
    ·cases h; exact form0_of T _ _ _
   ·next h0 => cases h; exact Of.mk (.inr rfl) rfl (fun e => absurd e h0)
  ·intro t s x s' h0 h
   unfold Rf.wordE at h
   simp only at h
   have ha := adv_on h0
   have h1 := ha.trans (take_on (T := T) (w := [40]) (by decide) (adv s))
   have hn := h1.trans (name_on (T := T) (take T [40] (adv s)))
   by_cases c0 : t.text = [116, 114, 117, 101]
   ·rw [if_pos c0] at h
    cases h; exact Of.mk (.inr rfl) rfl (ha.mono (by simp [szL]))
   rw [if_neg c0] at h
   by_cases c1 : t.text = [102, 97, 108, 115, 101]
   ·rw [if_pos c1] at h
    cases h; exact Of.mk (.inr rfl) rfl (ha.mono (by simp [szL]))
   rw [if_neg c1] at h
   by_cases c2 : t.text = [105, 102]
   ·rw [if_pos c2] at h
    obtain ⟨x1, s1, q1, h⟩ := bindS_some h
    obtain ⟨x2, s2, q2, h⟩ := bindS_some h
    obtain ⟨x3, s3, q3, h⟩ := bindS_some h
    cases h
    have k1 := E.exp _ _ _ q1
    have k2 := E.exp _ _ _ q2
    have k3 := E.exp _ _ _ q3
    exact Of.mk (.inl (by decide)) (by simp [okL, k1.1, k2.1, k3.1]) ((((((ha.trans k1.on).trans (take_on (by decide) s1)).trans k2.on).trans (take_on (by decide) s2)).trans k3.on).mono (by simp [szL]; omega))
   rw [if_neg c2] at h
   by_cases c3 : t.text = [119, 104, 101, 110]
   ·rw [if_pos c3] at h
    obtain ⟨x1, s1, q1, h⟩ := bindS_some h
    cases h
    have k1 := E.exp _ _ _ q1
    exact Of.mk (.inl (by decide)) (ok_one k1.1) (((((h1.trans k1.on).trans (take_on (by decide) s1)).trans (edge_on _)).trans (take_on (by decide) _)).mono (by rw [sz_one]; omega))
   rw [if_neg c3] at h
   by_cases c4 : t.text = [109, 101, 114, 103, 101]
   ·rw [if_pos c4] at h
    obtain ⟨x1, s1, q1, h⟩ := bindS_some h
    obtain ⟨x2, s2, q2, h⟩ := bindS_some h
    cases h
    have k1 := E.exp _ _ _ q1
    have k2 := E.exp _ _ _ q2
    exact Of.mk (.inl (by decide)) (ok_two k1.1 k2.1) ((((((hn.trans (take_on (by decide) _)).trans k1.on).trans (take_on (by decide) s1)).trans k2.on).trans (take_on (by decide) _)).mono (by rw [sz_two]; omega))
   rw [if_neg c4] at h
   by_cases c5 : t.text = [99, 97, 115, 116]
   ·rw [if_pos c5] at h
    obtain ⟨x1, s1, q1, h⟩ := bindS_some h
    cases h
    have k1 := E.exp _ _ _ q1
    exact Of.mk (.inl (by decide)) (ok_one k1.1) (((((h1.trans (kind_on _)).trans (take_on (by decide) _)).trans k1.on).trans (take_on (by decide) _)).mono (by rw [sz_one]; omega))
   rw [if_neg c5] at h
   by_cases c6 : t.text = [116, 105, 99, 107]
   ·rw [if_pos c6] at h
    cases h
    exact Of.mk (.inr rfl) rfl (((((h1.trans (size_on _)).trans (take_on (by decide) _)).trans (size_on _)).trans (take_on (by decide) _)).mono (by simp [szL]))
   rw [if_neg c6] at h
   by_cases c7 : t.text = [114, 101, 115, 101, 116]
   ·rw [if_pos c7] at h
    obtain ⟨l, s1, q1, h⟩ := bindS_some h
    obtain ⟨x2, s2, q2, h⟩ := bindS_some h
    cases h
    have k1 := E.call _ _ _ q1
    have k2 := E.exp _ _ _ q2
    exact Of.mk (.inl (by decide)) (by rw [okL_app, k1.1, ok_one k2.1]; rfl) (((((hn.trans k1.on).trans (take_on (by decide) s1)).trans k2.on).trans (take_on (by decide) _)).mono (by rw [szL_app, sz_one]; omega))
   rw [if_neg c7] at h
   by_cases c8 : t.text = [114, 101, 112]
   ·rw [if_pos c8] at h
    obtain ⟨x1, s1, q1, h⟩ := bindS_some h
    cases h
    have k1 := E.exp _ _ _ q1
    exact Of.mk (.inl (by decide)) (ok_one k1.1) (((((h1.trans k1.on).trans (take_on (by decide) s1)).trans (size_on _)).trans (take_on (by decide) _)).mono (by rw [sz_one]; omega))
   rw [if_neg c8] at h
   by_cases c9 : t.text = [109, 97, 112]
   ·rw [if_pos c9] at h
    obtain ⟨l, s1, q1, h⟩ := bindS_some h
    cases h
    have k1 := E.exps [] _ _ _ _ rfl (show On (szL []) (take T [44] (name T (take T [40] (adv s))).2) _ from On.refl _) q1
    exact Of.mk (.inl (by decide)) k1.1 ((((hn.trans (take_on (by decide) _)).trans k1.on).trans (take_on (by decide) _)).mono (by omega))
   rw [if_neg c9] at h
   by_cases c10 : t.text = [102, 111, 108, 100]
   ·rw [if_pos c10] at h
    obtain ⟨x1, s1, q1, h⟩ := bindS_some h
    obtain ⟨x2, s2, q2, h⟩ := bindS_some h
    cases h
    have k1 := E.exp _ _ _ q1
    have k2 := E.exp _ _ _ q2
    exact Of.mk (.inl (by decide)) (ok_two k1.1 k2.1) ((((((hn.trans (take_on (by decide) _)).trans k1.on).trans (take_on (by decide) s1)).trans k2.on).trans (take_on (by decide) _)).mono (by rw [sz_two]; omega))
   ·rw [if_neg c10] at h
    cases h; exact form0_of T _ _ _
def GI (T : List Tk) : Item → Prop
 | .mk _ e _ _ => ok1 e = true ∧ sz e ≤ T.length + 1
section
variable {T : List Tk}
theorem Adv.get {α : Type} {k : Nat} {s0 s : St} {x : α} {r : Option (α × St)} (h : Adv T k s0 r) (e : r = Option.some (x, s)) : Fw T k s0 s := by
 obtain ⟨y, u, h1, h2⟩ := h
 rw [e] at h1
 cases h1
 exact h2
theorem take_e0 {w : B} (hw : w ≠ []) {s : St} (h : (take T w s).e = 0) : s.e = 0 ∧ s.i < T.length := by
 unfold take at h
 split at h
 ·next hi => exact is_lt hw hi
 ·exact absurd ((fail_fw (T := T) 12 (by decide) 0 s s).2 h).1 (fun e0 => by
   unfold fail at h
   rw [if_pos e0] at h
   exact absurd (show (12 : Int) = 0 from h) (by decide))
theorem equation_good (f : Nat) (s s1 : St) (x : Item) (h : equation T f s = some (x, s1)) (h0 : s1.e = 0) : GI T x := by
 unfold equation at h
 simp only at h
 obtain ⟨r, s2, h2, h3⟩ := bindS_some h
 split at h3
 ·cases h3; exact ⟨by decide, by simp [zeroExp, sz, szL]⟩
 ·obtain ⟨e, s4, h4, h5⟩ := bindS_some h3
  cases h5
  have k := take_e0 (by decide) h0
  have h6 := (gd T f).exp _ _ _ h4
  exact ⟨h6.1, by have := (h6.2 k.1).2; omega⟩
theorem item_good (f : Nat) (s s1 : St) (x : Item) (h : item T f s = some (x, s1)) (h0 : s1.e = 0) : GI T x := by
 cases f with
 | zero => cases h
 | succ f =>
  unfold item at h
  split at h
  ·split at h
   ·cases h; exact ⟨by decide, by simp [zeroExp, sz, szL]⟩
   ·obtain ⟨l, s2, h2, h3⟩ := bindS_some h
    cases h3
    exact ⟨by decide, by simp [zeroExp, sz, szL]⟩
  ·exact equation_good f s s1 x h h0
theorem items_good : ∀ f l s l' s', s.i ≤ T.length → 20 * mu T s + 18 ≤ f → items T f l s = some (l', s') → s'.e = 0 → (∀ x ∈ l, GI T x) → ∀ x ∈ l', GI T x
 | 0, _, _, _, _, _, _, h, _, _ => by cases h
 | f + 1, l, s, l', s', hs, hf, h, h0, hl => by
  unfold items at h
  split at h
  ·split at h
   ·next hb =>
    split at h
    ·cases h; exact hl
    ·obtain ⟨x, s1, h1, h2⟩ := bindS_some h
     have p := mu_pos (begins_lt hb).1 (begins_lt hb).2
     have k1 := ((enoughI T f).item s hs (by omega)).get h1
     have m1 := k1.mu
     have k2 := ((enoughI T f).items (l ++ [x]) s1 k1.1 (by omega)).get h2
     have hx := item_good f s s1 x h1 (k2.2 h0).1
     refine items_good f _ s1 l' s' k1.1 (by omega) h2 h0 (fun y hy => ?_)
     rcases List.mem_append.1 hy with hy | hy
     ·exact hl y hy
     ·rw [List.mem_singleton.1 hy]; exact hx
   ·cases h; exact hl
  ·cases h; exact hl
theorem node_good (f : Nat) (s s1 : St) (n : Node) (p : 1 ≤ mu T s) (hf : 20 * mu T s ≤ f) (h : node T f s = some (n, s1)) (h0 : s1.e = 0) : ∀ x ∈ n.items, GI T x := by
 unfold node at h
 simp only at h
 have h1 := ((take_fw (T := T) (w := [110, 111, 100, 101]) (by decide) s).trans (name_fw (T := T) _)).trans (take_fw (T := T) (w := [40]) (by decide) _)
 have m1 := h1.mu
 obtain ⟨ins, s2, q2, h⟩ := bindS_some h
 obtain ⟨outs, s4, q4, h⟩ := bindS_some h
 obtain ⟨ls, s7, q7, h⟩ := bindS_some h
 obtain ⟨its, s9, q9, h⟩ := bindS_some h
 cases h
 have hx : Adv T 1 s (if is T [41] (take T [40] (name T (take T [110, 111, 100, 101] s)).2) then some ([], take T [40] (name T (take T [110, 111, 100, 101] s)).2) else decls T f (take T [40] (name T (take T [110, 111, 100, 101] s)).2)) :=
  Adv.ite (fun _ => Adv.some (h1.mono (by omega))) fun _ => (Adv.from h1 (decls_adv T f _ h1.1 (by omega))).mono (by omega)
 have h2 := hx.get q2
 have h3 := ((h2.trans (take_fw (T := T) (w := [41]) (by decide) s2)).trans (take_fw (T := T) (w := [114, 101, 116, 117, 114, 110, 115]) (by decide) _)).trans (take_fw (T := T) (w := [40]) (by decide) _)
 have m3 := h3.mu
 have h4 := (Adv.from h3 (decls_adv T f _ h3.1 (by omega))).get q4
 have h5 := h4.trans (take_fw (T := T) (w := [41]) (by decide) s4)
 have m5 := h5.mu
 have hy : Adv T 1 s (if is T [118, 97, 114] (take T [41] s4) then localsL T f [] (adv (take T [41] s4)) else some ([], take T [41] s4)) := by
  refine Adv.ite (fun hi => ?_) fun _ => Adv.some (h5.mono (by omega))
  have h6 := h5.trans (is_adv (by decide) hi)
  have m6 := h6.mu
  exact (Adv.from h6 (localsL_adv T f [] _ h6.1 (by omega))).mono (by omega)
 have h7 := hy.get q7
 have h8 := h7.trans (take_fw (T := T) (w := [108, 101, 116]) (by decide) s7)
 have m8 := h8.mu
 exact items_good f [] _ its s9 h8.1 (by omega) q9 (take_e0 (by decide) h0).1 (by simp)
theorem nodes_good : ∀ f l s l' s', s.i ≤ T.length → 20 * mu T s + 1 ≤ f → nodes T f l s = some (l', s') → s'.e = 0 → (∀ n ∈ l, ∀ x ∈ n.items, GI T x) → ∀ n ∈ l', ∀ x ∈ n.items, GI T x
 | 0, _, _, _, _, _, _, h, _, _ => by cases h
 | f + 1, l, s, l', s', hs, hf, h, h0, hl => by
  unfold nodes at h
  split at h
  ·split at h
   ·next hi =>
    split at h
    ·cases h; exact hl
    ·obtain ⟨x, s1, h1, h2⟩ := bindS_some h
     have p := mu_pos (is_lt (by decide) hi).1 (is_lt (by decide) hi).2
     have k1 := (node_adv T f s p (by omega)).get h1
     have m1 := k1.mu
     have k2 := (nodes_adv T f (l ++ [x]) s1 k1.1 (by omega)).get h2
     have hx := node_good f s s1 x p (by omega) h1 (k2.2 h0).1
     refine nodes_good f _ s1 l' s' k1.1 (by omega) h2 h0 (fun y hy => ?_)
     rcases List.mem_append.1 hy with hy | hy
     ·exact hl y hy
     ·rw [List.mem_singleton.1 hy]; exact hx
   ·cases h; exact hl
  ·cases h; exact hl
end
theorem parse_good {s : B} {l : List Node} (h : parse s = .ok l) : ∃ T, Lex.tokens s = .ok T ∧ ∀ n ∈ l, ∀ x ∈ n.items, GI T x := by
 unfold parse at h
 cases ht : Lex.tokens s with
 | err a e => rw [ht] at h; cases h
 | ok T =>
  rw [ht] at h
  simp only at h
  obtain ⟨x, s', hx, _⟩ := nodes_adv T (20 * T.length + 100) [] ⟨0, 0, 0, 0⟩ (Nat.zero_le _) (by unfold mu; simp)
  rw [hx] at h
  simp only at h
  split at h
  ·next h0 =>
   cases h
   exact ⟨T, rfl, nodes_good _ _ _ _ _ (Nat.zero_le _) (by unfold mu; simp) hx h0 (by simp)⟩
  ·cases h
mutual
def rU (p : Int → Bool) : Exp → List B
 | .mk f _ nm _ _ _ _ ks _ => (if p f then [nm] else []) ++ rUL p ks
def rUL (p : Int → Bool) : List Exp → List B
 | [] => []
 | x :: r => rU p x ++ rUL p r
end
mutual
theorem rU_parts (p : Int → Bool) : ∀ x, ok1 x = true → rU p x = ((Nam.parts x).filter fun y => p y.form).map Exp.name
 | .mk f u nm tk tl n m ks a, h => by
  simp only [ok1, Bool.and_eq_true] at h
  have hk := rUL_parts p ks h.2
  simp only [rU, Nam.parts]
  cases hl : Nam.leaf f with
  | true =>
   rw [hl] at h
   have e : ks = [] := by simpa using h.1
   subst e
   simp only [rUL, if_true, List.append_nil, List.filter_cons, List.filter_nil, Exp.form]
   cases hp : p f <;> simp [Exp.name]
  | false =>
   simp only [Bool.false_eq_true, if_false, List.filter_cons, Exp.form]
   rw [hk]
   cases hp : p f <;> simp [Exp.name] <;> rfl
theorem rUL_parts (p : Int → Bool) : ∀ l, okL l = true → rUL p l = ((Nam.partsL l).filter fun y => p y.form).map Exp.name
 | [], _ => by simp [rUL, Nam.partsL]
 | x :: r, h => by
  simp only [okL, Bool.and_eq_true] at h
  simp only [rUL, Nam.partsL, List.filter_append, List.map_append]
  rw [rU_parts p x h.1, rUL_parts p r h.2]
end
mutual
theorem rU_len (p : Int → Bool) : ∀ x, (rU p x).length ≤ sz x
 | .mk f u nm tk tl n m ks a => by
  have hk := rUL_len p ks
  simp only [rU, sz, List.length_append]
  split <;> simp <;> omega
theorem rUL_len (p : Int → Bool) : ∀ l, (rUL p l).length ≤ szL l
 | [] => by simp [rUL, szL]
 | x :: r => by
  have h1 := rU_len p x
  have h2 := rUL_len p r
  simp only [rUL, szL, List.length_append]
  omega
end
mutual
def rM : Exp → Bool
 | .mk f _ _ _ _ _ _ ks _ => Nam.remembers f || rML ks
def rML : List Exp → Bool
 | [] => false
 | x :: r => rM x || rML r
end
mutual
theorem rM_parts : ∀ x, ok1 x = true → rM x = Nam.memory x
 | .mk f u nm tk tl n m ks a, h => by
  simp only [ok1, Bool.and_eq_true] at h
  have hk := rML_parts ks h.2
  simp only [rM, Nam.memory, Nam.parts]
  cases hl : Nam.leaf f with
  | true =>
   rw [hl] at h
   have e : ks = [] := by simpa using h.1
   subst e
   simp [rML, Exp.form]
  | false =>
   rw [hk]
   simp [Exp.form]
theorem rML_parts : ∀ l, okL l = true → rML l = (Nam.partsL l).any (fun y => Nam.remembers y.form)
 | [], _ => by simp [rML, Nam.partsL]
 | x :: r, h => by
  simp only [okL, Bool.and_eq_true] at h
  have e := rM_parts x h.1
  unfold Nam.memory at e
  simp only [rML, Nam.partsL, List.any_append]
  rw [e, rML_parts r h.2]
end
end Go.Proofs.YtonafedbehnneaaGreat.Gram.Rf
namespace Go.Proofs.YtonafedbehnneaaGreat
open Go.RowKit Go.Maps Go.WideMaps
open Nam (St F)
theorem lItemP (f : Nat) (A : Adr) (w0 w : World) (st : St) (lb db : Nat) (na ka qa : Option Addr) (nn nc kn kc qn qc : Nat) (f1 s1 tk1 tl1 n1 m1 a1 at_ : Int) (nm1 : List UInt8) (ks1 : List Gram.Exp) (ns : List (List UInt8)) (ss : List Gram.State) (D : List (List UInt8)) (h : Ck w0 w A st) (hlb : w.heap[lb]? = some (.cells #[.pointer (some ⟨A.c, 0, none⟩), .slice na nn nc, .int .i64 f1, .int .i64 s1, .string ⟨nm1.toArray⟩, .int .i64 tk1, .int .i64 tl1, .int .i64 n1, .int .i64 m1, .slice ka kn kc, .int .i64 a1, .slice qa qn qc, .int .i64 at_, .map (some db)] 115 (0, 0))) (hlA : lb ∉ [A.c, A.m, A.b0, A.b1, A.b2]) (hl0 : w0.heap.size ≤ lb) (hn : RepC w0 0 [] (.l 9 1 (ns.map nameD)) (.slice na nn nc)) (hk : KidsX w0 0 [] ks1 (.slice ka kn kc)) (hv : RepC w0 0 [] (.l 119 6 (statesD ss)) (.slice qa qn qc)) (hD : SetAt w db D.length D) (hDn : D.Nodup) (hne : lb ≠ db) (hd0 : w0.heap.size ≤ db) (hdA : db ∉ [A.c, A.m, A.b0, A.b1, A.b2]) (ra re : Int) (D' : List (List UInt8)) (r2 : St) (hr : Nam.item (Nam.items f) (.mk ns (.mk f1 s1 nm1 tk1 tl1 n1 m1 ks1 a1) ss at_) D st = some ((D', (ra, re)), r2)) (hss : ss = []) :
  Calls Tryz.prog 71 #[.pointer (some ⟨lb, 0, none⟩)] w fun e w' => e = .returned (.agg #[.int .i64 ra, .int .i64 re]) ∧ Kp [A.b1, A.b2, db] w w' ∧ (re = 0 → Ck w0 w' A r2 ∧ SetAt w' db D'.length D' ∧ D'.Nodup) := by
 have hmf := makeFunc_run
 obtain ⟨hL, hLm⟩ := statesLen hv
 unfold maxLen at hLm
 have hg1 : w.grownBy (w.alloc fo) none := ga w fo none
 have hc0 : (w.alloc fo).heap[w.heap.size]? = some fo := heap_alloc_new w fo
 have hlt := h.lt
 have hlm := h.mm.lt
 have hb := h.base.size
 have hld := hD.lt
 have hll := (gl hlb)
 have y11 := cell_of_row w _ 11 _ _ _ hlb
 have hlA' := hlA
 have hdA' := hdA
 simp only [List.mem_cons, List.not_mem_nil, or_false, not_or] at hlA' hdA'
 by_cases hs0 : ss = []
 ·clear hss
  subst hs0
  have hq0 : qn = 0 := hL
  subst hq0
  obtain ⟨s', ho, hfin⟩ := item_ord hr
  obtain ⟨W2, hW2⟩ : ∃ W2, W2 = (w.alloc fo).alloc (.cells (([81, 82] : List Nat).map fun f => Value.func (.func f) #[.pointer (some ⟨lb, 0, none⟩)] #[]).toArray 82 (0, 0)) := ⟨_, rfl⟩
  have hg2 : w.grownBy W2 none := by rw [hW2]; exact bs2 w _ _
  have hs2 : W2.heap.size = w.heap.size + 2 := by rw [hW2]; simp
  have hb0 : W2.heap[w.heap.size]? = some fo := by rw [hW2]; exact heap_alloc2_old w _ _
  have hb1 : W2.heap[w.heap.size + 1]? = some (.cells (([81, 82] : List Nat).map fun f => Value.func (.func f) #[.pointer (some ⟨lb, 0, none⟩)] #[]).toArray 82 (0, 0)) := by rw [hW2]; exact heap_alloc2_new w _ _
  have hI0 : LInv A w0 st lb db (.cells #[.pointer (some ⟨A.c, 0, none⟩), .slice na nn nc, .int .i64 f1, .int .i64 s1, .string ⟨nm1.toArray⟩, .int .i64 tk1, .int .i64 tl1, .int .i64 n1, .int .i64 m1, .slice ka kn kc, .int .i64 a1, .slice qa 0 qc, .int .i64 at_, .map (some db)] 115 (0, 0)) D W2 := ⟨h.kept hg2, (hg2.block _ hll (by simp)).trans hlb, hD.kept hg2⟩
  have hord := inOrder_any (LInv A w0 st lb db (.cells #[.pointer (some ⟨A.c, 0, none⟩), .slice na nn nc, .int .i64 f1, .int .i64 s1, .string ⟨nm1.toArray⟩, .int .i64 tk1, .int .i64 tl1, .int .i64 n1, .int .i64 m1, .slice ka kn kc, .int .i64 a1, .slice qa 0 qc, .int .i64 at_, .map (some db)] 115 (0, 0))) (fun _ => True) [A.b1, A.b2, db] (.pointer (some ⟨lb, 0, none⟩)) [81, 82] [lK1 at_ st ns, lK2 st (.mk f1 s1 nm1 tk1 tl1 n1 m1 ks1 a1)] (w.heap.size + 1) D W2 _ (by decide) rfl hb1 (by simp; omega) (by simp; omega)
   (by
    intro i g k hg hk'
    rcases i with _ | _ | i
    ·cases hg; cases hk'
     refine ⟨enters_of Tryz.func81 (by kernel_rfl) rfl, ?_⟩
     intro D0 V r hI hV hr0
     unfold lK1 at hr0
     split at hr0
     ·cases hr0
     ·rename_i y hy
      obtain ⟨⟨ya, ye⟩, D2⟩ := y
      cases hr0
      refine (lNames_any A w0 V st lb db na ka qa nn nc kn kc 0 qc f1 s1 tk1 tl1 n1 m1 a1 at_ nm1 ns D0 hI.1 hI.2.1 hn hI.2.2 hne hd0 hdA ya ye D2 hy).mono ?_
      rintro e w' ⟨rfl, hk2, h2⟩
      exact ⟨rfl, (hk2.mono (fun i hi _ => by simp at hi ⊢; omega)).q _, fun h0 => ⟨hI.1.keptK hk2 (by simp only [List.mem_singleton]; rintro k rfl; exact ⟨hd0, hdA⟩), hk2.at hI.2.1 (by simpa using hne), h2 h0⟩, trivial⟩
    ·cases hg; cases hk'
     refine ⟨enters_of Tryz.func82 (by kernel_rfl) rfl, ?_⟩
     intro D0 V r hI hV hr0
     unfold lK2 at hr0
     split at hr0
     ·cases hr0
     ·rename_i y hy
      obtain ⟨ya, ye⟩ := y
      cases hr0
      refine (lValue_any A w0 V st lb db na ka qa nn nc kn kc 0 qc f1 s1 tk1 tl1 n1 m1 a1 at_ nm1 ks1 hI.1 hI.2.1 hk ya ye hy).mono ?_
      rintro e w' ⟨rfl, hg3⟩
      exact ⟨rfl, (Kp.of0 hg3 _).q _, fun _ => ⟨hI.1.kept hg3, (hg3.block _ (gl hI.2.1) (by simp)).trans hI.2.1, hI.2.2.kept hg3⟩, trivial⟩
    ·simp at hk')
   (fun s a b n hs hgr hn2 => by
    have q1 := hs.1.lt
    have q2 := hs.1.mm.lt
    have q3 := (gl hs.2.1)
    have q4 := hs.2.2.lt
    have q5 := hs.1.base.size
    exact hs.keptN hgr ⟨by omega, by simp; omega⟩ (by omega) (by omega)) (fun _ _ _ _ _ _ => trivial) (fun _ _ _ => trivial) hI0 ho
  rw [show ([81, 82] : List Nat).length = 2 from rfl] at hord
  have HW := ld hW2
  have HX := ld (And.intro hg2 (And.intro hb0 hfin))
  simp only [fv] at hord
  rw [hW2] at hord
  simp only [List.map_cons, List.map_nil] at hord
  clear hW2 hg2 hs2 hb0 hb1 hI0 hr ho hfin hv hn hk hL hLm hlb hc0 hg1 hD
  go_enter Tryz.func71, Tryz.ntmps71
  go_wp2_with (go_at_call 34; refine hord.mono ?_; rintro e w3 ⟨rfl, hk3, hi3, _⟩; refine Hid.out ?_)
  have HK : Kp [A.b1, A.b2, db] W2 w3 := by rw [HW.out]; exact hk3
  have hce3 := HK.at HX.out.2.1 (by simp; omega)
  have HI := ld hi3
  clear hi3 hk3
  refine ld ?_
  go_wp2_with (with_reducible refine hold_st 2 ?_)
  refine ld ?_
  refine sg hce3 ?_
  intro w7 hh7 hg7
  go_wp2
  (try simp only [Exit.inBlock, Exit.then])
  refine br hh7 Tryz.underlying63 ?_
  refine ⟨rfl, ((Kp.of0 HX.out.1 _).trans HK).trans' hg7 (Nat.le_refl _), fun h0 => ?_⟩
  obtain ⟨e1, e2, e3⟩ := HX.out.2.2 h0
  have h9 := (HI.out h0).keptN hg7 ⟨by omega, by simp; omega⟩ (by omega) (by omega)
  subst e1 e2
  exact ⟨h9.1, h9.2.2, e3 hDn⟩
 ·exact absurd hss hs0
def CItAt (f : Nat) (its : List Gram.Item) : Prop := ∀ (A : Adr) (w0 w : World) (st : St) (a : Option Addr) (L cap : Nat) (D : List (List UInt8)) (ra re : Int) (r2 : St), Ck w0 w A st → RepC w0 0 [] (.l 40 12 (itemsD its)) (.slice a L cap) → Nam.items f its st = some ((D, (ra, re)), r2) →
 Calls Tryz.prog 53 #[.pointer (some ⟨A.c, 0, none⟩), .slice a L cap] w fun e w' => ∃ o, e = .returned (.tuple #[.map o, .agg #[.int .i64 ra, .int .i64 re]]) ∧ itPost A w0 w ((D, (ra, re)), r2) o w'
theorem citP (f : Nat) (its : List Gram.Item) (hpl : ∀ it ∈ its, Nam.itStates it = []) : CItAt (f + 1) its := by
 intro A w0 w st a L cap D ra re r2 h hv hr
 unfold Nam.items at hr
 have hmm := @run_makeMap Tryz.prog
 obtain ⟨hL, hLm⟩ := nLen hv
 rw [itemsD_map, List.length_map] at hL
 unfold maxLen at hLm
 have hlt := h.lt
 have hlm := h.mm.lt
 have hb := h.base.size
 have hlo := h.lo
 have HL := ld hL
 have HR := ld hr
 have HH := ld h
 clear hL hr h
 go_enter Tryz.func53, Tryz.ntmps53
 go_wp2
 go_loopw [16] (fun iv wr => ∃ (t : Nat) (st1 : St) (D1 : List (List UInt8)), t ≤ L ∧ iv = .int .i64 (t : Int) ∧ Hid (Ck w0 wr A st1 ∧ Kp [A.b1, A.b2] w wr ∧ wr.heap[w.heap.size]? = some fo ∧ (∃ v1 v2 v3 v4 v5 v6 v7 v8 v9 v10 v11 v12 : Value, wr.heap[w.heap.size + 1 + 1]? = some (.cells #[.pointer (some ⟨A.c, 0, none⟩), v1, v2, v3, v4, v5, v6, v7, v8, v9, v10, v11, v12, .map (some (w.heap.size + 1))] 115 (0, 0))) ∧ SetAt wr (w.heap.size + 1) D1.length D1 ∧ D1.Nodup ∧ Nam.listI (Nam.items f) (its.drop t) D1 st1 = some ((D, (ra, re)), r2))) (fun i _ => L - (intOf i).toNat)
 case atStart =>
  obtain ⟨W3, hW3⟩ : ∃ W3, W3 = ((w.alloc fo).alloc (.map #[] 0)).alloc (.cells #[.pointer (some ⟨A.c, 0, none⟩), .slice none 0 0, .int .i64 0, .int .i64 0, .string ⟨#[]⟩, .int .i64 0, .int .i64 0, .int .i64 0, .int .i64 0, .slice none 0 0, .int .i64 0, .slice none 0 0, .int .i64 0, .map (some (w.heap.size + 1))] 115 (0, 0)) := ⟨_, rfl⟩
  have hg3 : w.grownBy W3 none := by rw [hW3]; exact galloc (bs2 w _ _) _
  have hb0 : W3.heap[w.heap.size]? = some fo := by rw [hW3, heap_alloc_old _ _ (by simp; omega)]; exact heap_alloc2_old w _ _
  have hO1 : SetAt W3 (w.heap.size + 1) 0 [] := by
   have h1 := SetAt.new (w.alloc fo)
   rw [World.size_alloc] at h1
   rw [hW3]
   exact h1.kept (ga _ _ _)
  have hb2 : W3.heap[w.heap.size + 1 + 1]? = some (.cells #[.pointer (some ⟨A.c, 0, none⟩), .slice none 0 0, .int .i64 0, .int .i64 0, .string ⟨#[]⟩, .int .i64 0, .int .i64 0, .int .i64 0, .int .i64 0, .slice none 0 0, .int .i64 0, .slice none 0 0, .int .i64 0, .map (some (w.heap.size + 1))] 115 (0, 0)) := by
   have h1 := heap_alloc_new ((w.alloc fo).alloc (.map #[] 0)) (.cells #[.pointer (some ⟨A.c, 0, none⟩), .slice none 0 0, .int .i64 0, .int .i64 0, .string ⟨#[]⟩, .int .i64 0, .int .i64 0, .int .i64 0, .int .i64 0, .slice none 0 0, .int .i64 0, .slice none 0 0, .int .i64 0, .map (some (w.heap.size + 1))] 115 (0, 0))
   rw [World.size_alloc, World.size_alloc] at h1
   rw [hW3]
   exact h1
  have hfin : ∃ (t : Nat) (st1 : St) (D1 : List (List UInt8)), t ≤ L ∧ Value.int .i64 0 = .int .i64 (t : Int) ∧ Hid (Ck w0 W3 A st1 ∧ Kp [A.b1, A.b2] w W3 ∧ W3.heap[w.heap.size]? = some fo ∧ (∃ v1 v2 v3 v4 v5 v6 v7 v8 v9 v10 v11 v12 : Value, W3.heap[w.heap.size + 1 + 1]? = some (.cells #[.pointer (some ⟨A.c, 0, none⟩), v1, v2, v3, v4, v5, v6, v7, v8, v9, v10, v11, v12, .map (some (w.heap.size + 1))] 115 (0, 0))) ∧ SetAt W3 (w.heap.size + 1) D1.length D1 ∧ D1.Nodup ∧ Nam.listI (Nam.items f) (its.drop t) D1 st1 = some ((D, (ra, re)), r2)) := ⟨0, st, [], Nat.zero_le _, rfl, ld ⟨HH.out.kept hg3, Kp.of0 hg3 _, hb0, ⟨_, _, _, _, _, _, _, _, _, _, _, _, hb2⟩, hO1, by simp, HR.out⟩⟩
  rw [hW3] at hfin
  exact hfin
 case round =>
  obtain ⟨t, st1, D1, ht, rfl, HG⟩ := hrel
  obtain ⟨hck, hkp, hcell, ⟨v1, v2, v3, v4, v5, v6, v7, v8, v9, v10, v11, v12, hlbr⟩, hset, hnd, hm⟩ := HG.out
  clear HG HR HH
  have hsz := (gl hlbr)
  have hws := hkp.size
  by_cases hlt2 : t < L
  ·obtain ⟨x, hx⟩ : ∃ x, its[t]? = some x := ⟨_, List.getElem?_eq_getElem (by rw [← HL.out]; exact hlt2)⟩
   obtain ⟨ns, e, ss, at_⟩ := x
   have hss : ss = [] := hpl _ (List.mem_of_getElem? hx)
   obtain ⟨f1, s1, nm1, tk1, tl1, n1, m1, ks1, a1⟩ := e
   rw [drop_at hx] at hm
   unfold Nam.listI at hm
   obtain ⟨g, na, nn, nc, ka, kn, kc, qa, qn, qc, rfl, k1, k2, k3, hq⟩ := itemAt hv hx
   simp only [expCells, List.cons_append, List.nil_append] at hq
   have u0 := hck.base.cell (hq 0 _ rfl) (by simp)
   have u1 := hck.base.cell (hq 1 _ rfl) (by simp)
   have u2 := hck.base.cell (hq 2 _ rfl) (by simp)
   have u3 := hck.base.cell (hq 3 _ rfl) (by simp)
   have u4 := hck.base.cell (hq 4 _ rfl) (by simp)
   have u5 := hck.base.cell (hq 5 _ rfl) (by simp)
   have u6 := hck.base.cell (hq 6 _ rfl) (by simp)
   have u7 := hck.base.cell (hq 7 _ rfl) (by simp)
   have u8 := hck.base.cell (hq 8 _ rfl) (by simp)
   have u9 := hck.base.cell (hq 9 _ rfl) (by simp)
   have u10 := hck.base.cell (hq 10 _ rfl) (by simp)
   have u11 := hck.base.cell (hq 11 _ rfl) (by simp)
   rw [Nat.add_zero] at u0
   clear hq
   cases hxe : Nam.item (Nam.items f) (.mk ns (.mk f1 s1 nm1 tk1 tl1 n1 m1 ks1 a1) ss at_) D1 st1 with
   | none => rw [hxe] at hm; cases hm
   | some xr =>
   rw [hxe] at hm
   obtain ⟨⟨D2, xa, xe⟩, st2⟩ := xr
   simp only at hm
   obtain ⟨W1, hW1⟩ : ∃ W1, W1 = wr.alloc (.cells #[.slice na nn nc, .int .i64 f1, .int .i64 s1, .string ⟨nm1.toArray⟩, .int .i64 tk1, .int .i64 tl1, .int .i64 n1, .int .i64 m1, .slice ka kn kc, .int .i64 a1, .slice qa qn qc, .int .i64 at_] 40 (0, 0)) := ⟨_, rfl⟩
   have hg1 : wr.grownBy W1 none := by rw [hW1]; exact ga wr _ none
   have hl1 : W1.heap[w.heap.size + 1 + 1]? = some (.cells #[.pointer (some ⟨A.c, 0, none⟩), v1, v2, v3, v4, v5, v6, v7, v8, v9, v10, v11, v12, .map (some (w.heap.size + 1))] 115 (0, 0)) := (hg1.block _ hsz (by simp)).trans hlbr
   obtain ⟨r1, r2'⟩ := setCells_row [.slice na nn nc, .int .i64 f1, .int .i64 s1, .string ⟨nm1.toArray⟩, .int .i64 tk1, .int .i64 tl1, .int .i64 n1, .int .i64 m1, .slice ka kn kc, .int .i64 a1, .slice qa qn qc, .int .i64 at_] 1 hl1
   obtain ⟨W2, hW2⟩ : ∃ W2, W2 = W1.setCells (w.heap.size + 1 + 1) 1 [.slice na nn nc, .int .i64 f1, .int .i64 s1, .string ⟨nm1.toArray⟩, .int .i64 tk1, .int .i64 tl1, .int .i64 n1, .int .i64 m1, .slice ka kn kc, .int .i64 a1, .slice qa qn qc, .int .i64 at_] := ⟨_, rfl⟩
   rw [← hW2] at r1 r2'
   have hl2 : W2.heap[w.heap.size + 1 + 1]? = some (.cells #[.pointer (some ⟨A.c, 0, none⟩), .slice na nn nc, .int .i64 f1, .int .i64 s1, .string ⟨nm1.toArray⟩, .int .i64 tk1, .int .i64 tl1, .int .i64 n1, .int .i64 m1, .slice ka kn kc, .int .i64 a1, .slice qa qn qc, .int .i64 at_, .map (some (w.heap.size + 1))] 115 (0, 0)) := by rw [r1]; simp only [setAll, List.setIfInBounds_toArray, List.set_cons_zero, List.set_cons_succ]
   have hk2 : Kp [w.heap.size + 1 + 1] wr W2 := (Kp.of0 hg1 _).trans (Kp.of r2' _ (fun k e _ => by cases e; simp))
   have hth : W1.there (w.heap.size + 1 + 1) 1 12 := fun j hj => by
    have e1 : W1.cell? ⟨w.heap.size + 1 + 1, 1 + j, none⟩ = _ := cell_of_row W1 _ (1 + j) _ _ _ hl1
    refine ⟨?_, frozen_of_row W1 _ (1 + j) _ _ hl1⟩
    rw [e1]
    have : j = 0 ∨ j = 1 ∨ j = 2 ∨ j = 3 ∨ j = 4 ∨ j = 5 ∨ j = 6 ∨ j = 7 ∨ j = 8 ∨ j = 9 ∨ j = 10 ∨ j = 11 := by omega
    rcases this with rfl | rfl | rfl | rfl | rfl | rfl | rfl | rfl | rfl | rfl | rfl | rfl <;> simp
   have hck2 : Ck w0 W2 A st1 := hck.keptK hk2 (by simp; omega)
   have hset2 : SetAt W2 (w.heap.size + 1) D1.length D1 := hset.keptK hk2 (by simp)
   have hcal := lItemP f A w0 W2 st1 (w.heap.size + 1 + 1) (w.heap.size + 1) na ka qa nn nc kn kc qn qc f1 s1 tk1 tl1 n1 m1 a1 at_ nm1 ks1 ns ss D1 hck2 hl2 (by simp; omega) (by omega) k1 k2 k3 hset2 hnd (by omega) (by omega) (by simp; omega) xa xe D2 st2 hxe hss
   have hce2 := hk2.at hcell (by simp; omega)
   have hfd := found_any (xa, xe)
   simp only [fv] at hfd
   have hK2 : Kp [A.b1, A.b2] w W2 := ⟨hk2.os.trans hkp.os, hk2.tape.trans hkp.tape, hk2.output.trans hkp.output, Nat.le_trans hkp.size hk2.size, fun i hi hx => (hk2.block i (Nat.lt_of_lt_of_le hi hkp.size) (by simp; omega)).trans (hkp.block i hi hx)⟩
   have hs2 := hk2.size
   have HX := ld (And.intro hK2 (And.intro hce2 hl2))
   have HW1 := ld hW1
   have HW2 := ld hW2
   clear hW1 hW2 hg1 hl1 r1 r2' hck2 hset2 hck hkp hcell hset hnd hxe k1 k2 k3 hl2 hk2 hK2 hce2 hlbr hx
   go_wp2_with (with_reducible refine hold_st 23 ?_)
   rw [← HW1.out]
   refine ld ?_
   refine wpList_store_mid rfl _ _ _ rfl (w.heap.size + 1 + 1) 1 #[.slice na nn nc, .int .i64 f1, .int .i64 s1, .string ⟨nm1.toArray⟩, .int .i64 tk1, .int .i64 tl1, .int .i64 n1, .int .i64 m1, .slice ka kn kc, .int .i64 a1, .slice qa qn qc, .int .i64 at_] rfl rfl hth (by kernel_rfl) (by simp [Value.oneCell']) ?_
   rw [show (W1.setCells (w.heap.size + 1 + 1) 1 (#[.slice na nn nc, .int .i64 f1, .int .i64 s1, .string ⟨nm1.toArray⟩, .int .i64 tk1, .int .i64 tl1, .int .i64 n1, .int .i64 m1, .slice ka kn kc, .int .i64 a1, .slice qa qn qc, .int .i64 at_] : Array Value).toList) = W2 from HW2.out.symm]
   clear hth u0 u1 u2 u3 u4 u5 u6 u7 u8 u9 u10 u11
   by_cases h0 : xe = 0
   ·have hb0 : (xe != 0) = false := by simp [h0]
    rw [hb0] at hfd
    rw [if_pos h0] at hm
    have H0 := ld h0
    have HM := ld hm
    clear hb0 h0 hm
    go_wp2_with (first | (go_at_call 71; refine hcal.mono ?_; rintro e w3 ⟨rfl, hk3, hi3⟩; have HJ := ld (And.intro hk3 hi3); clear hk3 hi3) | (go_at_call 29; refine (hfd _).mono ?_; rintro e w4 ⟨rfl, hg4⟩))
    obtain ⟨hk3, hi3⟩ := HJ.out
    obtain ⟨c1, c2, c3⟩ := hi3 H0.out
    have hg34 : w3.grownBy w4 none := (ga w3 _ none).trans hg4
    have hk34 : Kp [A.b1, A.b2, w.heap.size + 1] W2 w4 := hk3.trans (Kp.of0 hg34 _)
    have hkw : Kp [A.b1, A.b2] w w4 := ⟨hk34.os.trans HX.out.1.os, hk34.tape.trans HX.out.1.tape, hk34.output.trans HX.out.1.output, Nat.le_trans HX.out.1.size hk34.size, fun i hi hx => (hk34.block i (Nat.lt_of_lt_of_le hi HX.out.1.size) (by simp at hx ⊢; omega)).trans (HX.out.1.block i hi hx)⟩
    exact ⟨⟨t + 1, st2, D2, by omega, by go_num, ld ⟨c1.kept hg34, hkw, hk34.at HX.out.2.1 (by simp; omega), ⟨_, _, _, _, _, _, _, _, _, _, _, _, hk34.at HX.out.2.2 (by simp; omega)⟩, c2.kept hg34, c3, HM.out⟩⟩, by simp [intOf]; omega⟩
   ·have hb0 : (xe != 0) = true := by simp [h0]
    rw [hb0] at hfd
    rw [if_neg h0] at hm
    have H0 := ld h0
    have HM := ld hm
    clear hb0 h0 hm
    go_wp2_with (first | (go_at_call 71; refine hcal.mono ?_; rintro e w3 ⟨rfl, hk3, hi3⟩; have HJ := ld hk3; clear hk3 hi3) | (go_at_call 29; refine (hfd _).mono ?_; rintro e w4 ⟨rfl, hg4⟩; refine Hid.out ?_))
    have hg34 : w3.grownBy w4 none := (ga w3 _ none).trans hg4
    have hk34 : Kp [A.b1, A.b2, w.heap.size + 1] W2 w4 := HJ.out.trans (Kp.of0 hg34 _)
    have hkw : Kp [A.b1, A.b2] w w4 := ⟨hk34.os.trans HX.out.1.os, hk34.tape.trans HX.out.1.tape, hk34.output.trans HX.out.1.output, Nat.le_trans HX.out.1.size hk34.size, fun i hi hx => (hk34.block i (Nat.lt_of_lt_of_le hi HX.out.1.size) (by simp at hx ⊢; omega)).trans (HX.out.1.block i hi hx)⟩
    have hfb : w4.drew.heap[w3.heap.size]? = some (.cells #[.int .i64 xa, .int .i64 xe] 63 (0, 0)) := (hg4.block _ (by simp) (by simp)).trans (heap_alloc_new w3 _)
    have hc4 : w4.drew.heap[w.heap.size]? = some fo := hk34.at HX.out.2.1 (by simp; omega)
    have h3s := HJ.out.size
    have hw2s := (gl HX.out.2.2)
    have HKW := ld hkw
    clear hkw hk34 hg34 hg4
    refine ld ?_
    go_wp2
    refine wp_region_L2 (S := fun W' => W'.heap[w3.heap.size]? = some (.cells #[.int .i64 xa, .int .i64 xe] 63 (0, 0))) (by kernel_rfl) ?_
    refine t2 0 28 (.agg #[.int .i64 xa, .int .i64 xe]) (fun w' hw' => ?_) hfb ?_
    ·have hc0 := cell_of_row w' _ 0 _ _ _ (hw'); have hc1 := cell_of_row w' _ 1 _ _ _ (hw'); clear hw'; go_simp
    (try simp only [Act.put, sA, sB, sC])
    refine t1 1 4 ((Value.map none)) hfb ?_
    (try simp only [Act.put, sA, sB, sC])
    refine wpL_store (i := 2) w.heap.size #[.int .i64 xa, .int .i64 xe] _ 63 _ _ _ (by kernel_rfl) rfl (by kernel_rfl) rfl rfl rfl rfl hc4 (by kernel_rfl) rfl (by simp [Value.oneCell']) ?_
    intro w7 hh7 hg7
    refine ⟨(hg7.block _ (gl hfb) (by simp; omega)).trans hfb, ?_⟩
    (try simp only [Act.put, sA, sB, sC])
    refine wpL_done (by kernel_rfl) ?_ _
    go_wp2
    (try simp only [Exit.inBlock, Exit.then])
    refine bodyPost_ret (results_tmp_cell rfl _ _ w.heap.size 63 _ (0, 0) _ (.map none) rfl rfl hh7 Tryz.underlying63 rfl (by kernel_rfl)) rfl ?_
    obtain ⟨⟨_, e1⟩, _⟩ : ([] = D ∧ (xa, xe) = (ra, re)) ∧ st2 = r2 := by have := Option.some.inj HM.out; simp only [Prod.mk.injEq] at this ⊢; exact this
    cases e1
    exact ⟨none, rfl, (HKW.out.trans (Kp.of0 (gdrew (World.grownBy.refl _ _)) _)).trans' hg7 (Nat.le_refl _), fun e => absurd e H0.out⟩
  ·have e : t = L := by omega
   subst e
   rw [List.drop_eq_nil_of_le (by rw [← HL.out]; exact Nat.le_refl _)] at hm
   unfold Nam.listI at hm
   have HM := ld (Option.some.inj hm)
   have y13 := cell_of_row wr _ 13 _ _ _ hlbr
   have HX := ld (And.intro hck (And.intro hkp (And.intro hset hnd)))
   have hsl := hset.lt
   have hcl := hck.lt
   have hcm := hck.mm.lt
   clear hm hck hkp hset hnd hlbr
   go_wp2_with (with_reducible refine hold_st 5 ?_)
   refine ld ?_
   refine sg hcell ?_
   intro w7 hh7 hg7
   go_wp2
   (try simp only [Exit.inBlock, Exit.then])
   refine bodyPost_ret (results_tmp_cell rfl _ _ w.heap.size 63 _ (0, 0) _ (.map (some (w.heap.size + 1))) rfl rfl hh7 Tryz.underlying63 rfl (by kernel_rfl)) rfl ?_
   obtain ⟨⟨e0, e1⟩, e2⟩ : (D1 = D ∧ ((0 : Int), (0 : Int)) = (ra, re)) ∧ st1 = r2 := by have := HM.out; simp only [Prod.mk.injEq] at this ⊢; exact this
   cases e1
   subst e0 e2
   have hk7 : Kp [w.heap.size] wr w7 := Kp.of hg7 _ (fun k e _ => by cases e; simp)
   exact ⟨_, rfl, HX.out.2.1.trans' hg7 (Nat.le_refl _), fun _ => ⟨HX.out.1.keptK hk7 (by simp; omega), _, rfl, by omega, HX.out.2.2.1.keptK hk7 (by simp), HX.out.2.2.2⟩⟩
section
variable (A : Adr) (w0 w : World) (st : St) (nb : Nat) (ua ta la ia : Option Addr) (un uc tn tc ln lc jn ic : Nat) (nm : List UInt8) (at_ : Int)
theorem nItemsP (dv : Value) (f : Nat) (hnb : w.heap[nb]? = some (.cells #[.pointer (some ⟨A.c, 0, none⟩), .string ⟨nm.toArray⟩, .slice ua un uc, .slice ta tn tc, .slice la ln lc, .slice ia jn ic, .int .i64 at_, dv] 80 (0, 0))) (hnX : nb ∉ [A.c, A.m, A.b0, A.b1, A.b2]) (hn0 : w0.heap.size ≤ nb) (h : Ck w0 w A st) (its : List Gram.Item) (hC : CItAt f its) (hv : RepC w0 0 [] (.l 40 12 (itemsD its)) (.slice ia jn ic)) (D : List (List UInt8)) (ra re : Int) (r2 : St) (hr : Nam.items f its st = some ((D, (ra, re)), r2)) :
  Calls Tryz.prog 39 #[.pointer (some ⟨nb, 0, none⟩)] w fun e w' => e = .returned (.agg #[.int .i64 ra, .int .i64 re]) ∧ Kp [A.b1, A.b2, nb] w w' ∧ ∃ o, w'.heap[nb]? = some (.cells #[.pointer (some ⟨A.c, 0, none⟩), .string ⟨nm.toArray⟩, .slice ua un uc, .slice ta tn tc, .slice la ln lc, .slice ia jn ic, .int .i64 at_, .map o] 80 (0, 0)) ∧ (re = 0 → Ck w0 w' A r2 ∧ ∃ k, o = some k ∧ w.heap.size < k ∧ SetAt w' k D.length D ∧ D.Nodup) := by
 obtain ⟨W1, hW1⟩ : ∃ W1, W1 = w.alloc fo := ⟨_, rfl⟩
 have hg1 : w.grownBy W1 none := by rw [hW1]; exact ga w fo none
 have hs1 : W1.heap.size = w.heap.size + 1 := by rw [hW1]; simp
 have hgd : w.grownBy W1.drew none := gdrew hg1
 have hce : W1.drew.heap[w.heap.size]? = some fo := by rw [hW1]; exact heap_alloc_new w fo
 have hS0 : (fun W' => W'.cell? ⟨nb, 0, none⟩ = some (.pointer (some ⟨A.c, 0, none⟩)) ∧ W'.cell? ⟨nb, 5, none⟩ = some (.slice ia jn ic)) W1.drew := ⟨hgd.cell (cell_of_row w _ 0 _ _ _ hnb) (by simp), hgd.cell (cell_of_row w _ 5 _ _ _ hnb) (by simp)⟩
 have hbk : W1.drew.heap[nb]? = some (.cells #[.pointer (some ⟨A.c, 0, none⟩), .string ⟨nm.toArray⟩, .slice ua un uc, .slice ta tn tc, .slice la ln lc, .slice ia jn ic, .int .i64 at_, dv] 80 (0, 0)) := (hgd.block _ (gl hnb) (by simp)).trans hnb
 have hlb := (gl hnb)
 have hlt := h.lt
 have hlm := h.mm.lt
 have hb0 := h.base.size
 have hcall := hC A w0 W1.drew st _ _ _ D ra re r2 (h.kept hgd) hv hr
 have HF := ld hW1
 have HCe := ld hce
 have HG1 := ld hgd
 have HBK := ld hbk
 clear hce hgd hg1 hW1 hr hbk hnb
 go_enter Tryz.func39, Tryz.ntmps39
 go_wp2
 rw [show (Obj.cells #[Value.int .i64 0, Value.int .i64 0] 63) = fo from rfl, ← HF.out]
 refine wp_region_L2 (S := fun W' => W'.cell? ⟨nb, 0, none⟩ = some (.pointer (some ⟨A.c, 0, none⟩)) ∧ W'.cell? ⟨nb, 5, none⟩ = some (.slice ia jn ic)) (by kernel_rfl) ?_
 clear HF
 refine t1 0 4 (.pointer (some ⟨nb, 0, none⟩)) hS0 ?_
 (try simp only [Act.put, sA, sB, sC])
 refine t1 1 5 (.pointer (some ⟨nb, 0, none⟩)) hS0 ?_
 (try simp only [Act.put, sA, sB, sC])
 refine t1 2 6 (.pointer (some ⟨nb, 0, none⟩)) hS0 ?_
 (try simp only [Act.put, sA, sB, sC])
 refine t1 3 7 (.pointer (some ⟨nb, 0, none⟩)) hS0 ?_
 (try simp only [Act.put, sA, sB, sC])
 refine t2 4 8 (.pointer (some ⟨A.c, 0, none⟩)) (fun w' hw' => ?_) hS0 ?_
 ·have hc0 := hw'.1; clear hw'; go_simp
 (try simp only [Act.put, sA, sB, sC])
 refine t1 5 9 (.pointer (some ⟨nb, 0, none⟩)) hS0 ?_
 (try simp only [Act.put, sA, sB, sC])
 refine t1 6 10 (.pointer (some ⟨nb, 0, none⟩)) hS0 ?_
 (try simp only [Act.put, sA, sB, sC])
 refine t1 7 11 (.pointer (some ⟨nb, 1, none⟩)) hS0 ?_
 (try simp only [Act.put, sA, sB, sC])
 refine t1 8 12 (.pointer (some ⟨nb, 5, none⟩)) hS0 ?_
 (try simp only [Act.put, sA, sB, sC])
 refine t2 9 13 (.slice ia jn ic) (fun w' hw' => ?_) hS0 ?_
 ·have hc0 := hw'.2; clear hw'; go_simp
 (try simp only [Act.put, sA, sB, sC])
 refine wpL_call (i := 10) (d := 14) (R := fun v w' => ∃ o, v = .tuple #[.map o, .agg #[.int .i64 ra, .int .i64 re]] ∧ itPost A w0 W1.drew ((D, (ra, re)), r2) o w') (by kernel_rfl) rfl (by kernel_rfl) (by kernel_rfl) (by kernel_rfl) (hcall.mono fun e w' he => by obtain ⟨o, h1, h2⟩ := he; exact ⟨_, h1, o, rfl, h2⟩) (fun v w' h => by obtain ⟨o, _, h2⟩ := h; exact ⟨h2.1.cellAt hS0.1 (by intro e; simp at e hnX; omega), h2.1.cellAt hS0.2 (by intro e; simp at e hnX; omega)⟩) (fun v w2 h => ?_)
 obtain ⟨o, rfl, hR⟩ := h
 have hS1 : (fun W' => W'.cell? ⟨nb, 0, none⟩ = some (.pointer (some ⟨A.c, 0, none⟩)) ∧ W'.cell? ⟨nb, 5, none⟩ = some (.slice ia jn ic)) w2 := ⟨hR.1.cellAt hS0.1 (by intro e; simp at e hnX; omega), hR.1.cellAt hS0.2 (by intro e; simp at e hnX; omega)⟩
 have hbk2 := hR.1.at HBK.out (by intro e; simp at e hnX; omega)
 have hce2 := hR.1.at HCe.out (by simp; omega)
 have HR := ld hR
 clear hR
 (try simp only [Act.put, sA, sB, sC])
 refine t1 11 3 (.tuple #[.map o, .agg #[.int .i64 ra, .int .i64 re]]) hS1 ?_
 (try simp only [Act.put, sA, sB, sC])
 refine t1 12 15 (.map o) hS1 ?_
 (try simp only [Act.put, sA, sB, sC])
 refine t1 13 16 (.agg #[.int .i64 ra, .int .i64 re]) hS1 ?_
 (try simp only [Act.put, sA, sB, sC])
 refine t1 14 17 (.pointer (some ⟨nb, 0, none⟩)) hS1 ?_
 (try simp only [Act.put, sA, sB, sC])
 refine t1 15 18 (.pointer (some ⟨nb, 7, none⟩)) hS1 ?_
 (try simp only [Act.put, sA, sB, sC])
 have hlw := (gl hce2)
 have hl2 := (gl hbk2)
 have hFIN : ∀ w7, w7.heap[nb]? = some (.cells #[.pointer (some ⟨A.c, 0, none⟩), .string ⟨nm.toArray⟩, .slice ua un uc, .slice ta tn tc, .slice la ln lc, .slice ia jn ic, .int .i64 at_, .map o] 80 (0, 0)) → Kp [nb, w.heap.size] w2 w7 → Kp [A.b1, A.b2, nb] w w7 ∧ ∃ o, w7.heap[nb]? = some (.cells #[.pointer (some ⟨A.c, 0, none⟩), .string ⟨nm.toArray⟩, .slice ua un uc, .slice ta tn tc, .slice la ln lc, .slice ia jn ic, .int .i64 at_, .map o] 80 (0, 0)) ∧ (re = 0 → Ck w0 w7 A r2 ∧ ∃ k, o = some k ∧ w.heap.size < k ∧ SetAt w7 k D.length D ∧ D.Nodup) := by
  intro w7 hh hk
  refine ⟨⟨hk.os.trans (HR.out.1.os.trans HG1.out.os), hk.tape.trans (HR.out.1.tape.trans HG1.out.tape), hk.output.trans (HR.out.1.output.trans HG1.out.output), Nat.le_trans HG1.out.size (Nat.le_trans HR.out.1.size hk.size), fun i hi hx => ?_⟩, o, hh, fun h0 => ?_⟩
  ·simp at hx
   exact (hk.block i (Nat.lt_of_lt_of_le hi (Nat.le_trans HG1.out.size HR.out.1.size)) (by simp; omega)).trans ((HR.out.1.block i (Nat.lt_of_lt_of_le hi HG1.out.size) (by simp; omega)).trans (HG1.out.block i hi (by simp)))
  ·obtain ⟨hck, k, ho, hk1, hk2, hk3⟩ := HR.out.2 h0
   have hk1' : w.heap.size < k := Nat.lt_of_lt_of_le (by show w.heap.size < W1.heap.size; omega) hk1
   exact ⟨hck.keptK hk (by simp at hnX ⊢; omega), k, ho, hk1', hk2.keptK hk (by simp; omega), hk3⟩
 have HFIN := ld hFIN
 clear hFIN HR HG1 HCe HBK hcall
 refine wpL_one (i := 16) (by kernel_rfl) ?_
 ·refine wpOp_now rfl (by kernel_rfl) (fun K' hK => ?_)
  have x7 := cell_of_row w2 _ 7 _ _ _ hbk2
  have z7 := frozen_of_row w2 _ 7 _ _ hbk2
  unfold Oper.wp
  go_simp
  refine hK _ _ ⟨fun _ => ⟨(World.cell?_setCell_other _ _ _ _ (by simp)).trans hS1.1, (World.cell?_setCell_other _ _ _ _ (by simp)).trans hS1.2⟩, ?_⟩
  clear hK K'
  have hgs : w2.grownBy (w2.setCell ⟨nb, 7, none⟩ (.map o)) (some nb) := grown_set w2 ⟨nb, 7, none⟩ _
  have hb3 : (w2.setCell ⟨nb, 7, none⟩ (.map o)).heap[nb]? = some (.cells #[.pointer (some ⟨A.c, 0, none⟩), .string ⟨nm.toArray⟩, .slice ua un uc, .slice ta tn tc, .slice la ln lc, .slice ia jn ic, .int .i64 at_, .map o] 80 (0, 0)) := by rw [heap_setCell_same w2 nb 7 _ _ _ hbk2]; rfl
  have hce3 := (hgs.block _ hlw (by simp; omega)).trans hce2
  have hS3 : (fun W' => W'.cell? ⟨nb, 0, none⟩ = some (.pointer (some ⟨A.c, 0, none⟩)) ∧ W'.cell? ⟨nb, 5, none⟩ = some (.slice ia jn ic)) (w2.setCell ⟨nb, 7, none⟩ (.map o)) := ⟨(World.cell?_setCell_other _ _ _ _ (by simp)).trans hS1.1, (World.cell?_setCell_other _ _ _ _ (by simp)).trans hS1.2⟩
  (try simp only [Act.put, sA, sB, sC])
  refine wpL_store (i := 17) w.heap.size #[.int .i64 ra, .int .i64 re] _ 63 63 _ _ (by kernel_rfl) rfl (by kernel_rfl) (by kernel_rfl) rfl rfl rfl hce3 (by kernel_rfl) rfl (by kernel_rfl) (fun w9 hh9 hg9 => ⟨⟨hg9.cell hS3.1 (by simp; omega), hg9.cell hS3.2 (by simp; omega)⟩, ?_⟩)
  have hZ := HFIN.out w9 ((hg9.block _ (gl hb3) (by simp; omega)).trans hb3) ((Kp.of hgs _ (fun k e _ => by cases e; simp)).trans (Kp.of hg9 _ (fun k e _ => by cases e; simp)))
  (try simp only [Act.put, sA, sB, sC])
  refine wpL_done (by kernel_rfl) ?_ _
  clear hS3 hb3 hce3 hgs hg9 x7 z7 hS1 hS0 hbk2 hce2
  have y0 := cell_of_row w9 _ 0 _ _ _ hh9
  have y1 := cell_of_row w9 _ 1 _ _ _ hh9
  have HZ := ld hZ
  have hh9' := hh9
  clear hZ
  go_wp2_with (with_reducible refine hold_st 2 ?_)
  refine ld ?_
  refine sg (hh9') ?_
  intro w7 hh7 hg7
  go_wp2
  (try simp only [Exit.inBlock, Exit.then])
  refine br hh7 Tryz.underlying63 ?_
  obtain ⟨z1, o9, z2, z3⟩ := HZ.out
  refine ⟨rfl, z1.trans' hg7 (Nat.le_refl _), o9, (hg7.block _ (gl z2) (by simp; omega)).trans z2, fun h0 => ?_⟩
  obtain ⟨k1, k, ho, k2, k3, k4⟩ := z3 h0
  exact ⟨k1.keptB hg7 ⟨hb0, by simp; omega⟩, k, ho, k2, k3.keptK (Kp.of hg7 [w.heap.size] (fun i e _ => by cases e; simp)) (by simp; omega), k4⟩
end
section
variable (A : Adr) (w0 : World) (nb n0 : Nat) (v : Sv) (hp : NPl A w0 nb n0)
include hp
theorem doNItemsP (f : Nat) (its : List Gram.Item) (hC : CItAt f its) (hv : RepC w0 0 [] (.l 40 12 (itemsD its)) (.slice v.ia v.jn v.ic)) : Does (NInv A w0 nb n0 v) (fun _ => True) n0 [A.b0, A.b1, A.b2, nb] 39 (.pointer (some ⟨nb, 0, none⟩)) (Nam.sItems (Nam.items f) its) := by
 refine ⟨enters_of Tryz.func39 (by kernel_rfl) rfl, fun s w r hI hn hr => ?_⟩
 obtain ⟨h1, dv, h4, h5⟩ := hI
 unfold Nam.sItems at hr
 cases hd : Nam.items f its s.1 with
 | none => rw [hd] at hr; cases hr
 | some x =>
  rw [hd] at hr
  cases hr
  obtain ⟨⟨D, ra, re⟩, r2⟩ := x
  refine (nItemsP A w0 w s.1 nb v.ua v.ta v.la v.ia v.un v.uc v.tn v.tc v.ln v.lc v.jn v.ic v.nm v.at_ dv f h4 hp.pnb.2.1 hp.pnb.2.2 h1 its hC hv D ra re r2 hd).mono ?_
  rintro e w' ⟨rfl, hk, o, hh, hz⟩
  refine ⟨rfl, hk.q1 (by simp), fun h0 => ?_, trivial⟩
  obtain ⟨c1, k, rfl, k2, k3, k4⟩ := hz h0
  exact ⟨c1, _, hh, k, rfl, Nat.lt_trans hn k2, k3, k4⟩
end
theorem checkNodeP (f : Nat) (A : Adr) (w0 w : World) (st : St) (n : Gram.Node) (hC : CItAt f n.items) (v : Sv) (hn1 : n.name = v.nm) (hn2 : n.at_ = v.at_)
  (h1 : RepC w0 0 [] (.l 112 5 (n.ins.map varD)) (.slice v.ua v.un v.uc)) (h2 : RepC w0 0 [] (.l 112 5 (n.outs.map varD)) (.slice v.ta v.tn v.tc)) (h3 : RepC w0 0 [] (.l 112 5 (n.locals.map varD)) (.slice v.la v.ln v.lc)) (h4 : RepC w0 0 [] (.l 40 12 (itemsD n.items)) (.slice v.ia v.jn v.ic))
  (h : Ck w0 w A st) (r : F × Nam.SS) (hr : Nam.node f n st = some r) :
  Calls Tryz.prog 28 #[.pointer (some ⟨A.c, 0, none⟩), .agg v.cells] w fun e w' => e = .returned (fv r.1) ∧ Kp [A.b0, A.b1, A.b2] w w' ∧ (r.1.2 = 0 → Ck w0 w' A r.2.1) := by
 have hmf := makeFunc_run
 obtain ⟨nb, hnbe⟩ : ∃ nb, nb = w.heap.size + 1 + 1 := ⟨_, rfl⟩
 obtain ⟨W4, hW4⟩ : ∃ W4, W4 = (((w.alloc (.cells v.cells 31 (0, 0))).alloc fo).alloc (v.nobj A (.map none))).alloc (.cells (nFns.map fun f => Value.func (.func f) #[.pointer (some ⟨nb, 0, none⟩)] #[]).toArray 82) := ⟨_, rfl⟩
 have hg4 : w.grownBy W4 none := by rw [hW4]; exact bs4 w _ _ _ _
 have hs4 : W4.heap.size = w.heap.size + 1 + 1 + 1 + 1 := by rw [hW4]; simp
 have hfb : W4.heap[w.heap.size + 1]? = some fo := by
  have e := heap_alloc_new (w.alloc (.cells v.cells 31 (0, 0))) fo
  rw [World.size_alloc] at e
  rw [hW4]; exact ((bs2 _ _ _).block _ (by simp) (by simp)).trans e
 have hnb : W4.heap[nb]? = some (v.nobj A (.map none)) := by
  have e := heap_alloc2_old ((w.alloc (.cells v.cells 31 (0, 0))).alloc fo) (v.nobj A (.map none)) (.cells (nFns.map fun f => Value.func (.func f) #[.pointer (some ⟨nb, 0, none⟩)] #[]).toArray 82)
  rw [World.size_alloc, World.size_alloc, ← hnbe] at e
  rw [hW4]; exact e
 have hfs : W4.heap[nb + 1]? = some (.cells (nFns.map fun f => Value.func (.func f) #[.pointer (some ⟨nb, 0, none⟩)] #[]).toArray 82 (0, 0)) := by
  have e := heap_alloc2_new ((w.alloc (.cells v.cells 31 (0, 0))).alloc fo) (v.nobj A (.map none)) (.cells (nFns.map fun f => Value.func (.func f) #[.pointer (some ⟨nb, 0, none⟩)] #[]).toArray 82)
  rw [World.size_alloc, World.size_alloc, ← hnbe] at e
  rw [hW4]; exact e
 have hlt := h.lt
 have hlm := h.mm.lt
 have hb0 := h.base.size
 have hI0 : NInv A w0 nb W4.heap.size v (st, none) W4 := ⟨h.kept hg4, _, hnb, rfl⟩
 have hp : NPl A w0 nb W4.heap.size := ⟨by omega, by omega, by simp; omega, by omega⟩
 have hord := inOrder_any (NInv A w0 nb W4.heap.size v) (fun _ => True) [A.b0, A.b1, A.b2, nb] (.pointer (some ⟨nb, 0, none⟩)) nFns
  [Nam.nName n, Nam.nDeclare false n.ins, Nam.nDeclare true n.outs, Nam.nDeclare true n.locals, Nam.sItems (Nam.items f) n.items, Nam.sMissing n.outs, Nam.sMissing n.locals, Nam.nClocks f n, Nam.nLeave n] (nb + 1) (st, none) W4 r (by decide) rfl hfs (by simp; omega) (by simp; omega)
  (by
   intro i g k hg hk
   have e1 := doName A w0 nb W4.heap.size v hp n hn1 hn2
   have e2 := doDecl A w0 nb W4.heap.size v hp false 36 (enters_of Tryz.func36 (by kernel_rfl) rfl) n.ins (fun w st dv ra re r2 q1 q2 q3 => nIns_any A w0 w st nb v.ua v.ta v.la v.ia v.un v.uc v.tn v.tc v.ln v.lc v.jn v.ic v.nm v.at_ dv n.ins q1 (NPl.nX A w0 nb _ hp) q2 h1 ra re r2 q3)
   have e3 := doDecl A w0 nb W4.heap.size v hp true 37 (enters_of Tryz.func37 (by kernel_rfl) rfl) n.outs (fun w st dv ra re r2 q1 q2 q3 => nOuts_any A w0 w st nb v.ua v.ta v.la v.ia v.un v.uc v.tn v.tc v.ln v.lc v.jn v.ic v.nm v.at_ dv n.outs q1 (NPl.nX A w0 nb _ hp) q2 h2 ra re r2 q3)
   have e4 := doDecl A w0 nb W4.heap.size v hp true 38 (enters_of Tryz.func38 (by kernel_rfl) rfl) n.locals (fun w st dv ra re r2 q1 q2 q3 => nLocals_any A w0 w st nb v.ua v.ta v.la v.ia v.un v.uc v.tn v.tc v.ln v.lc v.jn v.ic v.nm v.at_ dv n.locals q1 (NPl.nX A w0 nb _ hp) q2 h3 ra re r2 q3)
   have e5 := doNItemsP A w0 nb W4.heap.size v hp f n.items hC h4
   have e6 := doMiss A w0 nb W4.heap.size v hp 40 (enters_of Tryz.func40 (by kernel_rfl) rfl) n.outs (fun w st dv b m D ra re q1 q2 q3 q4 q5 => nOutsDef_any A w0 w st nb v.ua v.ta v.la v.ia v.un v.uc v.tn v.tc v.ln v.lc v.jn v.ic v.nm v.at_ dv n.outs q1 (NPl.nX A w0 nb _ hp) q2 h2 b q3 m D q4 ra re q5)
   have e7 := doMiss A w0 nb W4.heap.size v hp 41 (enters_of Tryz.func41 (by kernel_rfl) rfl) n.locals (fun w st dv b m D ra re q1 q2 q3 q4 q5 => nLocalsDef_any A w0 w st nb v.ua v.ta v.la v.ia v.un v.uc v.tn v.tc v.ln v.lc v.jn v.ic v.nm v.at_ dv n.locals q1 (NPl.nX A w0 nb _ hp) q2 h3 b q3 m D q4 ra re q5)
   have e8 := doClocks A w0 nb W4.heap.size v hp f n h3 h4
   have e9 := doNLeave A w0 nb W4.heap.size v hp n hn1 h1 h2 h3
   rcases i with _ | _ | _ | _ | _ | _ | _ | _ | _ | i
   ·cases hg; cases hk; exact e1
   ·cases hg; cases hk; exact e2
   ·cases hg; cases hk; exact e3
   ·cases hg; cases hk; exact e4
   ·cases hg; cases hk; exact e5
   ·cases hg; cases hk; exact e6
   ·cases hg; cases hk; exact e7
   ·cases hg; cases hk; exact e8
   ·cases hg; cases hk; exact e9
   ·simp at hk)
  (fun s a b n hs hgr hn => hs.st hp (by omega) hgr hn) (fun _ _ _ _ _ _ => trivial) (fun _ _ _ => trivial) hI0 hr
 rw [show nFns.length = 9 from rfl] at hord
 have HF := ld hW4
 have HG := ld hg4
 have HFB := ld hfb
 have HL := ld (And.intro h.lo (And.intro hlt (And.intro hlm hb0)))
 obtain ⟨⟨ra, re⟩, r2⟩ := r
 simp only [fv] at hord ⊢
 have HS := ld hs4
 rw [hW4] at hord
 subst hnbe
 simp only [nFns, List.map_cons, List.map_nil] at hord
 clear hW4 hg4 hs4 hfb hfs hI0 hr h1 h2 h3 h4 hnb hp hlt hlm hb0
 unfold Sv.cells at HF hord ⊢
 unfold Sv.nobj at HF hord
 go_enter Tryz.func28, Tryz.ntmps28
 go_wp2_with (go_at_call 34; refine hord.mono ?_; rintro e w3 ⟨rfl, hk3, hi3, _⟩; refine Hid.out ?_)
 have HK : Kp [A.b0, A.b1, A.b2, w.heap.size + 1 + 1] W4 w3 := by rw [HF.out]; exact hk3
 have hce3 := HK.at HFB.out (by simp; have := HL.out; omega)
 have HI := ld hi3
 clear hi3 hk3
 refine ld ?_
 go_wp2_with (with_reducible refine hold_st 4 ?_)
 refine ld ?_
 refine sg hce3 ?_
 intro w7 hh7 hg7
 go_wp2
 (try simp only [Exit.inBlock, Exit.then])
 refine br hh7 Tryz.underlying63 ?_
 have hk7 : Kp [A.b0, A.b1, A.b2, w.heap.size + 1 + 1] w w7 := ((Kp.of0 HG.out _).trans HK).trans' hg7 (by omega)
 refine ⟨rfl, hk7.mono (fun k e hk => by simp at e ⊢; omega), fun h0 => ?_⟩
 have h9 := (HI.out h0).1
 have := HL.out
 exact h9.keptB hg7 ⟨by omega, by simp; omega⟩
theorem ncheckP (w : World) (l : List Gram.Node) (hpl : ∀ n ∈ l, ∀ it ∈ n.items, Nam.itStates it = []) (a : Option Addr) (L cap : Nat) (hv : RepC w 0 [] (.l 31 6 (l.map nodeD)) (.slice a L cap)) (ra re : Int) (hr : Nam.check l = some (ra, re)) :
  Calls Tryz.prog 18 #[.agg #[.slice a L cap]] w fun e w' => e = .returned (.tuple #[.int .i64 ra, .int .i64 re]) ∧ w.grownBy w' none := by
 obtain ⟨hL, hLm⟩ := nodesLen hv
 unfold maxLen at hLm
 obtain ⟨W1, hW1⟩ : ∃ W1, W1 = w.alloc (.cells #[.slice a L cap] 25 (0, 0)) := ⟨_, rfl⟩
 have hg1 : w.grownBy W1 none := by rw [hW1]; exact ga w _ none
 have hp1 : W1.heap[w.heap.size]? = some (.cells #[.slice a L cap] 25 (0, 0)) := by rw [hW1]; exact heap_alloc_new w _
 have hv1 : RepC W1 0 [] (.l 31 6 (l.map nodeD)) (.slice a L cap) := RepC.kept hg1 (fun k e => by cases e) hv
 have hnew := newChecker_any W1
 have HL := ld hL
 have HR := ld hr
 have HG := ld hg1
 have HP := ld hp1
 have HW := ld hW1
 rw [hW1] at hnew
 clear hL hr hg1 hp1 hv hW1
 go_enter Tryz.func18, Tryz.ntmps18
 go_wp2_with (go_at_call 27; refine hnew.mono ?_; rintro e w2 ⟨A, rfl, hck0⟩; rw [← HW.out] at hck0; have hpc := cell_of_row w2 _ 0 _ _ _ ((hck0.base.block _ (gl HP.out) (by simp)).trans HP.out); refine Hid.out ?_)
 have HC0 := ld hck0
 clear hck0 hnew
 refine ld ?_
 go_wp2
 go_loopw [12] (fun iv wr => ∃ (t : Nat) (st : St), t ≤ L ∧ iv = .int .i64 (t : Int) ∧ Hid (Ck W1 wr A st ∧ Nam.nodes 60 (l.drop t) st = some (ra, re))) (fun i _ => L - (intOf i).toNat)
 case atStart => exact ⟨0, ⟨[], [], [], 0⟩, Nat.zero_le _, rfl, ld ⟨HC0.out, HR.out⟩⟩
 case round =>
  obtain ⟨t, st, ht, rfl, HQ⟩ := hrel
  obtain ⟨hck, hm⟩ := HQ.out
  clear HQ HR hpc HC0
  by_cases hlt : t < L
  ·obtain ⟨x, hx⟩ : ∃ x, l[t]? = some x := ⟨_, List.getElem?_eq_getElem (by rw [← HL.out]; exact hlt)⟩
   rw [drop_at hx] at hm
   unfold Nam.nodes at hm
   obtain ⟨g, ua, un, uc, ta, tn, tc, la, ln, lc, ia, jn, ic, rfl, ⟨u0, u1, u2, u3, u4, u5⟩, k1, k2, k3, k4⟩ := nodeAt hv1 hx
   have v0 := hck.base.cell u0 (by simp)
   have v1 := hck.base.cell u1 (by simp)
   have v2 := hck.base.cell u2 (by simp)
   have v3 := hck.base.cell u3 (by simp)
   have v4 := hck.base.cell u4 (by simp)
   have v5 := hck.base.cell u5 (by simp)
   clear u0 u1 u2 u3 u4 u5
   cases hxe : Nam.node 60 x st with
   | none => rw [hxe] at hm; cases hm
   | some xr =>
   rw [hxe] at hm
   simp only at hm
   have hcn := checkNodeP 60 A W1 (wr.alloc (.cells #[.string ⟨x.name.toArray⟩, .slice ua un uc, .slice ta tn tc, .slice la ln lc, .slice ia jn ic, .int .i64 x.at_] 31 (0, 0))) st x (citP 59 x.items (hpl x (List.mem_of_getElem? hx))) ⟨x.name, ua, un, uc, ta, tn, tc, la, ln, lc, ia, jn, ic, x.at_⟩ rfl rfl k1 k2 k3 k4 (hck.kept (ga wr _ none)) xr hxe
   unfold Sv.cells at hcn
   simp only at hcn
   have hga := ga wr (.cells #[.string ⟨x.name.toArray⟩, .slice ua un uc, .slice ta tn tc, .slice la ln lc, .slice ia jn ic, .int .i64 x.at_] 31 (0, 0)) none
   have HGA := ld hga
   have HCK := ld hck
   obtain ⟨⟨xa, xe⟩, st2, dd⟩ := xr
   simp only [fv] at hcn
   have hfd := found_any (xa, xe)
   simp only [fv] at hfd
   clear hck hxe k1 k2 k3 k4 hx hga
   generalize x.name = nm at *
   generalize x.at_ = at_ at *
   by_cases h0 : xe = 0
   ·have hb : (xe != 0) = false := by simp [h0]
    rw [hb] at hfd
    rw [if_pos h0] at hm
    have H0 := ld h0
    have HM := ld hm
    clear hm h0 hb
    go_wp2_with (first | (go_at_call 28; refine hcn.mono ?_; rintro e w3 ⟨rfl, hk3, hi3⟩; have HI := ld (hi3 H0.out); clear hk3 hi3) | (go_at_call 29; refine (hfd _).mono ?_; rintro e w4 ⟨rfl, hg4⟩; refine Hid.out ?_))
    have hg34 : w3.grownBy w4 none := (ga w3 _ none).trans hg4
    have HF := ld (HI.out.kept hg34)
    clear hg34 hg4 HI hcn hfd
    refine ld ?_
    go_wp2
    exact ⟨⟨t + 1, st2, by omega, by go_num, ld ⟨HF.out, HM.out⟩⟩, by simp [intOf]; omega⟩
   ·have hb : (xe != 0) = true := by simp [h0]
    rw [hb] at hfd
    rw [if_neg h0] at hm
    have HM := ld (Option.some.inj hm)
    clear hm hb
    have HLo := ld HCK.out.lo
    go_wp2_with (first | (go_at_call 28; refine hcn.mono ?_; rintro e w3 ⟨rfl, hk3, hi3⟩; have HK := ld hk3; clear hk3 hi3) | (go_at_call 29; refine (hfd _).mono ?_; rintro e w4 ⟨rfl, hg4⟩; have d0 := hg4.cell (cell_of_row _ _ 0 _ _ _ (heap_alloc_new w3 _)) (by simp); have d1 := hg4.cell (cell_of_row _ _ 1 _ _ _ (heap_alloc_new w3 _)) (by simp); refine Hid.out ?_))
    have hg34 : w3.grownBy w4 none := (ga w3 _ none).trans hg4
    have hG : W1.grownBy w4 none := (Kp.grown (HCK.out.base.trans HGA.out) HK.out (by have := HLo.out; simp; omega)).trans hg34
    have HGG := ld (HG.out.trans hG)
    clear hG hg34 hg4 HK hcn hfd HCK HGA
    refine ld ?_
    go_wp2
    go_quiet (fail)
    go_wp2
    go_ret2
    have e := HM.out
    cases e
    exact ⟨rfl, gdrewN HGG.out _⟩
  ·have e : t = L := by omega
   subst e
   rw [List.drop_eq_nil_of_le (by rw [← HL.out]; exact Nat.le_refl _)] at hm
   have HM := ld (Option.some.inj hm)
   have HGG := ld (HG.out.trans hck.base)
   clear hm hck
   go_wp2
   go_ret2
   have e := HM.out
   cases e
   exact ⟨rfl, HGG.out⟩
def flat (l : List Gram.Node) : Bool := l.all fun n => n.items.all fun it => (Nam.itStates it).isEmpty
theorem flat_of {l : List Gram.Node} (h : flat l = true) : ∀ n ∈ l, ∀ it ∈ n.items, Nam.itStates it = [] := by
 intro n hn it hit
 have h1 := List.all_eq_true.1 (List.all_eq_true.1 h n hn) it hit
 simpa using h1
def Nam.lawP (s : List UInt8) : Option (Bool × Nam.F) := match Gram.Rf.parse s with
 | .ok l => (match Nam.check l with | some x => some (flat l, x) | none => none)
 | _ => none
theorem prog5P {s : ByteArray} {x : Nam.F} (hs : s.size ≤ 8000) (hx : Nam.lawP s.data.toList = some (true, x)) (w : World) : Calls Tryz.prog 9 #[.string s] w fun e w' => ∃ l a L c, e = .returned (.tuple #[.agg #[.slice a L c], .bool true]) ∧ (Nam.check l = some x ∧ ∀ n ∈ l, ∀ it ∈ n.items, Nam.itStates it = []) ∧ RepC w' 0 [] (.l 31 6 (l.map nodeD)) (.slice a L c) ∧ w.grownBy w' none := by
 unfold Nam.lawP at hx
 cases hp : Gram.Rf.parse s.data.toList with
 | ok l =>
  rw [hp] at hx
  simp only at hx
  cases hc : Nam.check l with
  | none => rw [hc] at hx; cases hx
  | some y =>
   rw [hc] at hx
   have e := Option.some.inj hx
   have e1 : flat l = true := congrArg Prod.fst e
   have e2 : y = x := congrArg Prod.snd e
   refine (prog5_ok hs hp w).mono ?_
   rintro e w' ⟨a, L, c, rfl, h1, h2⟩
   exact ⟨l, a, L, c, rfl, ⟨by rw [hc, e2], flat_of e1⟩, RepC.mono (Nat.zero_le _) h1, h2⟩
 | bad a e => rw [hp] at hx; cases hx
 | fuel => rw [hp] at hx; cases hx
theorem alive5P (w : World) : Calls Tryz.prog 8 #[] w fun e w' => e = .returned (.bool true) ∧ w.grownBy w' none := by
 go_enter Tryz.func8, Tryz.ntmps8
 go_wp2_with (first | (go_at_call 9; refine (prog5P (x := (35, 21)) (by decide +kernel) (by kernel_rfl) _).mono ?_; rintro e w1 ⟨l1, a1, L1, c1, rfl, k1, h1, hg1⟩; refine Hid.out ?_))
 have hga := ga w1 (.cells #[.slice a1 L1 c1] 25 (0, 0)) none
 have q1 := cell_of_row _ _ 0 _ _ _ (heap_alloc_new w1 (.cells #[.slice a1 L1 c1] 25 (0, 0)))
 have HA := ld (And.intro (RepC.kept hga (fun k e => by cases e) h1) (hg1.trans hga))
 clear hga hg1 h1
 refine ld ?_
 go_wp2_with (first | (go_at_call 9; refine (prog5P (x := (0, 0)) (by decide +kernel) (by kernel_rfl) _).mono ?_; rintro e w2 ⟨l2, a2, L2, c2, rfl, k2, h2, hg2⟩; refine Hid.out ?_))
 have hgb := ga w2 (.cells #[.slice a2 L2 c2] 25 (0, 0)) none
 have q2 := cell_of_row _ _ 0 _ _ _ (heap_alloc_new w2 (.cells #[.slice a2 L2 c2] 25 (0, 0)))
 have q1' := (hg2.trans hgb).cell q1 (by simp)
 have HB := ld (And.intro (RepC.kept hgb (fun k e => by cases e) h2) (And.intro (RepC.kept (hg2.trans hgb) (fun k e => by cases e) HA.out.1) (HA.out.2.trans (hg2.trans hgb))))
 clear hgb hg2 h2 q1 HA
 refine ld ?_
 go_wp2_with (first | (go_at_call 18; refine (ncheckP _ l1 k1.2 a1 L1 c1 HB.out.2.1 35 21 k1.1).mono ?_; rintro e w3 ⟨rfl, hg3⟩; refine Hid.out ?_))
 have q2' := hg3.cell q2 (by simp)
 have HC := ld (And.intro (RepC.kept hg3 (fun k e => by cases e) HB.out.1) (HB.out.2.2.trans hg3))
 clear hg3 q1' q2 HB
 refine ld ?_
 go_wp2_with (first | (go_at_call 18; refine (ncheckP _ l2 k2.2 a2 L2 c2 HC.out.1 0 0 k2.1).mono ?_; rintro e w4 ⟨rfl, hg4⟩; refine Hid.out ?_))
 have HD := ld (HC.out.2.trans hg4)
 clear hg4 q2' HC
 refine ld ?_
 go_wp2_with (go_at_call 19; refine (num5_any _ _).mono ?_; rintro e w' ⟨rfl, rfl⟩)
 go_ret
 exact ⟨rfl, HD.out⟩
open Go.RowKit Go.Maps Go.WideMaps
theorem isCall_any (f : Int) (w : World) : Calls Tryz.prog 24 #[.int .i64 f] w fun e w' => e = .returned (.bool (Nam.calls f)) ∧ w' = w := by
 unfold Nam.calls
 cases h1 : (f == 13) <;> cases h2 : (f == 14) <;> cases h3 : (f == 18) <;> cases h4 : (f == 19) <;>
 ·go_enter Tryz.func24, Tryz.ntmps24
  go_wp2
  go_ret
  exact ⟨rfl, rfl⟩
theorem kid_lt {ks : List Gram.Exp} {t : Nat} {k : Gram.Exp} (h : ks[t]? = some k) {f s : Int} {nm : List UInt8} {tk tl n m a : Int} : SizeOf.sizeOf k < SizeOf.sizeOf (Gram.Exp.mk f s nm tk tl n m ks a) := by
 have h1 := List.sizeOf_lt_of_mem (List.mem_of_getElem? h)
 simp only [Gram.Exp.mk.sizeOf_spec]
 omega
theorem rML_succ {ks : List Gram.Exp} {t : Nat} {k : Gram.Exp} (h : ks[t]? = some k) : Gram.Rf.rML (ks.take (t + 1)) = (Gram.Rf.rML (ks.take t) || Gram.Rf.rM k) := by
 have app : ∀ a b, Gram.Rf.rML (a ++ b) = (Gram.Rf.rML a || Gram.Rf.rML b) := by
  intro a
  induction a with
  | nil => intro b; simp [Gram.Rf.rML]
  | cons x r ih => intro b; simp [Gram.Rf.rML, ih b, Bool.or_assoc]
 rw [List.take_add_one, h, app]
 simp [Gram.Rf.rML]
theorem rML_at {ks : List Gram.Exp} {t : Nat} {k : Gram.Exp} (h : ks[t]? = some k) (hk : Gram.Rf.rM k = true) : Gram.Rf.rML ks = true := by
 have app : ∀ (l : List Gram.Exp), k ∈ l → Gram.Rf.rML l = true := by
  intro l
  induction l with
  | nil => simp
  | cons x r ih =>
   intro hm
   rcases List.mem_cons.1 hm with e | e
   ·subst e; simp [Gram.Rf.rML, hk]
   ·simp [Gram.Rf.rML, ih e]
 exact app ks (List.mem_of_getElem? h)
theorem rMem_any (w0 : World) : ∀ (m : Nat) (x : Gram.Exp), SizeOf.sizeOf x ≤ m → ∀ (w : World) (a : Option Addr) (L c : Nat), w0.grownBy w none → KidsX w0 0 [] x.kids (.slice a L c) →
  Calls Tryz.prog 17 #[.agg (expCells x (.slice a L c)).toArray] w fun e w' => e = .returned (.bool (Gram.Rf.rM x)) ∧ w.grownBy w' none := by
 intro m
 induction m with
 | zero => intro x hx; cases x; simp at hx
 | succ m ih =>
  intro x hx w a L c hg hk
  obtain ⟨f, s, nm, tk, tl, nn, mm, ks, at_⟩ := x
  simp only [Gram.Exp.kids] at hk
  obtain ⟨hL, hLm⟩ := kidsLen hk
  unfold maxLen at hLm
  simp only [expCells]
  have hic := isCall_any f
  have hrm : Gram.Rf.rM (Gram.Exp.mk f s nm tk tl nn mm ks at_) = ((f == 6 || f == 7 || f == 8 || f == 12 || Nam.calls f) || Gram.Rf.rML ks) := by simp only [Gram.Rf.rM, Nam.remembers]
  rw [hrm]
  have hg1 := ga w (.cells #[.int .i64 f, .int .i64 s, .string ⟨nm.toArray⟩, .int .i64 tk, .int .i64 tl, .int .i64 nn, .int .i64 mm, .slice a L c, .int .i64 at_] 37 (0, 0)) none
  have HG1 := ld hg1
  have HK := ld hk
  have HL := ld hL
  have HGr := ld hg
  have HX := ld hx
  have HIH := ld ih
  clear hg1 hrm hk hL hg hx ih
  cases h1 : (f == 6) with
  | true =>
   clear hic
   go_enter Tryz.func17, Tryz.ntmps17
   go_wp2
   go_ret
   exact ⟨by simp, HG1.out⟩
  | false =>
  cases h2 : (f == 7) with
  | true =>
   clear hic
   go_enter Tryz.func17, Tryz.ntmps17
   go_wp2
   go_ret
   exact ⟨by simp, HG1.out⟩
  | false =>
  cases h3 : (f == 8) with
  | true =>
   clear hic
   go_enter Tryz.func17, Tryz.ntmps17
   go_wp2
   go_ret
   exact ⟨by simp, HG1.out⟩
  | false =>
  cases h4 : (f == 12) with
  | true =>
   clear hic
   go_enter Tryz.func17, Tryz.ntmps17
   go_wp2
   go_ret
   exact ⟨by simp, HG1.out⟩
  | false =>
  cases h5 : Nam.calls f with
  | true =>
   rw [h5] at hic
   go_enter Tryz.func17, Tryz.ntmps17
   go_wp2_with (go_at_call 24; refine (hic _).mono ?_; rintro e w1 ⟨rfl, rfl⟩)
   go_ret
   exact ⟨by simp, HG1.out⟩
  | false =>
  rw [h5] at hic
  simp only [Bool.false_or]
  obtain ⟨R, hR⟩ : ∃ R, R = Gram.Rf.rML ks := ⟨_, rfl⟩
  rw [← hR]
  have HR := ld hR
  clear hR
  go_enter Tryz.func17, Tryz.ntmps17
  go_wp2_with (go_at_call 24; refine (hic _).mono ?_; rintro e w1 ⟨rfl, rfl⟩)
  go_loopw [3] (fun iv wr => ∃ t : Nat, t ≤ L ∧ iv = .int .i64 (t : Int) ∧ Hid (w.grownBy wr none ∧ wr.heap[w.heap.size]? = some (.cells #[.int .i64 f, .int .i64 s, .string ⟨nm.toArray⟩, .int .i64 tk, .int .i64 tl, .int .i64 nn, .int .i64 mm, .slice a L c, .int .i64 at_] 37 (0, 0)) ∧ Gram.Rf.rML (ks.take t) = false)) (fun i _ => L - (intOf i).toNat)
  case atStart => exact ⟨0, Nat.zero_le _, rfl, ld ⟨HG1.out, heap_alloc_new w _, by simp [Gram.Rf.rML]⟩⟩
  case round =>
   obtain ⟨t, ht, rfl, HQ⟩ := hrel
   obtain ⟨q1, q2, q3⟩ := HQ.out
   clear HQ HG1
   have p6 := cell_of_row wr _ 7 _ _ _ q2
   have hgr := HGr.out.trans q1
   by_cases hlt : t < L
   ·obtain ⟨k, hkt⟩ : ∃ k, ks[t]? = some k := ⟨_, List.getElem?_eq_getElem (by rw [← HL.out]; exact hlt)⟩
    obtain ⟨g, pa, pn, pc, rfl, hkk, hcs⟩ := expAt HK.out hkt
    have hsz := kid_lt hkt (f := f) (s := s) (nm := nm) (tk := tk) (tl := tl) (n := nn) (m := mm) (a := at_)
    have hrec := fun V (hV : wr.grownBy V none) => HIH.out k (by have := HX.out; omega) V pa pn pc (hgr.trans hV) hkk
    have hs3 := rML_succ hkt
    have hat := rML_at hkt
    rw [q3, Bool.false_or] at hs3
    clear hsz
    cases k with
    | mk f1 s1 nm1 tk1 tl1 n1 m1 ks1 a1 =>
    simp only [expCells] at hrec hcs
    have v0 := hgr.cell (hcs 0 _ rfl) (by simp)
    have v1 := hgr.cell (hcs 1 _ rfl) (by simp)
    have v2 := hgr.cell (hcs 2 _ rfl) (by simp)
    have v3 := hgr.cell (hcs 3 _ rfl) (by simp)
    have v4 := hgr.cell (hcs 4 _ rfl) (by simp)
    have v5 := hgr.cell (hcs 5 _ rfl) (by simp)
    have v6 := hgr.cell (hcs 6 _ rfl) (by simp)
    have v7 := hgr.cell (hcs 7 _ rfl) (by simp)
    have v8 := hgr.cell (hcs 8 _ rfl) (by simp)
    rw [Nat.add_zero] at v0
    have hc := hrec wr (World.grownBy.refl _ _)
    generalize Gram.Rf.rM (Gram.Exp.mk f1 s1 nm1 tk1 tl1 n1 m1 ks1 a1) = b at hc hs3 hat
    have HS3 := ld hs3
    have HAT := ld hat
    have HQ1 := ld (And.intro q1 q2)
    clear hcs hkk hrec hgr hs3 hat q1 q2 q3 hkt
    cases b with
    | true =>
     go_wp2_with (go_at_call 17; refine hc.mono ?_; rintro e w2 ⟨rfl, hg2⟩)
     go_ret
     have hat2 := HAT.out (by first | rfl | trivial)
     exact ⟨by rw [HR.out, hat2]; rfl, HQ1.out.1.trans hg2⟩
    | false =>
     go_wp2_with (go_at_call 17; refine hc.mono ?_; rintro e w2 ⟨rfl, hg2⟩)
     exact ⟨⟨t + 1, by omega, by go_num, ld ⟨HQ1.out.1.trans hg2, (hg2.block _ (gl HQ1.out.2) (by simp)).trans HQ1.out.2, HS3.out⟩⟩, by simp [intOf]; omega⟩
   ·have e : t = L := by omega
    subst e
    rw [List.take_of_length_le (by rw [← HL.out]; exact Nat.le_refl _), ← HR.out] at q3
    clear hgr q2
    go_wp2
    go_ret
    exact ⟨by rw [q3]; rfl, q1⟩
end Go.Proofs.YtonafedbehnneaaGreat
