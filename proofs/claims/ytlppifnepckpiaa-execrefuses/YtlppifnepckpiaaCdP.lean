/- The plain mathematics of the walk over code: what is known of all instructions in one list. -/
import Derived.Test.YtlppifnepckpiaaCdO
namespace Go.Proofs.Ytlppifnepckpiaa.Cd
open Go.RowKit

abbrev Kn := List (Option (List Int))
theorem meet_get (l : List Int) : ∀ (n : Nat) (ps : Kn), meet l n ps = match ps[n]? with
    | none => none
    | some none => some (ps.set n (some l))
    | some (some m) => if m = l then some (ps.set n (some l)) else none
  | n, [] => by cases n <;> rfl
  | 0, none :: ps => rfl
  | 0, some m :: ps => rfl
  | n + 1, p :: ps => by
    have ih := meet_get l n ps
    rw [meet, ih, List.getElem?_cons_succ]
    cases h : ps[n]? with
    | none => rfl
    | some q =>
      cases q with
      | none => rfl
      | some m =>
        simp only
        split <;> rfl
/-- the stack m comes from the instruction at_ to the one n and 1 behind -/
def lead (m : List Int) (at_ : Nat) (n : Int) (qs : Kn) : Option Kn :=
  if n < 0 then none else
    match qs[at_ + 1 + n.toNat]? with
    | none => none
    | some none => some (qs.set (at_ + 1 + n.toNat) (some m))
    | some (some k) => if k = m then some qs else none
theorem set_same {α : Type} : ∀ (l : List α) (i : Nat) (x : α), l[i]? = some x → l.set i x = l
  | [], _, _, h => by simp at h
  | a :: l, 0, x, h => by simp at h; simp [h]
  | a :: l, i + 1, x, h => by simp at h; simp [set_same l i x h]
theorem lead_meet (m : List Int) (at_ : Nat) (n : Int) (qs : Kn) (h : 0 ≤ n) : meet m n.toNat (qs.drop (at_ + 1)) = (lead m at_ n qs).map (List.drop (at_ + 1)) := by
  rw [meet_get, lead, if_neg (by omega), List.getElem?_drop]
  have e : ∀ x, (qs.drop (at_ + 1)).set n.toNat x = (qs.set (at_ + 1 + n.toNat) x).drop (at_ + 1) := fun x => by
    rw [List.drop_set, if_neg (by omega)]
    congr 1
    omega
  cases h1 : qs[at_ + 1 + n.toNat]? with
  | none => rfl
  | some q =>
    cases q with
    | none => simp only [Option.map_some]; rw [e]
    | some k =>
      simp only
      by_cases hk : k = m
      · rw [if_pos hk, if_pos hk, e, Option.map_some, set_same qs _ _ (by rw [h1, hk])]
      · rw [if_neg hk, if_neg hk]; rfl
/-- what one instruction does -/
def act (c : Code) (x : Ins) (l : List Int) (at_ : Nat) (qs : Kn) : Option Kn :=
  match step c x l with
  | none => none
  | some m =>
    if c.stack < m.length then none
    else if x.op = 9 then some qs
    else if x.op = 7 then lead m at_ x.n qs
    else if x.op = 8 then (lead m at_ 0 qs).bind fun q => lead m at_ x.n q
    else lead m at_ 0 qs
theorem drop_at {α : Type} {l : List α} {i : Nat} {x : α} (h : l[i]? = some x) : l.drop i = x :: l.drop (i + 1) := by
  have hl := (List.getElem?_eq_some_iff.1 h)
  rw [List.drop_eq_getElem_cons hl.1, hl.2]
theorem go_skip {c : Code} {body : List Ins} {x : Ins} {at_ : Nat} {qs : Kn} (hx : body[at_]? = some x) (hq : qs[at_]? = some none) : go c (body.drop at_) (qs.drop at_) = go c (body.drop (at_ + 1)) (qs.drop (at_ + 1)) := by
  rw [drop_at hx, drop_at hq, go]
theorem go_end {c : Code} {body : List Ins} {qs : Kn} : go c (body.drop body.length) qs = true := by rw [List.drop_length]; cases qs <;> rfl
theorem lead_neg (m : List Int) (at_ : Nat) (n : Int) (qs : Kn) (h : n < 0) : lead m at_ n qs = none := by rw [lead, if_pos h]
theorem go_act {c : Code} {body : List Ins} {x : Ins} {l : List Int} {at_ : Nat} {qs : Kn} (hx : body[at_]? = some x) (hq : qs[at_]? = some (some l)) :
    go c (body.drop at_) (qs.drop at_) = match act c x l at_ qs with | none => false | some q => go c (body.drop (at_ + 1)) (q.drop (at_ + 1)) := by
  rw [drop_at hx, drop_at hq, go, act]
  cases step c x l with
  | none => rfl
  | some m =>
    simp only
    by_cases h1 : c.stack < m.length
    · rw [if_pos h1, if_pos h1]
    rw [if_neg h1, if_neg h1]
    by_cases h9 : x.op = 9
    · rw [if_pos h9, if_pos h9]
    rw [if_neg h9, if_neg h9]
    by_cases h7 : x.op = 7
    · rw [if_pos h7, if_pos h7]
      by_cases h0 : x.n < 0
      · rw [if_pos h0, lead_neg _ _ _ _ h0]
      · rw [if_neg h0, lead_meet _ _ _ _ (by omega)]
        cases lead m at_ x.n qs <;> rfl
    rw [if_neg h7, if_neg h7]
    by_cases h8 : x.op = 8
    · rw [if_pos h8, if_pos h8]
      have e0 := lead_meet m at_ 0 qs (by decide)
      simp only [Int.toNat_zero] at e0
      by_cases h0 : x.n < 0
      · rw [if_pos h0]
        cases lead m at_ 0 qs with
        | none => rfl
        | some q => rw [Option.bind_some, lead_neg _ _ _ _ h0]
      · rw [if_neg h0, e0]
        cases lead m at_ 0 qs with
        | none => rfl
        | some q =>
          simp only [Option.map_some, Option.bind_some]
          rw [lead_meet _ _ _ _ (by omega)]
          cases lead m at_ x.n q <;> rfl
    · rw [if_neg h8, if_neg h8]
      have e0 := lead_meet m at_ 0 qs (by decide)
      simp only [Int.toNat_zero] at e0
      rw [e0]
      cases lead m at_ 0 qs <;> rfl
/-- stacks that can be -/
def Sk (c : Code) (l : List Int) : Prop := (l.length : Int) ≤ c.stack ∧ ∀ k ∈ l, 1 ≤ k ∧ k ≤ 9
def Sks (c : Code) (qs : Kn) : Prop := ∀ l, some l ∈ qs → Sk c l
theorem lead_sks {c : Code} {m : List Int} {at_ : Nat} {n : Int} {qs q : Kn} (hm : Sk c m) (hq : Sks c qs) (h : lead m at_ n qs = some q) : Sks c q ∧ q.length = qs.length := by
  unfold lead at h
  split at h
  · cases h
  · split at h
    · cases h
    · obtain rfl := Option.some.inj h
      refine ⟨fun l hl => ?_, by simp⟩
      rcases List.mem_or_eq_of_mem_set hl with h1 | h1
      · exact hq l h1
      · obtain rfl := Option.some.inj h1
        exact hm
    · split at h
      · obtain rfl := Option.some.inj h
        exact ⟨hq, rfl⟩
      · cases h
theorem wid_k {k : Int} (h : 0 < Bv.wid k) : 1 ≤ k ∧ k ≤ 9 := by
  unfold Bv.wid at h
  repeat' split at h
  all_goals first | omega | simp_all
/-- the top is of that kind -/
def onTop (l : List Int) (k : Int) (f : List Int → Option Kn) : Option Kn :=
  match l with
  | [] => none
  | a :: r => if a = k then f r else none
theorem onTop_yes (k : Int) (r : List Int) (f : List Int → Option Kn) : onTop (k :: r) k f = f r := by rw [onTop, if_pos rfl]
theorem onTop_no {l : List Int} {k : Int} (h : l.head? ≠ some k) (f : List Int → Option Kn) : onTop l k f = none := by
  cases l with
  | nil => rfl
  | cons a r => rw [onTop, if_neg (fun e => h (by rw [e]; rfl))]
theorem top_or (l : List Int) (k : Int) : (∃ r, l = k :: r) ∨ l.head? ≠ some k := by
  cases l with
  | nil => right; simp
  | cons a r =>
    by_cases h : a = k
    · left; exact ⟨r, by rw [h]⟩
    · right; simpa using h
def rule (c : Code) (x : Ins) (l : List Int) (at_ : Nat) (qs : Kn) : Option Kn :=
  if x.op = 1 then (if Bv.isv x.k x.n then (if (l.length : Int) < c.stack then lead (x.k :: l) at_ 0 qs else none) else none)
  else if x.op = 2 then (if 0 ≤ x.n ∧ x.n < c.kinds.length then (if (l.length : Int) < c.stack then lead (c.kinds.getD x.n.toNat 0 :: l) at_ 0 qs else none) else none)
  else if x.op = 3 then (if (0 ≤ x.n ∧ x.n < c.kinds.length) ∧ c.ins ≤ x.n then onTop l (c.kinds.getD x.n.toNat 0) (fun r => lead r at_ 0 qs) else none)
  else if x.op = 4 then (if Bv.unB x.n x.k 0 then onTop l x.k (fun r => lead (x.k :: r) at_ 0 qs) else none)
  else if x.op = 5 then (if Bv.binB x.n x.k 0 0 then onTop l x.k (fun r => onTop r x.k (fun r => lead (Bv.toK x.n x.k :: r) at_ 0 qs)) else none)
  else if x.op = 6 then (if 0 < Bv.wid x.k then onTop l x.n (fun r => lead (x.k :: r) at_ 0 qs) else none)
  else if x.op = 7 then lead l at_ x.n qs
  else if x.op = 8 then onTop l 1 (fun r => (lead r at_ 0 qs).bind fun q => lead r at_ x.n q)
  else if l = [] then some qs else none
/-- fields that an instruction does not have are nought -/
def bare (x : Ins) : Bool := if x.op = 9 then (x.n == 0) && (x.k == 0) else if x.op = 2 ∨ x.op = 3 ∨ x.op = 7 ∨ x.op = 8 then x.k == 0 else true
theorem act_rule (c : Code) (x : Ins) (l : List Int) (at_ : Nat) (qs : Kn) (h1 : 1 ≤ x.op) (h9 : x.op ≤ 9) (hi : 0 ≤ c.ins) (hs : Sk c l) : act c x l at_ qs = if bare x then rule c x l at_ qs else none := by
  obtain ⟨op, n, k⟩ := x
  simp only at h1 h9
  have hl := hs.1
  rcases (show op = 1 ∨ op = 2 ∨ op = 3 ∨ op = 4 ∨ op = 5 ∨ op = 6 ∨ op = 7 ∨ op = 8 ∨ op = 9 by omega) with rfl | rfl | rfl | rfl | rfl | rfl | rfl | rfl | rfl
  · simp [act, step, bare, rule]
    by_cases hv : Bv.isv k n = true
    · simp only [hv, if_true, List.length_cons]
      by_cases h : (l.length : Int) < c.stack
      · rw [if_neg (by omega), if_pos h]
      · rw [if_pos (by omega), if_neg h]
    · simp [hv]
  · simp [act, step, bare, rule]
    by_cases hk : k = 0
    · simp only [hk, true_and, if_true]
      by_cases hn : 0 ≤ n ∧ n < c.kinds.length
      · rw [if_pos hn, if_pos hn]
        simp only [List.length_cons]
        by_cases h : (l.length : Int) < c.stack
        · rw [if_neg (by omega), if_pos h]
        · rw [if_pos (by omega), if_neg h]
      · rw [if_neg hn, if_neg hn]
    · simp [hk]
  · simp [act, step, bare, rule]
    cases l with
    | nil => simp [onTop]
    | cons a r =>
      simp only [List.length_cons] at hl
      simp only [onTop]
      by_cases hk : k = 0
      · simp only [hk, true_and, if_true]
        by_cases hn : c.ins ≤ n ∧ n < c.kinds.length
        · rw [if_pos (show (0 ≤ n ∧ n < (c.kinds.length : Int)) ∧ c.ins ≤ n by omega)]
          by_cases ha : a = c.kinds[n.toNat]?.getD 0
          · rw [if_pos ⟨hn.1, hn.2, ha⟩, if_pos ha]
            simp only
            rw [if_neg (by omega)]
          · rw [if_neg (fun h => ha h.2.2), if_neg ha]
        · rw [if_neg (fun h => hn ⟨h.1, h.2.1⟩), if_neg (by omega)]
      · simp [hk]
  · simp [act, step, bare, rule]
    cases l with
    | nil => simp [onTop]
    | cons a r =>
      simp only [List.length_cons] at hl
      simp only [onTop]
      by_cases hb : Bv.unB n k 0 = true
      · simp only [hb, and_true, if_true]
        by_cases ha : a = k
        · rw [if_pos ha, if_pos ha]
          simp only [List.length_cons]
          rw [if_neg (by omega), ha]
        · rw [if_neg ha, if_neg ha]
      · simp [hb]
  · simp [act, step, bare, rule]
    cases l with
    | nil => simp [onTop]
    | cons a r =>
      cases r with
      | nil => simp [onTop]
      | cons b r =>
        simp only [List.length_cons] at hl
        simp only [onTop]
        by_cases hb : Bv.binB n k 0 0 = true
        · simp only [hb, and_true, if_true]
          by_cases ha : a = k
          · by_cases hb : b = k
            · rw [if_pos ⟨ha, hb⟩, if_pos ha, if_pos hb]
              simp only [List.length_cons]
              rw [if_neg (by omega)]
            · rw [if_neg (fun h => hb h.2), if_pos ha, if_neg hb]
          · rw [if_neg (fun h => ha h.1), if_neg ha]
        · simp [hb]
  · simp [act, step, bare, rule]
    cases l with
    | nil => simp [onTop]
    | cons a r =>
      simp only [List.length_cons] at hl
      simp only [onTop]
      by_cases hb : 0 < Bv.wid k
      · simp only [hb, and_true, if_true]
        by_cases ha : a = n
        · rw [if_pos ha, if_pos ha]
          simp only [List.length_cons]
          rw [if_neg (by omega)]
        · rw [if_neg ha, if_neg ha]
      · simp [hb]
  · simp [act, step, bare, rule]
    by_cases hk : k = 0
    · simp only [hk, if_true]
      rw [if_neg (by omega)]
    · simp [hk]
  · simp [act, step, bare, rule]
    cases l with
    | nil => simp [onTop]
    | cons a r =>
      simp only [List.length_cons] at hl
      simp only [onTop]
      by_cases hk : k = 0
      · simp only [hk, true_and, if_true]
        by_cases ha : a = 1
        · rw [if_pos ha, if_pos ha]
          simp only
          rw [if_neg (by omega)]
        · rw [if_neg ha, if_neg ha]
      · simp [hk]
  · simp [act, step, bare, rule]
    by_cases hn : n = 0
    · by_cases hk : k = 0
      · by_cases hl0 : l = []
        · subst hl0
          simp only [hn, hk, and_self, if_true, List.length_nil] at hl ⊢
          rw [if_neg (by omega)]
        · simp [hl0]
      · simp [hk]
    · simp [hn]
/-- the kinds of a code that is formed -/
theorem rule_sks {c : Code} {x : Ins} {l : List Int} {at_ : Nat} {qs q : Kn} (hk : ∀ k ∈ c.kinds, 1 ≤ k ∧ k ≤ 9) (hl : Sk c l) (hq : Sks c qs) (h : rule c x l at_ qs = some q) : Sks c q ∧ q.length = qs.length := by
  have top : ∀ {k : Int} {f : List Int → Option Kn}, onTop l k f = some q → ∃ r, l = k :: r ∧ f r = some q := fun {k f} h => by
    rcases top_or l k with ⟨r, e⟩ | e
    · rw [e, onTop_yes] at h
      exact ⟨r, e, h⟩
    · rw [onTop_no e] at h
      cases h
  have tail : ∀ {k : Int} {r : List Int}, l = k :: r → Sk c r ∧ 1 ≤ k ∧ k ≤ 9 := fun {k r} e => by
    subst e
    refine ⟨⟨?_, fun y hy => hl.2 y (by simp [hy])⟩, hl.2 k (by simp)⟩
    have := hl.1
    simp at this
    omega
  have get : ∀ n : Int, 0 ≤ n ∧ n < c.kinds.length → 1 ≤ c.kinds.getD n.toNat 0 ∧ c.kinds.getD n.toNat 0 ≤ 9 := fun n hn => by
    have : n.toNat < c.kinds.length := by omega
    rw [List.getD_eq_getElem?_getD, List.getElem?_eq_getElem this]
    exact hk _ (List.getElem_mem this)
  unfold rule at h
  split at h
  · split at h
    · rename_i hv
      split at h
      · refine lead_sks ⟨by simp; omega, fun y hy => ?_⟩ hq h
        rcases List.mem_cons.1 hy with rfl | hy
        · exact wid_k (by simp [Bv.isv] at hv; exact hv.1)
        · exact hl.2 y hy
      · cases h
    · cases h
  · split at h
    · split at h
      · rename_i hn
        split at h
        · refine lead_sks ⟨by simp; omega, fun y hy => ?_⟩ hq h
          rcases List.mem_cons.1 hy with rfl | hy
          · exact get _ hn
          · exact hl.2 y hy
        · cases h
      · cases h
    · split at h
      · split at h
        · obtain ⟨r, e, h⟩ := top h
          exact lead_sks (tail e).1 hq h
        · cases h
      · split at h
        · split at h
          · obtain ⟨r, e, h⟩ := top h
            rw [← e] at h
            exact lead_sks hl hq h
          · cases h
        · split at h
          · split at h
            · rename_i hb
              obtain ⟨r, e, h⟩ := top h
              rcases top_or r x.k with ⟨r2, e2⟩ | e2
              · rw [e2, onTop_yes] at h
                subst e2
                have h2 := (tail e)
                have := h2.1.1
                simp at this
                refine lead_sks ⟨by simp; omega, fun y hy => ?_⟩ hq h
                rcases List.mem_cons.1 hy with rfl | hy
                · unfold Bv.toK
                  split
                  · omega
                  · exact h2.2
                · exact h2.1.2 y (by simp [hy])
              · rw [onTop_no e2] at h
                cases h
            · cases h
          · split at h
            · split at h
              · rename_i hw
                obtain ⟨r, e, h⟩ := top h
                have h2 := (tail e)
                have := hl.1
                rw [e] at this
                simp at this
                refine lead_sks ⟨by simp; omega, fun y hy => ?_⟩ hq h
                rcases List.mem_cons.1 hy with rfl | hy
                · exact wid_k hw
                · exact h2.1.2 y hy
              · cases h
            · split at h
              · exact lead_sks hl hq h
              · split at h
                · obtain ⟨r, e, h⟩ := top h
                  rw [Option.bind_eq_some_iff] at h
                  obtain ⟨q1, h1, h2⟩ := h
                  obtain ⟨a1, a2⟩ := lead_sks (tail e).1 hq h1
                  obtain ⟨b1, b2⟩ := lead_sks (tail e).1 a1 h2
                  exact ⟨b1, b2.trans a2⟩
                · split at h
                  · obtain rfl := Option.some.inj h
                    exact ⟨hq, rfl⟩
                  · cases h
end Go.Proofs.Ytlppifnepckpiaa.Cd
