/- The plain mathematics of the machine (chapter 21): what an instruction does, where the way leads, what a tick tells; no program in sight. -/
import Derived.Test.YthcejnfnamhpfaaGreatJnD
namespace Go.Proofs.YthcejnfnamhpfaaGreat.Ex
open Go.RowKit


/-- the stack's top (its last value) -/
def top (s : List Int) : Int := s.getLastD 0
theorem top_snoc (r : List Int) (a : Int) : top (r ++ [a]) = a := by simp [top, List.getLastD_eq_getLast?]
/-- what an instruction does to the slots and the stack -/
def deed (x : Cd.Ins) (val s : List Int) : List Int × List Int :=
  if x.op = 1 then (val, s ++ [x.n])
  else if x.op = 2 then (val, s ++ [val.getD x.n.toNat 0])
  else if x.op = 3 then (val.set x.n.toNat (top s), s.dropLast)
  else if x.op = 4 then (val, s.dropLast ++ [Bv.unN x.n x.k (top s)])
  else if x.op = 5 then (val, s.dropLast.dropLast ++ [Bv.binN x.n x.k (top s.dropLast) (top s)])
  else if x.op = 6 then (val, s.dropLast ++ [Bv.casN x.n x.k (top s)])
  else if x.op = 8 then (val, s.dropLast) else (val, s)
/-- which instruction comes next -/
def nxt (x : Cd.Ins) (pc : Nat) (s : List Int) : Nat := if x.op = 7 ∨ (x.op = 8 ∧ top s = 0) then pc + 1 + x.n.toNat else pc + 1
theorem deed_len (x : Cd.Ins) (val s : List Int) : (deed x val s).1.length = val.length := by
  unfold deed
  repeat' split
  all_goals simp
theorem nxt_up (x : Cd.Ins) (pc : Nat) (s : List Int) : pc < nxt x pc s := by unfold nxt; split <;> omega

theorem meet_spec (m : List Int) : ∀ (n : Nat) (ps q : List (Option (List Int))), Cd.meet m n ps = some q → n < ps.length ∧ q.length = ps.length ∧ q[n]? = some (some m) ∧ ∀ (i : Nat) (l : List Int), ps[i]? = some (some l) → q[i]? = some (some l)
  | _, [], q, h => by unfold Cd.meet at h; cases h
  | 0, none :: ps, q, h => by
    simp [Cd.meet] at h
    subst h
    refine ⟨by simp, rfl, rfl, fun i l hi => ?_⟩
    cases i with
    | zero => simp at hi
    | succ i => simpa using hi
  | 0, some k :: ps, q, h => by
    simp only [Cd.meet] at h
    split at h
    · rename_i e
      subst e
      cases h
      exact ⟨by simp, rfl, rfl, fun i l hi => hi⟩
    · cases h
  | n + 1, p :: ps, q, h => by
    simp only [Cd.meet, Option.map_eq_some_iff] at h
    obtain ⟨r, h1, rfl⟩ := h
    obtain ⟨a1, a2, a3, a4⟩ := meet_spec m n ps r h1
    refine ⟨by simp; omega, by simp [a2], by simpa using a3, fun i l hi => ?_⟩
    cases i with
    | zero => simpa using hi
    | succ i => simpa using a4 i l (by simpa using hi)
theorem go_next {c : Cd.Code} {x : Cd.Ins} {b : List Cd.Ins} {l : List Int} {ps : List (Option (List Int))} (h : Cd.go c (x :: b) (some l :: ps) = true) :
    ∃ m, Cd.step c x l = some m ∧ ¬ c.stack < m.length ∧ ((x.op = 9 ∧ Cd.go c b ps = true) ∨ (x.op = 7 ∧ 0 ≤ x.n ∧ ∃ q, Cd.meet m x.n.toNat ps = some q ∧ Cd.go c b q = true) ∨
      (x.op = 8 ∧ 0 ≤ x.n ∧ ∃ q r, Cd.meet m 0 ps = some q ∧ Cd.meet m x.n.toNat q = some r ∧ Cd.go c b r = true) ∨ ((x.op ≠ 7 ∧ x.op ≠ 8 ∧ x.op ≠ 9) ∧ ∃ q, Cd.meet m 0 ps = some q ∧ Cd.go c b q = true)) := by
  rw [Cd.go] at h
  split at h
  · cases h
  · rename_i m hm
    refine ⟨m, hm, ?_⟩
    split at h
    · cases h
    · rename_i hs
      refine ⟨hs, ?_⟩
      split at h
      · rename_i e; exact .inl ⟨e, h⟩
      · rename_i n9
        split at h
        · rename_i e
          split at h
          · cases h
          · rename_i h0
            split at h
            · cases h
            · rename_i q hq
              exact .inr (.inl ⟨e, by omega, q, hq, h⟩)
        · rename_i n7
          split at h
          · rename_i e
            split at h
            · cases h
            · rename_i h0
              split at h
              · cases h
              · rename_i q hq
                split at h
                · cases h
                · rename_i r hr
                  exact .inr (.inr (.inl ⟨e, by omega, q, r, hq, hr, h⟩))
          · rename_i n8
            split at h
            · cases h
            · rename_i q hq
              exact .inr (.inr (.inr ⟨⟨n7, n8, n9⟩, q, hq, h⟩))
/-- what is known further on stays known -/
theorem go_far (c : Cd.Code) : ∀ (n : Nat) (b : List Cd.Ins) (ps : List (Option (List Int))) (l : List Int), Cd.go c b ps = true → ps.length = b.length → ps[n]? = some (some l) → ∃ qs, Cd.go c (b.drop n) (some l :: qs) = true ∧ qs.length + 1 = (b.drop n).length
  | 0, b, [], l, _, _, hp => by simp at hp
  | 0, b, p :: ps, l, h, hl, hp => by
    simp at hp
    subst hp
    exact ⟨ps, h, by simpa using hl⟩
  | n + 1, b, [], l, _, _, hp => by simp at hp
  | n + 1, [], p :: ps, l, _, hl, _ => by simp at hl
  | n + 1, x :: b, none :: ps, l, h, hl, hp => by
    rw [Cd.go] at h
    exact go_far c n b ps l h (by simpa using hl) (by simpa using hp)
  | n + 1, x :: b, some k :: ps, l, h, hl, hp => by
    have hp' : ps[n]? = some (some l) := by simpa using hp
    have hl' : ps.length = b.length := by simpa using hl
    obtain ⟨m, _, _, h1⟩ := go_next h
    rcases h1 with ⟨_, h1⟩ | ⟨_, _, q, hq, h1⟩ | ⟨_, _, q, r, hq, hr, h1⟩ | ⟨_, q, hq, h1⟩
    · exact go_far c n b ps l h1 hl' hp'
    · obtain ⟨_, a2, _, a4⟩ := meet_spec _ _ _ _ hq
      exact go_far c n b q l h1 (a2.trans hl') (a4 _ _ hp')
    · obtain ⟨_, a2, _, a4⟩ := meet_spec _ _ _ _ hq
      obtain ⟨_, b2, _, b4⟩ := meet_spec _ _ _ _ hr
      exact go_far c n b r l h1 (b2.trans (a2.trans hl')) (b4 _ _ (a4 _ _ hp'))
    · obtain ⟨_, a2, _, a4⟩ := meet_spec _ _ _ _ hq
      exact go_far c n b q l h1 (a2.trans hl') (a4 _ _ hp')

/-- the way may come to the instruction at pc with so many values on the stack -/
def At (c : Cd.Code) (pc d : Nat) : Prop := ∃ l ps, l.length = d ∧ Cd.go c (c.body.drop pc) (some l :: ps) = true ∧ ps.length + 1 = (c.body.drop pc).length
/-- what an instruction may lean on -/
structure Fine (c : Cd.Code) (x : Cd.Ins) (pc : Nat) (val s : List Int) : Prop where
  op : 1 ≤ x.op ∧ x.op ≤ 9
  slot : x.op = 2 ∨ x.op = 3 → 0 ≤ x.n ∧ x.n < val.length
  has1 : x.op = 3 ∨ x.op = 4 ∨ x.op = 6 ∨ x.op = 8 → 1 ≤ s.length
  has2 : x.op = 5 → 2 ≤ s.length
  room : ((deed x val s).2.length : Int) ≤ c.stack
  ahead : x.op = 7 ∨ x.op = 8 → 0 ≤ x.n ∧ pc + 1 + x.n.toNat < c.body.length

theorem ok_parts {c : Cd.Code} (h : Cd.check c = 0) : c.body.length ≤ 60000 ∧ c.kinds.length ≤ 8000 ∧ c.stack ≤ 64 ∧ 0 ≤ c.ins ∧ 0 ≤ c.outs ∧ 0 ≤ c.cells ∧ 0 ≤ c.stack ∧ c.ins + c.outs + c.cells ≤ c.kinds.length ∧ (c.init.length : Int) = c.cells ∧ 1 ≤ c.body.length ∧ (∀ x ∈ c.body, 1 ≤ x.op ∧ x.op ≤ 9) ∧ Cd.go c c.body (some [] :: List.replicate (c.body.length - 1) none) = true := by
  unfold Cd.check at h
  split at h
  · cases h
  · rename_i h1
    split at h
    · cases h
    · rename_i h2
      split at h
      · rename_i h3
        have hb : Cd.bad c = false := by simpa using h2
        unfold Cd.bad at hb
        simp only [Bool.or_eq_false_iff, decide_eq_false_iff_not, Bool.not_eq_false'] at hb
        obtain ⟨⟨⟨⟨⟨⟨⟨⟨⟨⟨⟨⟨b1, b2⟩, b3⟩, b4⟩, b5⟩, b6⟩, b7⟩, b8⟩, b9⟩, b10⟩, b11⟩, b12⟩, b13⟩ := hb
        have hne : 1 ≤ c.body.length := by
          cases hc : c.body with
          | nil => rw [hc] at b12; simp at b12
          | cons _ _ => simp
        refine ⟨by omega, by omega, by omega, by omega, by omega, by omega, by omega, by omega, by simpa using b10, hne, fun x hx => ?_, h3⟩
        have := List.all_eq_true.1 b13 x hx
        simpa using this
      · cases h
theorem At.first {c : Cd.Code} (h : Cd.check c = 0) : At c 0 0 := by
  obtain ⟨_, _, _, _, _, _, _, _, _, h1, _, h2⟩ := ok_parts h
  exact ⟨[], _, rfl, h2, by simp; omega⟩
theorem drop_cons {α : Type} {l : List α} {n : Nat} {x : α} {r : List α} (h : l.drop n = x :: r) : l[n]? = some x ∧ l.drop (n + 1) = r := by
  constructor
  · have := congrArg (fun z : List α => z[0]?) h
    simpa using this
  · rw [← List.drop_drop, h]
    rfl
/-- the lengths that a step tells -/
theorem step_len {c : Cd.Code} {x : Cd.Ins} {l m : List Int} (hop : 1 ≤ x.op ∧ x.op ≤ 9) (h : Cd.step c x l = some m) :
    (x.op = 2 ∨ x.op = 3 → x.n < c.kinds.length) ∧ (x.op = 2 → 0 ≤ x.n) ∧ (x.op = 3 → c.ins ≤ x.n) ∧ (x.op = 3 ∨ x.op = 4 ∨ x.op = 6 ∨ x.op = 8 → 1 ≤ l.length) ∧ (x.op = 5 → 2 ≤ l.length) ∧
      m.length = (if x.op = 1 ∨ x.op = 2 then l.length + 1 else if x.op = 3 ∨ x.op = 5 ∨ x.op = 8 then l.length - 1 else l.length) := by
  unfold Cd.step at h
  split at h
  · rename_i e
    split at h
    · cases h
      simp [e]
    · cases h
  · split at h
    · rename_i e
      split at h
      · rename_i h1
        cases h
        simp [e]
        omega
      · cases h
    · split at h
      · rename_i e
        split at h
        · cases h
        · split at h
          · rename_i h1
            cases h
            simp [e]
            omega
          · cases h
      · split at h
        · rename_i e
          split at h
          · cases h
          · split at h
            · cases h
              simp [e]
            · cases h
        · split at h
          · rename_i e
            split at h
            · split at h
              · cases h
                simp [e]
              · cases h
            · cases h
          · split at h
            · rename_i e
              split at h
              · cases h
              · split at h
                · cases h
                  simp [e]
                · cases h
            · split at h
              · rename_i e
                split at h
                · cases h
                  simp [e]
                · cases h
              · split at h
                · rename_i e
                  split at h
                  · cases h
                  · split at h
                    · cases h
                      simp [e]
                    · cases h
                · split at h
                  · rename_i h1
                    cases h
                    have e : x.op = 9 := by omega
                    simp [e, h1.2.2]
                  · cases h
theorem deed_height (x : Cd.Ins) (val s : List Int) (h1 : x.op = 3 ∨ x.op = 4 ∨ x.op = 6 ∨ x.op = 8 → 1 ≤ s.length) (h2 : x.op = 5 → 2 ≤ s.length) :
    (deed x val s).2.length = (if x.op = 1 ∨ x.op = 2 then s.length + 1 else if x.op = 3 ∨ x.op = 5 ∨ x.op = 8 then s.length - 1 else s.length) := by
  unfold deed
  by_cases e1 : x.op = 1
  · simp [e1]
  by_cases e2 : x.op = 2
  · simp [e2]
  by_cases e3 : x.op = 3
  · simp [e3]
  by_cases e4 : x.op = 4
  · have := h1 (.inr (.inl e4)); simp [e4]; omega
  by_cases e5 : x.op = 5
  · have := h2 e5; simp [e5]; omega
  by_cases e6 : x.op = 6
  · have := h1 (.inr (.inr (.inl e6))); simp [e6]; omega
  by_cases e8 : x.op = 8
  · simp [e8]
  simp [e1, e2, e3, e4, e5, e6, e8]
/-- the way goes on -/
theorem At.fine {c : Cd.Code} {pc : Nat} {val s : List Int} (hok : Cd.check c = 0) (h : At c pc s.length) (hv : val.length = c.kinds.length) :
    ∃ x, c.body[pc]? = some x ∧ Fine c x pc val s ∧ (x.op ≠ 9 → At c (nxt x pc s) (deed x val s).2.length) := by
  obtain ⟨o1, o2, o3, o4, o5, o6, o7, o8, o9, o10, o11, _⟩ := ok_parts hok
  obtain ⟨l, ps, hl, hg, hps⟩ := h
  cases hb : c.body.drop pc with
  | nil => rw [hb] at hps; simp at hps
  | cons x b =>
    obtain ⟨hx, hd⟩ := drop_cons hb
    rw [hb] at hg hps
    simp only [List.length_cons] at hps
    have hop := o11 x (List.mem_of_getElem? hx)
    obtain ⟨m, hm, hst, hw⟩ := go_next hg
    obtain ⟨s1, s2, s3, s4, s5, s6⟩ := step_len hop hm
    have hh := deed_height x val s (by rw [← hl]; exact s4) (by rw [← hl]; exact s5)
    rw [← hl, ← s6] at hh
    have hbl : b.length = c.body.length - (pc + 1) := by rw [← hd]; simp
    have hpc : pc < c.body.length := (List.getElem?_eq_some_iff.1 hx).1
    have hto : ∀ n (q : List (Option (List Int))), q.length = ps.length → q[n]? = some (some m) → Cd.go c b q = true → At c (pc + 1 + n) m.length := by
      intro n q hq hqn hgq
      obtain ⟨qs, k1, k2⟩ := go_far c n b q m hgq (by omega) hqn
      rw [← hd, List.drop_drop] at k1 k2
      exact ⟨m, qs, rfl, k1, k2⟩
    refine ⟨x, hx, ⟨hop, fun h => ⟨?_, by rw [hv]; exact s1 h⟩, by rw [← hl]; exact s4, by rw [← hl]; exact s5, by rw [hh]; omega, fun h => ?_⟩, fun h9 => ?_⟩
    · rcases h with h | h
      · exact s2 h
      · have := s3 h; omega
    · rcases hw with ⟨e, _⟩ | ⟨e, h0, q, hq, _⟩ | ⟨e, h0, q, r, hq, hr, _⟩ | ⟨e, _⟩
      · omega
      · have := (meet_spec _ _ _ _ hq).1; omega
      · have := (meet_spec _ _ _ _ hr).1; have := (meet_spec _ _ _ _ hq).2.1; omega
      · omega
    · rw [hh]
      unfold nxt
      rcases hw with ⟨e, _⟩ | ⟨e, h0, q, hq, hgq⟩ | ⟨e, h0, q, r, hq, hr, hgr⟩ | ⟨e, q, hq, hgq⟩
      · exact absurd e h9
      · obtain ⟨_, a2, a3, _⟩ := meet_spec _ _ _ _ hq
        rw [if_pos (.inl e)]
        exact hto _ q a2 a3 hgq
      · obtain ⟨_, a2, a3, _⟩ := meet_spec _ _ _ _ hq
        obtain ⟨_, b2, b3, b4⟩ := meet_spec _ _ _ _ hr
        split
        · exact hto _ r (b2.trans a2) b3 hgr
        · exact hto 0 r (b2.trans a2) (b4 _ _ a3) hgr
      · obtain ⟨_, a2, a3, _⟩ := meet_spec _ _ _ _ hq
        rw [if_neg (by omega)]
        exact hto 0 q a2 a3 hgq

/-! a tick -/
/-- the slots and the number of instructions at the end, f instructions at the most being left -/
def fin (body : List Cd.Ins) : Nat → Nat → List Int → List Int → Nat → List Int × Nat
  | 0, _, val, _, n => (val, n)
  | f + 1, pc, val, s, n => match body[pc]? with
    | none => (val, n)
    | some x => if x.op = 9 then (val, n + 1) else fin body f (nxt x pc s) (deed x val s).1 (deed x val s).2 (n + 1)
theorem fin_len (body : List Cd.Ins) : ∀ (f pc : Nat) (val s : List Int) (n : Nat), (fin body f pc val s n).1.length = val.length
  | 0, _, _, _, _ => rfl
  | f + 1, pc, val, s, n => by
    rw [fin]
    split
    · rfl
    · split
      · rfl
      · rw [fin_len body f, deed_len]
def start (c : Cd.Code) (cells ins : List Int) : List Int := ins ++ (List.replicate c.outs.toNat 0 ++ (cells ++ List.replicate (c.kinds.length - (c.ins.toNat + c.outs.toNat + c.cells.toNat)) 0))
def tick (c : Cd.Code) (cells ins : List Int) : List Int × Nat := fin c.body c.body.length 0 (start c cells ins) [] 0
def outsOf (c : Cd.Code) (val : List Int) : List Int := (val.drop c.ins.toNat).take c.outs.toNat
def cellsOf (c : Cd.Code) (val : List Int) : List Int := (val.drop (c.ins.toNat + c.outs.toNat)).take c.cells.toNat
/-- why a tick is refused -/
def refuse (c : Cd.Code) (ins : List Int) : Int := if (ins.length : Int) ≠ c.ins then 23 else if (ins.zip c.kinds).all (fun p => Bv.isv p.2 p.1) then 0 else 1
theorem start_len {c : Cd.Code} {cells ins : List Int} (h : Cd.check c = 0) (hi : (ins.length : Int) = c.ins) (hc : (cells.length : Int) = c.cells) : (start c cells ins).length = c.kinds.length := by
  obtain ⟨o1, o2, o3, o4, o5, o6, o7, o8, o9, o10, o11, _⟩ := ok_parts h
  simp [start]
  omega
end Go.Proofs.YthcejnfnamhpfaaGreat.Ex
