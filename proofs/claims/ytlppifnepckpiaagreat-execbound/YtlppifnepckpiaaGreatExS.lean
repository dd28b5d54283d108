/- The plain mathematics of the longest way (chapter 20, 21): no program in sight. -/
import Derived.Test.YtlppifnepckpiaaGreatExM
namespace Go.Proofs.YtlppifnepckpiaaGreat.Ex
open Go.RowKit

/-- a way comes to pc, having run n instructions -/
inductive Way (body : List Cd.Ins) : Nat → Nat → Prop
  | start : Way body 0 0
  | step {pc n : Nat} {x : Cd.Ins} (s : List Int) (h : Way body pc n) (hx : body[pc]? = some x) (h9 : x.op ≠ 9) : Way body (nxt x pc s) (n + 1)
/-- one more way to instruction i -/
def put (ran : List Int) (i : Nat) (v : Int) : List Int := ran.set i (max (ran.getD i 0) v)
theorem put_len (ran : List Int) (i : Nat) (v : Int) : (put ran i v).length = ran.length := by simp [put]
theorem put_at {ran : List Int} {i : Nat} {v : Int} (h : i < ran.length) : v ≤ (put ran i v).getD i 0 := by
  simp [put, List.getD_eq_getElem?_getD, h]
  omega
theorem put_ge (ran : List Int) (i : Nat) (v : Int) (j : Nat) : ran.getD j 0 ≤ (put ran i v).getD j 0 := by
  unfold put
  by_cases e : i = j
  · subst e
    by_cases h : i < ran.length
    · simp [List.getD_eq_getElem?_getD, h]
      omega
    · rw [List.set_eq_of_length_le (by omega)]
      exact Int.le_refl _
  · simp [List.getD_eq_getElem?_getD, e]
theorem put_in {ran : List Int} {i : Nat} {v : Int} {j : Nat} {r : Int} (h : (put ran i v)[j]? = some r) : ∃ r0, ran[j]? = some r0 ∧ (r = r0 ∨ (j = i ∧ r = max r0 v)) := by
  unfold put at h
  rw [List.getElem?_set] at h
  split at h
  · rename_i e
    subst e
    split at h
    · rename_i hl
      refine ⟨ran[i], List.getElem?_eq_getElem hl, .inr ⟨rfl, ?_⟩⟩
      simp [List.getD_eq_getElem?_getD, List.getElem?_eq_getElem hl] at h
      exact h.symm
    · cases h
  · exact ⟨r, h, .inl rfl⟩
theorem At.lt {c : Cd.Code} {pc d : Nat} (h : At c pc d) : pc < c.body.length := by
  obtain ⟨l, ps, _, _, h3⟩ := h
  simp at h3
  omega
theorem At.ins {c : Cd.Code} {pc d : Nat} (hok : Cd.check c = 0) (h : At c pc d) : ∃ x, c.body[pc]? = some x ∧ (1 ≤ x.op ∧ x.op ≤ 9) ∧ (x.op = 7 ∨ x.op = 8 → 0 ≤ x.n) ∧ (x.op ≠ 9 → ∀ s, ∃ d', At c (nxt x pc s) d') := by
  obtain ⟨x, hx, hf, hn⟩ := At.fine (val := List.replicate c.kinds.length 0) (s := List.replicate d 0) hok (by rw [List.length_replicate]; exact h) (List.length_replicate ..)
  refine ⟨x, hx, hf.op, fun e => (hf.ahead e).1, fun h9 s => ?_⟩
  by_cases e8 : x.op = 8
  · have h1 := hf.has1 (.inr (.inr (.inr e8)))
    rw [List.length_replicate] at h1
    obtain ⟨x', hx', _, hn'⟩ := At.fine (val := List.replicate c.kinds.length 0) (s := List.replicate (d - 1) 0 ++ [top s]) hok (by rw [List.length_append, List.length_replicate, List.length_singleton, Nat.sub_add_cancel h1]; exact h) (List.length_replicate ..)
    rw [hx] at hx'
    cases hx'
    have h2 := hn' h9
    have e : nxt x pc (List.replicate (d - 1) 0 ++ [top s]) = nxt x pc s := by unfold nxt; rw [top_snoc]
    rw [e] at h2
    exact ⟨_, h2⟩
  · have e : nxt x pc (List.replicate d 0) = nxt x pc s := by unfold nxt; simp [e8]
    have h2 := hn h9
    rw [e] at h2
    exact ⟨_, h2⟩

/-- what is known before instruction t -/
structure Lng (c : Cd.Code) (t : Nat) (most : Int) (ran : List Int) : Prop where
  len : ran.length = c.body.length
  at_ : ∀ i r, ran[i]? = some r → r ≠ 0 → ∃ d, At c i d
  le : ∀ (i : Nat) r, ran[i]? = some r → 0 ≤ r ∧ r ≤ (i : Int) + 1
  first : 1 ≤ ran.getD 0 0
  way : ∀ p (m : Nat) x s, p < t → Way c.body p m → c.body[p]? = some x → x.op ≠ 9 → (m : Int) + 2 ≤ ran.getD (nxt x p s) 0
  done : ∀ p (m : Nat) x, p < t → Way c.body p m → c.body[p]? = some x → x.op = 9 → (m : Int) + 1 ≤ most
theorem Lng.reach {c : Cd.Code} {t : Nat} {most : Int} {ran : List Int} (h : Lng c t most ran) {m : Nat} (hw : Way c.body t m) : (m : Int) + 1 ≤ ran.getD t 0 := by
  cases hw with
  | start => simpa using h.first
  | step s h1 hx h9 =>
    have := h.way _ _ _ s (nxt_up ..) h1 hx h9
    omega
theorem Lng.put {c : Cd.Code} {t : Nat} {most : Int} {ran : List Int} (h : Lng c t most ran) {i : Nat} {v : Int} (h0 : 0 ≤ v) (h1 : v ≤ (i : Int) + 1) (ha : ∃ d, At c i d) : Lng c t most (put ran i v) := by
  refine ⟨(put_len ..).trans h.len, fun j r hr hn => ?_, fun j r hr => ?_, Int.le_trans h.first (put_ge ..), fun p m x s hp hw hx h9 => Int.le_trans (h.way p m x s hp hw hx h9) (put_ge ..), h.done⟩
  · obtain ⟨r0, hr0, e⟩ := put_in hr
    rcases e with rfl | ⟨rfl, rfl⟩
    · exact h.at_ j _ hr0 hn
    · exact ha
  · obtain ⟨r0, hr0, e⟩ := put_in hr
    have := h.le j r0 hr0
    rcases e with rfl | ⟨rfl, rfl⟩
    · exact this
    · omega
theorem Lng.next {c : Cd.Code} {t : Nat} {most : Int} {ran : List Int} (h : Lng c t most ran) (most' : Int) (hm : most ≤ most') (hw : ∀ (m : Nat) x s, Way c.body t m → c.body[t]? = some x → x.op ≠ 9 → (m : Int) + 2 ≤ ran.getD (nxt x t s) 0) (hd : ∀ (m : Nat) x, Way c.body t m → c.body[t]? = some x → x.op = 9 → (m : Int) + 1 ≤ most') : Lng c (t + 1) most' ran := by
  refine ⟨h.len, h.at_, h.le, h.first, fun p m x s hp h1 h2 h3 => ?_, fun p m x hp h1 h2 h3 => ?_⟩
  · by_cases e : p = t
    · subst e; exact hw m x s h1 h2 h3
    · exact h.way p m x s (by omega) h1 h2 h3
  · by_cases e : p = t
    · subst e; exact hd m x h1 h2 h3
    · exact Int.le_trans (h.done p m x (by omega) h1 h2 h3) hm

section
variable {c : Cd.Code} {t : Nat} {most : Int} {ran : List Int} {x : Cd.Ins} {r : Int}
/-- no way leads there -/
theorem Lng.none (h : Lng c t most ran) (hr : ran[t]? = some 0) : Lng c (t + 1) most ran := by
  have hg : ran.getD t 0 = 0 := by simp [List.getD_eq_getElem?_getD, hr]
  refine h.next most (Int.le_refl _) (fun m x s hw _ _ => ?_) (fun m x hw _ _ => ?_)
  · have := h.reach hw; omega
  · have := h.reach hw; omega
theorem Lng.end9 (h : Lng c t most ran) (hr : ran[t]? = some r) (hx : c.body[t]? = some x) (e : x.op = 9) : Lng c (t + 1) (max most r) ran := by
  have hg : ran.getD t 0 = r := by simp [List.getD_eq_getElem?_getD, hr]
  refine h.next _ (by omega) (fun m y s hw hy h9 => ?_) (fun m y hw _ _ => ?_)
  · rw [hx] at hy; cases hy; exact absurd e h9
  · have := h.reach hw; omega
/-- where an instruction on a way leads -/
theorem Lng.to (hok : Cd.check c = 0) (h : Lng c t most ran) (hr : ran[t]? = some r) (h0 : r ≠ 0) (hx : c.body[t]? = some x) (h9 : x.op ≠ 9) (s : List Int) : nxt x t s < ran.length ∧ (∃ d, At c (nxt x t s) d) := by
  obtain ⟨d, hd⟩ := h.at_ t r hr h0
  obtain ⟨y, hy, _, _, h2⟩ := hd.ins hok
  rw [hx] at hy
  cases hy
  obtain ⟨d', h3⟩ := h2 h9 s
  exact ⟨by rw [h.len]; exact h3.lt, _, h3⟩
theorem Lng.nn (hok : Cd.check c = 0) (h : Lng c t most ran) (hr : ran[t]? = some r) (h0 : r ≠ 0) (hx : c.body[t]? = some x) : x.op = 7 ∨ x.op = 8 → 0 ≤ x.n := by
  obtain ⟨d, hd⟩ := h.at_ t r hr h0
  obtain ⟨y, hy, _, h1, _⟩ := hd.ins hok
  rw [hx] at hy
  cases hy
  exact h1
theorem put_ne (ran : List Int) {i j : Nat} (v : Int) (h : i ≠ j) : (put ran i v)[j]? = ran[j]? := by simp [put, h]
theorem nxt7 (e : x.op = 7) (s : List Int) : nxt x t s = t + 1 + x.n.toNat := by unfold nxt; rw [if_pos (.inl e)]
theorem nxt8a (e : x.op = 8) : nxt x t [] = t + 1 + x.n.toNat := by unfold nxt; rw [if_pos (.inr ⟨e, rfl⟩)]
theorem nxt8b (e : x.op = 8) : nxt x t [1] = t + 1 := by unfold nxt; rw [if_neg (by simp [e, top])]
theorem nxt_two (x : Cd.Ins) (t : Nat) (s : List Int) : nxt x t s = t + 1 + x.n.toNat ∨ nxt x t s = t + 1 := by unfold nxt; split <;> simp
theorem nxt_else (e7 : x.op ≠ 7) (e8 : x.op ≠ 8) (s : List Int) : nxt x t s = t + 1 := by unfold nxt; rw [if_neg (by omega)]
theorem Lng.one (hok : Cd.check c = 0) (h : Lng c t most ran) (hr : ran[t]? = some r) (h0 : r ≠ 0) (hx : c.body[t]? = some x) (h9 : x.op ≠ 9) (i : Nat) (hi : ∀ s, nxt x t s = i) : i < ran.length ∧ Lng c (t + 1) most (Ex.put ran i (r + 1)) := by
  have hg : ran.getD t 0 = r := by simp [List.getD_eq_getElem?_getD, hr]
  have h1 := h.to hok hr h0 hx h9 []
  rw [hi] at h1
  have hle := h.le t r hr
  have hti : t < i := by rw [← hi []]; exact nxt_up ..
  refine ⟨h1.1, (h.put (v := r + 1) (by omega) (by omega) h1.2).next most (Int.le_refl _) (fun m y s hw hy _ => ?_) (fun m y hw hy e => ?_)⟩
  · rw [hx] at hy; cases hy
    rw [hi]
    have a1 := h.reach hw
    have a2 := put_at (v := r + 1) h1.1
    omega
  · rw [hx] at hy; cases hy; exact absurd e h9
theorem Lng.two (hok : Cd.check c = 0) (h : Lng c t most ran) (hr : ran[t]? = some r) (h0 : r ≠ 0) (hx : c.body[t]? = some x) (e8 : x.op = 8) : t + 1 + x.n.toNat < ran.length ∧ t + 1 < ran.length ∧ Lng c (t + 1) most (Ex.put (Ex.put ran (t + 1 + x.n.toNat) (r + 1)) (t + 1) (r + 1)) := by
  have hg : ran.getD t 0 = r := by simp [List.getD_eq_getElem?_getD, hr]
  have h1 := h.to hok hr h0 hx (by omega) []
  have h2 := h.to hok hr h0 hx (by omega) [1]
  rw [nxt8a e8] at h1
  rw [nxt8b e8] at h2
  have hle := h.le t r hr
  refine ⟨h1.1, h2.1, ((h.put (v := r + 1) (by omega) (by omega) h1.2).put (v := r + 1) (i := t + 1) (by omega) (by omega) h2.2).next most (Int.le_refl _) (fun m y s hw hy _ => ?_) (fun m y hw hy e => ?_)⟩
  · rw [hx] at hy; cases hy
    have a1 := h.reach hw
    rcases nxt_two x t s with e | e
    · rw [e]
      have a2 := put_at (v := r + 1) h1.1
      have a3 := put_ge (Ex.put ran (t + 1 + x.n.toNat) (r + 1)) (t + 1) (r + 1) (t + 1 + x.n.toNat)
      omega
    · rw [e]
      have a2 := put_at (ran := Ex.put ran (t + 1 + x.n.toNat) (r + 1)) (i := t + 1) (v := r + 1) (by rw [put_len]; exact h2.1)
      omega
  · rw [hx] at hy; cases hy; omega
end
theorem Lng.begin {c : Cd.Code} (hok : Cd.check c = 0) : Lng c 0 0 ((List.replicate c.body.length 0).set 0 1) := by
  have hl : 1 ≤ c.body.length := by obtain ⟨_, _, _, _, _, _, _, _, _, h, _⟩ := ok_parts hok; exact h
  refine ⟨by simp, fun i r hr hn => ?_, fun i r hr => ?_, ?_, fun p m x s hp => by omega, fun p m x hp => by omega⟩
  · rw [List.getElem?_set] at hr
    split at hr
    · rename_i e; subst e; exact ⟨0, At.first hok⟩
    · rw [List.getElem?_replicate] at hr
      split at hr
      · cases hr; exact absurd rfl hn
      · cases hr
  · rw [List.getElem?_set] at hr
    split at hr
    · rename_i e; subst e
      split at hr
      · cases hr; omega
      · cases hr
    · rw [List.getElem?_replicate] at hr
      split at hr
      · cases hr; omega
      · cases hr
  · cases hn : c.body.length with
    | zero => omega
    | succ k => simp [List.replicate_succ]
/-- every way to an end is that long at most -/
def Longest (c : Cd.Code) (most : Int) : Prop := ∀ p (m : Nat) x, Way c.body p m → c.body[p]? = some x → x.op = 9 → (m : Int) + 1 ≤ most
theorem Lng.all {c : Cd.Code} {most : Int} {ran : List Int} (h : Lng c c.body.length most ran) : Longest c most := fun p m x hw hx h9 => h.done p m x (List.getElem?_eq_some_iff.1 hx).1 hw hx h9
theorem fin_most {c : Cd.Code} {most : Int} (hok : Cd.check c = 0) (hd : Longest c most) : ∀ (f pc : Nat) (val s : List Int) (n : Nat), c.body.length ≤ f + pc → At c pc s.length → val.length = c.kinds.length → Way c.body pc n → 1 ≤ (fin c.body f pc val s n).2 ∧ ((fin c.body f pc val s n).2 : Int) ≤ most
  | 0, pc, val, s, n, hf, ha, _, _ => by have := ha.lt; omega
  | f + 1, pc, val, s, n, hf, ha, hv, hw => by
    obtain ⟨x, hx, _, hn⟩ := At.fine hok ha hv
    rw [fin, hx]
    by_cases h9 : x.op = 9
    · simp only [h9, if_true]
      have := hd pc n x hw hx h9
      exact ⟨by omega, by omega⟩
    · simp only [h9, if_false]
      exact fin_most hok hd f _ _ _ _ (by have := nxt_up x pc s; omega) (hn h9) (by rw [deed_len]; exact hv) (Way.step s hw hx h9)
theorem tick_most {c : Cd.Code} {most : Int} (hok : Cd.check c = 0) (hd : Longest c most) {cells ins : List Int} (hi : (ins.length : Int) = c.ins) (hc : (cells.length : Int) = c.cells) : 1 ≤ (tick c cells ins).2 ∧ ((tick c cells ins).2 : Int) ≤ most :=
  fin_most hok hd _ _ _ _ _ (by omega) (At.first hok) (start_len hok hi hc) Way.start
end Go.Proofs.YtlppifnepckpiaaGreat.Ex
