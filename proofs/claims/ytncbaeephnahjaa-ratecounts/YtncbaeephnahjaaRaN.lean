/- Clocks and their beats (plain). -/
import Derived.Test.YtncbaeephnahjaaRaM
namespace Rat

def per (l : List (Nat × Nat)) (i : Nat) : Nat := (l.getD i (1, 0)).1
def off (l : List (Nat × Nat)) (i : Nat) : Nat := (l.getD i (1, 0)).2
/-- the beats: tick * 64 + pair -/
def valid (l : List (Nat × Nat)) (base k : Nat) : Prop := k % 64 < l.length ∧ k / 64 < base ∧ (k / 64) % per l (k % 64) = off l (k % 64)
def okL (l : List (Nat × Nat)) (base : Nat) : Prop := l.length ≤ 64 ∧ ∀ i, i < l.length → 1 ≤ per l i ∧ per l i ≤ 64 ∧ off l i < per l i ∧ per l i ≤ base
def firsts (l : List (Nat × Nat)) (t : Nat) : List Nat := (List.range t).map fun i => off l i * 64 + i
def St (l : List (Nat × Nat)) (base : Nat) (q ys : List Nat) : Prop :=
  (∀ k ∈ q, valid l base k) ∧ (q.map (· % 64)).Nodup ∧ ys.Pairwise (· < ·) ∧ (∀ y ∈ ys, valid l base y ∧ ∀ k ∈ q, y < k) ∧ (∀ k, valid l base k → k ∈ ys ∨ ∃ k' ∈ q, k' % 64 = k % 64 ∧ k' ≤ k)
def Pf (l : List (Nat × Nat)) (base : Nat) (ys : List Nat) : Prop := ys.Pairwise (· < ·) ∧ ∀ y ∈ ys, valid l base y
def Dn_ (l : List (Nat × Nat)) (base : Nat) (ys : List Nat) : Prop := ys.Pairwise (· < ·) ∧ ∀ k, k ∈ ys ↔ valid l base k
theorem firsts_succ (l : List (Nat × Nat)) (t : Nat) : firsts l (t + 1) = firsts l t ++ [off l t * 64 + t] := by simp [firsts, List.range_succ]
theorem first_parts (l : List (Nat × Nat)) {i : Nat} (hi : i < 64) : (off l i * 64 + i) % 64 = i ∧ (off l i * 64 + i) / 64 = off l i := by omega
theorem St.begin {l : List (Nat × Nat)} {base : Nat} (h : okL l base) {q : List Nat} (hq : q.Perm (firsts l l.length)) : St l base q [] := by
  refine ⟨fun k hk => ?_, ?_, List.Pairwise.nil, by simp, fun k hk => .inr ?_⟩
  · have h1 := hq.mem_iff.1 hk
    simp only [firsts, List.mem_map, List.mem_range] at h1
    obtain ⟨i, hi, rfl⟩ := h1
    obtain ⟨e1, e2⟩ := first_parts l (i := i) (by have := h.1; omega)
    have h2 := h.2 i hi
    rw [valid, e1, e2]
    exact ⟨hi, by omega, Nat.mod_eq_of_lt h2.2.2.1⟩
  · refine (hq.map _).nodup_iff.2 ?_
    have : (firsts l l.length).map (· % 64) = List.range l.length := by
      rw [firsts, List.map_map]
      conv => rhs; rw [← List.map_id (List.range l.length)]
      refine List.map_congr_left (fun i hi => ?_)
      rw [List.mem_range] at hi
      exact (first_parts l (by have := h.1; omega)).1
    rw [this]
    exact List.nodup_range
  · obtain ⟨h1, h2, h3⟩ := hk
    refine ⟨off l (k % 64) * 64 + k % 64, hq.mem_iff.2 ?_, ?_, ?_⟩
    · simp only [firsts, List.mem_map, List.mem_range]
      exact ⟨k % 64, h1, rfl⟩
    · exact (first_parts l (by omega)).1
    · have := Nat.mod_le (k / 64) (per l (k % 64))
      omega
theorem St.pf {l : List (Nat × Nat)} {base : Nat} {q ys : List Nat} {x : Nat} (h : St l base q ys) (hx : x ∈ q) : Pf l base (ys ++ [x]) := by
  obtain ⟨h1, h2, h3, h4, h5⟩ := h
  refine ⟨List.pairwise_append.2 ⟨h3, List.pairwise_singleton _ _, fun a ha b hb => ?_⟩, fun y hy => ?_⟩
  · rw [List.mem_singleton.1 hb]; exact (h4 a ha).2 x hx
  · rcases List.mem_append.1 hy with hy | hy
    · exact (h4 y hy).1
    · rw [List.mem_singleton.1 hy]; exact h1 x hx
theorem St.step {l : List (Nat × Nat)} {base : Nat} (hl : okL l base) {q q' q2 ys : List Nat} {x : Nat} (h : St l base q ys) (hp : (x :: q').Perm q) (hm : ∀ k ∈ q, x ≤ k)
    (h2 : if x / 64 + per l (x % 64) < base then q2.Perm (q' ++ [(x / 64 + per l (x % 64)) * 64 + x % 64]) else q2 = q') : St l base q2 (ys ++ [x]) := by
  have hpf := h.pf (hp.mem_iff.1 (List.mem_cons_self))
  obtain ⟨a1, a2, a3, a4, a5⟩ := h
  have hx := hp.mem_iff.1 (List.mem_cons_self (a := x) (l := q'))
  have hxv := a1 x hx
  have hin : ∀ k ∈ q', k ∈ q := fun k hk => hp.mem_iff.1 (List.mem_cons_of_mem _ hk)
  have hnd := (hp.map (· % 64)).nodup_iff.2 a2
  rw [List.map_cons, List.nodup_cons] at hnd
  have hlt : ∀ k ∈ q', x < k := fun k hk => by
    have e1 := hm k (hin k hk)
    have e2 : x ≠ k := fun e => hnd.1 (by rw [e]; exact List.mem_map_of_mem hk)
    omega
  have hpp := (hl.2 (x % 64) hxv.1)
  have hx64 : x % 64 < 64 := Nat.mod_lt _ (by decide)
  obtain ⟨x', hx'⟩ : ∃ x', x' = (x / 64 + per l (x % 64)) * 64 + x % 64 := ⟨_, rfl⟩
  rw [← hx'] at h2
  have p1 : x' % 64 = x % 64 := by omega
  have p2 : x' / 64 = x / 64 + per l (x % 64) := by omega
  have p3 : x < x' := by omega
  have hmem : ∀ k ∈ q2, k ∈ q' ∨ (k = x' ∧ x / 64 + per l (x % 64) < base) := fun k hk => by
    split at h2
    · rename_i hc
      rcases List.mem_append.1 (h2.mem_iff.1 hk) with e | e
      · exact .inl e
      · exact .inr ⟨List.mem_singleton.1 e, hc⟩
    · rw [h2] at hk; exact .inl hk
  have hsub : ∀ k ∈ q', k ∈ q2 := fun k hk => by
    split at h2
    · exact h2.mem_iff.2 (List.mem_append_left _ hk)
    · rw [h2]; exact hk
  refine ⟨fun k hk => ?_, ?_, hpf.1, fun y hy => ⟨hpf.2 y hy, fun k hk => ?_⟩, fun k hk => ?_⟩
  · rcases hmem k hk with e | ⟨rfl, hc⟩
    · exact a1 k (hin k e)
    · rw [valid, p1, p2]
      exact ⟨hxv.1, hc, by rw [Nat.add_mod_right]; exact hxv.2.2⟩
  · split at h2
    · refine (h2.map (· % 64)).nodup_iff.2 ?_
      rw [List.map_append, List.map_singleton, p1]
      exact (List.perm_append_singleton _ _).nodup_iff.2 (List.nodup_cons.2 hnd)
    · rw [h2]; exact hnd.2
  · have hxk : x < k := by
      rcases hmem k hk with e | ⟨rfl, _⟩
      · exact hlt k e
      · exact p3
    rcases List.mem_append.1 hy with e | e
    · have := (a4 y e).2 x hx; omega
    · rw [List.mem_singleton.1 e]; exact hxk
  · rcases a5 k hk with e | ⟨k', hk', e1, e2⟩
    · exact .inl (List.mem_append_left _ e)
    · rcases List.mem_cons.1 (hp.mem_iff.2 hk') with e3 | e3
      · subst e3
        by_cases hkx : k = k'
        · exact .inl (by rw [hkx]; simp)
        · refine .inr ⟨x', ?_, by omega, ?_⟩
          all_goals
            have d1 : k' / 64 < k / 64 := by omega
            have d2 := hk.2.2
            have d3 := hxv.2.2
            rw [← e1] at d2
            have d4 : k' / 64 + per l (k' % 64) ≤ k / 64 := by
              have m1 := Nat.div_add_mod (k / 64) (per l (k' % 64))
              have m2 := Nat.div_add_mod (k' / 64) (per l (k' % 64))
              rw [d2] at m1
              rw [d3] at m2
              generalize per l (k' % 64) = p at *
              have m3 : k' / 64 / p < k / 64 / p := by
                refine Nat.lt_of_not_le (fun hle => ?_)
                have := Nat.mul_le_mul_left p hle
                omega
              have m4 := Nat.mul_le_mul_left p m3
              rw [Nat.mul_succ] at m4
              omega
          · rw [if_pos (by have := hk.2.1; omega)] at h2
            exact h2.mem_iff.2 (by simp)
          · omega
      · exact .inr ⟨k', hsub k' e3, e1, e2⟩
theorem St.fin {l : List (Nat × Nat)} {base : Nat} {ys : List Nat} (h : St l base [] ys) : Dn_ l base ys :=
  ⟨h.2.2.1, fun k => ⟨fun hk => (h.2.2.2.1 k hk).1, fun hk => (h.2.2.2.2 k hk).elim id (fun ⟨_, h1, _⟩ => by cases h1)⟩⟩
theorem nodup_len : ∀ (N : Nat) (q : List Nat), q.Nodup → (∀ x ∈ q, x < N) → q.length ≤ N
  | 0, q, _, h => by
    cases q with
    | nil => simp
    | cons x r => have := h x (by simp); omega
  | N + 1, q, hn, h => by
    have h1 := nodup_len N (q.erase N) (hn.erase N) (fun x hx => by
      have h2 := (hn.mem_erase_iff).1 hx
      have h3 := h x h2.2
      omega)
    have h2 := List.length_erase (a := N) (l := q)
    split at h2 <;> omega
theorem St.qlen {l : List (Nat × Nat)} {base : Nat} {q ys : List Nat} (h : St l base q ys) : q.length ≤ 64 := by
  have := nodup_len 64 _ h.2.1 (fun x hx => by
    rw [List.mem_map] at hx
    obtain ⟨y, _, rfl⟩ := hx
    exact Nat.mod_lt _ (by decide))
  simpa using this
theorem lt_len : ∀ {ys : List Nat} {a N : Nat}, ys.Pairwise (· < ·) → (∀ y ∈ ys, a ≤ y ∧ y < N) → ys.length ≤ N - a
  | [], a, N, _, _ => Nat.zero_le _
  | y :: r, a, N, h, hb => by
    rw [List.pairwise_cons] at h
    have h1 := hb y (by simp)
    have h2 := lt_len (a := y + 1) (N := N) h.2 (fun z hz => ⟨h.1 z hz, (hb z (by simp [hz])).2⟩)
    simp only [List.length_cons]
    omega
theorem Pf.len {l : List (Nat × Nat)} {base : Nat} {ys : List Nat} (h : Pf l base ys) : ys.length ≤ base * 64 := by
  have := lt_len (a := 0) (N := base * 64) h.1 (fun y hy => ⟨Nat.zero_le _, by have := (h.2 y hy).2.1; omega⟩)
  omega
end Rat
