/- A heap of numbers in a list: what pushing and popping does (plain). -/
namespace Rat

abbrev at_ (q : List Nat) (k : Nat) : Nat := q.getD k 0
def swp (q : List Nat) (i j : Nat) : List Nat := (q.set i (at_ q j)).set j (at_ q i)
theorem swp_len (q : List Nat) (i j : Nat) : (swp q i j).length = q.length := by simp [swp]
theorem at_eq {q : List Nat} {k : Nat} (h : k < q.length) : at_ q k = q[k] := by simp [at_, List.getD_eq_getElem?_getD, List.getElem?_eq_getElem h]
theorem at_some {q : List Nat} {k : Nat} (h : k < q.length) : q[k]? = some (at_ q k) := by rw [List.getElem?_eq_getElem h, at_eq h]
theorem at_swp {q : List Nat} {i j k : Nat} (hi : i < q.length) (hj : j < q.length) : at_ (swp q i j) k = if k = j then at_ q i else if k = i then at_ q j else at_ q k := by
  simp only [swp, at_, List.getD_eq_getElem?_getD, List.getElem?_set, List.length_set]
  by_cases h1 : k = j
  · subst h1; simp [hj]
  · rw [if_neg (Ne.symm h1), if_neg h1]
    by_cases h2 : k = i
    · subst h2; simp [hi]
    · rw [if_neg (Ne.symm h2), if_neg h2]
theorem swp_perm {q : List Nat} {i j : Nat} (hi : i < q.length) (hj : j < q.length) : (swp q i j).Perm q := by
  unfold swp
  rw [at_eq hi, at_eq hj]
  exact List.set_set_perm hi hj

/-- the first n are a heap -/
def H (q : List Nat) : Prop := ∀ k, 0 < k → k < q.length → at_ q ((k - 1) / 2) ≤ at_ q k
def Up (q : List Nat) (j : Nat) : Prop :=
  j < q.length ∧ (∀ k, 0 < k → k < q.length → k ≠ j → at_ q ((k - 1) / 2) ≤ at_ q k) ∧ (∀ k, 0 < k → k < q.length → (k - 1) / 2 = j → 0 < j → at_ q ((j - 1) / 2) ≤ at_ q k)
theorem up_step {q : List Nat} {j : Nat} (h : Up q j) (h0 : 0 < j) (hl : at_ q j < at_ q ((j - 1) / 2)) : Up (swp q ((j - 1) / 2) j) ((j - 1) / 2) := by
  obtain ⟨h1, h2, h3⟩ := h
  have hi : (j - 1) / 2 < q.length := by omega
  have e := fun k => at_swp (k := k) hi h1
  refine ⟨by rw [swp_len]; omega, fun k k0 kl kn => ?_, fun k k0 kl kp ip => ?_⟩
  · rw [swp_len] at kl
    rw [e, e]
    by_cases hk : k = j
    · subst hk
      rw [if_pos rfl, if_neg (by omega), if_pos rfl]
      omega
    · rw [if_neg hk, if_neg kn]
      have h4 := h2 k k0 kl hk
      by_cases hp : (k - 1) / 2 = j
      · rw [if_pos hp]
        exact h3 k k0 kl hp h0
      · rw [if_neg hp]
        by_cases hq : (k - 1) / 2 = (j - 1) / 2
        · rw [if_pos hq]
          rw [hq] at h4
          omega
        · rw [if_neg hq]
          exact h4
  · rw [swp_len] at kl
    rw [e, e]
    have h5 := h2 ((j - 1) / 2) ip hi (by omega)
    rw [if_neg (show ¬ ((j - 1) / 2 - 1) / 2 = j by omega), if_neg (show ¬ ((j - 1) / 2 - 1) / 2 = (j - 1) / 2 by omega)]
    by_cases hk : k = j
    · rw [if_pos hk]; exact h5
    · rw [if_neg hk, if_neg (by omega)]
      have h4 := h2 k k0 kl hk
      rw [kp] at h4
      omega
theorem up_done {q : List Nat} {j : Nat} (h : Up q j) (hl : j = 0 ∨ at_ q ((j - 1) / 2) ≤ at_ q j) : H q := by
  intro k k0 kl
  by_cases hk : k = j
  · subst hk; rcases hl with h1 | h1
    · omega
    · exact h1
  · exact h.2.1 k k0 kl hk
theorem at_app {q : List Nat} {x k : Nat} (h : k < q.length) : at_ (q ++ [x]) k = at_ q k := by simp [at_, List.getD_eq_getElem?_getD, List.getElem?_append_left h]
theorem at_app' {q r : List Nat} {k : Nat} (h : k < q.length) : at_ (q ++ r) k = at_ q k := by simp [at_, List.getD_eq_getElem?_getD, List.getElem?_append_left h]
theorem up_begin {q : List Nat} (x : Nat) (h : H q) : Up (q ++ [x]) q.length := by
  refine ⟨by simp, fun k k0 kl kn => ?_, fun k k0 kl kp ip => ?_⟩
  · simp at kl
    rw [at_app (by omega), at_app (by omega)]
    exact h k k0 (by omega)
  · simp at kl; omega

def Dn (q : List Nat) (i : Nat) : Prop :=
  (∀ k, 0 < k → k < q.length → (k - 1) / 2 ≠ i → at_ q ((k - 1) / 2) ≤ at_ q k) ∧ (∀ k, 0 < k → k < q.length → (k - 1) / 2 = i → 0 < i → at_ q ((i - 1) / 2) ≤ at_ q k)
theorem dn_step {q : List Nat} {i j : Nat} (h : Dn q i) (hj : j < q.length) (hp : (j - 1) / 2 = i) (h0 : 0 < j) (hm : ∀ k, 0 < k → k < q.length → (k - 1) / 2 = i → at_ q j ≤ at_ q k) (hl : at_ q j < at_ q i) : Dn (swp q i j) j := by
  obtain ⟨h1, h2⟩ := h
  have hi : i < q.length := by omega
  have e := fun k => at_swp (k := k) hi hj
  refine ⟨fun k k0 kl kn => ?_, fun k k0 kl kp ip => ?_⟩
  · rw [swp_len] at kl
    rw [e, e, if_neg kn]
    by_cases hk : k = j
    · subst hk
      rw [if_pos rfl, if_pos hp]
      omega
    · rw [if_neg hk]
      by_cases hq : (k - 1) / 2 = i
      · rw [if_pos hq, if_neg (by omega)]
        exact hm k k0 kl hq
      · rw [if_neg hq]
        have h4 := h1 k k0 kl hq
        by_cases hki : k = i
        · subst hki
          rw [if_pos rfl]
          exact h2 j h0 hj hp k0
        · rw [if_neg hki]
          exact h4
  · rw [swp_len] at kl
    rw [e, e, hp, if_neg (show ¬ i = j by omega), if_pos rfl, if_neg (by omega), if_neg (by omega)]
    have h4 := h1 k k0 kl (by omega)
    rw [kp] at h4
    exact h4
theorem dn_done {q : List Nat} {i : Nat} (h : Dn q i) (hl : ∀ k, 0 < k → k < q.length → (k - 1) / 2 = i → at_ q i ≤ at_ q k) : H q := by
  intro k k0 kl
  by_cases hq : (k - 1) / 2 = i
  · rw [hq]; exact hl k k0 kl hq
  · exact h.1 k k0 kl hq
/-- the first is the least -/
theorem H.least {q : List Nat} (h : H q) : ∀ k, k < q.length → at_ q 0 ≤ at_ q k := by
  intro k
  induction k using Nat.strongRecOn with
  | _ k ih =>
    intro hk
    by_cases k0 : k = 0
    · subst k0; exact Nat.le_refl _
    · exact Nat.le_trans (ih ((k - 1) / 2) (by omega) (by omega)) (h k (by omega) hk)
theorem H.least_mem {q : List Nat} (h : H q) : ∀ x ∈ q, at_ q 0 ≤ x := by
  intro x hx
  obtain ⟨k, hk, rfl⟩ := List.getElem_of_mem hx
  rw [← at_eq hk]
  exact h.least k hk
/-- the last and the first change places: all but the last -/
def cut (q : List Nat) : List Nat := (swp q 0 (q.length - 1)).take (q.length - 1)
theorem cut_len (q : List Nat) : (cut q).length = q.length - 1 := by simp [cut, swp_len]
theorem cut_app {q : List Nat} (h : 0 < q.length) : swp q 0 (q.length - 1) = cut q ++ [at_ q 0] := by
  have hl : (swp q 0 (q.length - 1)).length = q.length := swp_len ..
  have e1 : (swp q 0 (q.length - 1)).drop (q.length - 1) = [at_ q 0] := by
    apply List.ext_getElem
    · simp [hl]; omega
    · intro k h1 h2
      simp at h2
      subst h2
      simp only [List.getElem_drop, Nat.add_zero, List.getElem_cons_zero]
      rw [← at_eq (by omega), at_swp h (by omega), if_pos rfl]
  unfold cut
  rw [← e1, List.take_append_drop]
theorem cut_dn {q : List Nat} (h : H q) (h0 : 0 < q.length) : Dn (cut q) 0 := by
  have hc := cut_len q
  have e : ∀ k, 0 < k → k < q.length - 1 → at_ (cut q) k = at_ q k := fun k k0 kl => by
    have := at_app' (q := cut q) (r := [at_ q 0]) (k := k) (by omega)
    rw [← this, ← cut_app h0, at_swp h0 (by omega), if_neg (by omega), if_neg (by omega)]
  refine ⟨fun k k0 kl kn => ?_, fun k k0 kl kp ip => by omega⟩
  rw [e _ (by omega) (by omega), e _ (by omega) (by omega)]
  exact h k k0 (by omega)
theorem cut_perm {q : List Nat} (h0 : 0 < q.length) : (at_ q 0 :: cut q).Perm q := by
  have h1 := swp_perm (q := q) (i := 0) (j := q.length - 1) h0 (by omega)
  rw [cut_app h0] at h1
  exact (List.perm_append_singleton _ _).symm.trans h1
theorem swp_app {q r : List Nat} {i j : Nat} (hi : i < q.length) (hj : j < q.length) : swp (q ++ r) i j = swp q i j ++ r := by
  unfold swp
  rw [at_app' hi, at_app' hj, List.set_append, if_pos hi, List.set_append, if_pos (by simpa using hj)]
end Rat
