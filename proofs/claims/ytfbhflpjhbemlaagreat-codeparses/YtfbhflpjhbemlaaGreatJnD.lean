/- Texts joined: RaM, RaW, CdM, CdN, CdO, CdP, CdQ, CeA, CeB. -/
import Derived.Test.YtfbhflpjhbemlaaGreatProg
import Derived.WalkKit
import Derived.Lib.Hide
import Derived.Deep.MidRow
import Derived.Deep.RegionHeld3
import Derived.RangeFuncNested
import Derived.RangeFuncBound
import Derived.RangeFuncCalls
import Derived.RangeFuncLeaves
import Derived.Shelf.Abstract
import Derived.Shelf.RegionOpen
import Derived.OwnWalkIn
import Derived.TacticsInMore
import Derived.LoopNIn
import Derived.LoopIn
import Derived.Deep.LoopGhost
import Derived.Maps.AppendAt
import Derived.Handy
import Derived.RowKit
import Derived.Test.YtfbhflpjhbemlaaGreatJnA
/- A heap of numbers in a list: what pushing and popping does (plain). -/
namespace Rat

abbrev at_ (q : List Nat) (k : Nat) : Nat := q.getD k 0
def swp (q : List Nat) (i j : Nat) : List Nat := (q.set i (at_ q j)).set j (at_ q i)
theorem swp_len (q : List Nat) (i j : Nat) : (swp q i j).length = q.length := by simp [swp]
theorem at_eq {q : List Nat} {k : Nat} (h : k < q.length) : at_ q k = q[k] := by simp [at_, List.getD_eq_getElem?_getD, List.getElem?_eq_getElem h]
theorem at_some {q : List Nat} {k : Nat} (h : k < q.length) : q[k]? = some (at_ q k) := by rw [List.getElem?_eq_getElem h, at_eq h]
theorem at_swp {q : List Nat} {i j k : Nat} (hi : i < q.length) (hj : j < q.length) : at_ (swp q i j) k = if k = j then at_ q i else if k = i then at_ q j else at_ q k := by
  simp only [swp, at_, List.getD_eq_getElem?_getD, List.getElem?_set, List.length_set]
  by_cases h1 : k = j
  · subst h1; simp [hj]
  · rw [if_neg (Ne.symm h1), if_neg h1]
    by_cases h2 : k = i
    · subst h2; simp [hi]
    · rw [if_neg (Ne.symm h2), if_neg h2]
theorem swp_perm {q : List Nat} {i j : Nat} (hi : i < q.length) (hj : j < q.length) : (swp q i j).Perm q := by
  unfold swp
  rw [at_eq hi, at_eq hj]
  exact List.set_set_perm hi hj

/-- the first n are a heap -/
def H (q : List Nat) : Prop := ∀ k, 0 < k → k < q.length → at_ q ((k - 1) / 2) ≤ at_ q k
def Up (q : List Nat) (j : Nat) : Prop :=
  j < q.length ∧ (∀ k, 0 < k → k < q.length → k ≠ j → at_ q ((k - 1) / 2) ≤ at_ q k) ∧ (∀ k, 0 < k → k < q.length → (k - 1) / 2 = j → 0 < j → at_ q ((j - 1) / 2) ≤ at_ q k)
theorem up_step {q : List Nat} {j : Nat} (h : Up q j) (h0 : 0 < j) (hl : at_ q j < at_ q ((j - 1) / 2)) : Up (swp q ((j - 1) / 2) j) ((j - 1) / 2) := by
  obtain ⟨h1, h2, h3⟩ := h
  have hi : (j - 1) / 2 < q.length := by omega
  have e := fun k => at_swp (k := k) hi h1
  refine ⟨by rw [swp_len]; omega, fun k k0 kl kn => ?_, fun k k0 kl kp ip => ?_⟩
  · rw [swp_len] at kl
    rw [e, e]
    by_cases hk : k = j
    · subst hk
      rw [if_pos rfl, if_neg (by omega), if_pos rfl]
      omega
    · rw [if_neg hk, if_neg kn]
      have h4 := h2 k k0 kl hk
      by_cases hp : (k - 1) / 2 = j
      · rw [if_pos hp]
        exact h3 k k0 kl hp h0
      · rw [if_neg hp]
        by_cases hq : (k - 1) / 2 = (j - 1) / 2
        · rw [if_pos hq]
          rw [hq] at h4
          omega
        · rw [if_neg hq]
          exact h4
  · rw [swp_len] at kl
    rw [e, e]
    have h5 := h2 ((j - 1) / 2) ip hi (by omega)
    rw [if_neg (show ¬ ((j - 1) / 2 - 1) / 2 = j by omega), if_neg (show ¬ ((j - 1) / 2 - 1) / 2 = (j - 1) / 2 by omega)]
    by_cases hk : k = j
    · rw [if_pos hk]; exact h5
    · rw [if_neg hk, if_neg (by omega)]
      have h4 := h2 k k0 kl hk
      rw [kp] at h4
      omega
theorem up_done {q : List Nat} {j : Nat} (h : Up q j) (hl : j = 0 ∨ at_ q ((j - 1) / 2) ≤ at_ q j) : H q := by
  intro k k0 kl
  by_cases hk : k = j
  · subst hk; rcases hl with h1 | h1
    · omega
    · exact h1
  · exact h.2.1 k k0 kl hk
theorem at_app {q : List Nat} {x k : Nat} (h : k < q.length) : at_ (q ++ [x]) k = at_ q k := by simp [at_, List.getD_eq_getElem?_getD, List.getElem?_append_left h]
theorem at_app' {q r : List Nat} {k : Nat} (h : k < q.length) : at_ (q ++ r) k = at_ q k := by simp [at_, List.getD_eq_getElem?_getD, List.getElem?_append_left h]
theorem up_begin {q : List Nat} (x : Nat) (h : H q) : Up (q ++ [x]) q.length := by
  refine ⟨by simp, fun k k0 kl kn => ?_, fun k k0 kl kp ip => ?_⟩
  · simp at kl
    rw [at_app (by omega), at_app (by omega)]
    exact h k k0 (by omega)
  · simp at kl; omega

def Dn (q : List Nat) (i : Nat) : Prop :=
  (∀ k, 0 < k → k < q.length → (k - 1) / 2 ≠ i → at_ q ((k - 1) / 2) ≤ at_ q k) ∧ (∀ k, 0 < k → k < q.length → (k - 1) / 2 = i → 0 < i → at_ q ((i - 1) / 2) ≤ at_ q k)
theorem dn_step {q : List Nat} {i j : Nat} (h : Dn q i) (hj : j < q.length) (hp : (j - 1) / 2 = i) (h0 : 0 < j) (hm : ∀ k, 0 < k → k < q.length → (k - 1) / 2 = i → at_ q j ≤ at_ q k) (hl : at_ q j < at_ q i) : Dn (swp q i j) j := by
  obtain ⟨h1, h2⟩ := h
  have hi : i < q.length := by omega
  have e := fun k => at_swp (k := k) hi hj
  refine ⟨fun k k0 kl kn => ?_, fun k k0 kl kp ip => ?_⟩
  · rw [swp_len] at kl
    rw [e, e, if_neg kn]
    by_cases hk : k = j
    · subst hk
      rw [if_pos rfl, if_pos hp]
      omega
    · rw [if_neg hk]
      by_cases hq : (k - 1) / 2 = i
      · rw [if_pos hq, if_neg (by omega)]
        exact hm k k0 kl hq
      · rw [if_neg hq]
        have h4 := h1 k k0 kl hq
        by_cases hki : k = i
        · subst hki
          rw [if_pos rfl]
          exact h2 j h0 hj hp k0
        · rw [if_neg hki]
          exact h4
  · rw [swp_len] at kl
    rw [e, e, hp, if_neg (show ¬ i = j by omega), if_pos rfl, if_neg (by omega), if_neg (by omega)]
    have h4 := h1 k k0 kl (by omega)
    rw [kp] at h4
    exact h4
theorem dn_done {q : List Nat} {i : Nat} (h : Dn q i) (hl : ∀ k, 0 < k → k < q.length → (k - 1) / 2 = i → at_ q i ≤ at_ q k) : H q := by
  intro k k0 kl
  by_cases hq : (k - 1) / 2 = i
  · rw [hq]; exact hl k k0 kl hq
  · exact h.1 k k0 kl hq
/-- the first is the least -/
theorem H.least {q : List Nat} (h : H q) : ∀ k, k < q.length → at_ q 0 ≤ at_ q k := by
  intro k
  induction k using Nat.strongRecOn with
  | _ k ih =>
    intro hk
    by_cases k0 : k = 0
    · subst k0; exact Nat.le_refl _
    · exact Nat.le_trans (ih ((k - 1) / 2) (by omega) (by omega)) (h k (by omega) hk)
theorem H.least_mem {q : List Nat} (h : H q) : ∀ x ∈ q, at_ q 0 ≤ x := by
  intro x hx
  obtain ⟨k, hk, rfl⟩ := List.getElem_of_mem hx
  rw [← at_eq hk]
  exact h.least k hk
/-- the last and the first change places: all but the last -/
def cut (q : List Nat) : List Nat := (swp q 0 (q.length - 1)).take (q.length - 1)
theorem cut_len (q : List Nat) : (cut q).length = q.length - 1 := by simp [cut, swp_len]
theorem cut_app {q : List Nat} (h : 0 < q.length) : swp q 0 (q.length - 1) = cut q ++ [at_ q 0] := by
  have hl : (swp q 0 (q.length - 1)).length = q.length := swp_len ..
  have e1 : (swp q 0 (q.length - 1)).drop (q.length - 1) = [at_ q 0] := by
    apply List.ext_getElem
    · simp [hl]; omega
    · intro k h1 h2
      simp at h2
      subst h2
      simp only [List.getElem_drop, Nat.add_zero, List.getElem_cons_zero]
      rw [← at_eq (by omega), at_swp h (by omega), if_pos rfl]
  unfold cut
  rw [← e1, List.take_append_drop]
theorem cut_dn {q : List Nat} (h : H q) (h0 : 0 < q.length) : Dn (cut q) 0 := by
  have hc := cut_len q
  have e : ∀ k, 0 < k → k < q.length - 1 → at_ (cut q) k = at_ q k := fun k k0 kl => by
    have := at_app' (q := cut q) (r := [at_ q 0]) (k := k) (by omega)
    rw [← this, ← cut_app h0, at_swp h0 (by omega), if_neg (by omega), if_neg (by omega)]
  refine ⟨fun k k0 kl kn => ?_, fun k k0 kl kp ip => by omega⟩
  rw [e _ (by omega) (by omega), e _ (by omega) (by omega)]
  exact h k k0 (by omega)
theorem cut_perm {q : List Nat} (h0 : 0 < q.length) : (at_ q 0 :: cut q).Perm q := by
  have h1 := swp_perm (q := q) (i := 0) (j := q.length - 1) h0 (by omega)
  rw [cut_app h0] at h1
  exact (List.perm_append_singleton _ _).symm.trans h1
theorem swp_app {q r : List Nat} {i j : Nat} (hi : i < q.length) (hj : j < q.length) : swp (q ++ r) i j = swp q i j ++ r := by
  unfold swp
  rw [at_app' hi, at_app' hj, List.set_append, if_pos hi, List.set_append, if_pos (by simpa using hj)]
end Rat

/- A region that draws its order, step by step (GrL0, NmK0, NmK1 joined); frames. -/
namespace Go.Proofs.YtfbhflpjhbemlaaGreat
open Go.RowKit Go.Maps Go.WideMaps Go.Shelf

theorem gl {w : World} {b : Nat} {o : Obj} (h : w.heap[b]? = some o) : b < w.heap.size := (Array.getElem?_eq_some_iff.1 h).1

/-- all orders go well; S is kept by all but those of Z -/
def wpL (P : Program) (md : Region.Mode) (ops : Array Oper) (Q : Exit → Act → World → Prop) (S : World → Prop) (Z : List Nat) : Nat → Array Bool → Act → World → Prop
  | 0, l, a, w => Region.ready md ops l = [] ∧ Q .normal a w
  | f + 1, l, a, w => (Region.ready md ops l = [] → Q .normal a w) ∧ ∀ j ∈ Region.ready md ops l, wpOp P ops Q j (fun a' w' => (j ∉ Z → S w') ∧ wpL P md ops Q S Z f (l.setIfInBounds j true) a' w') a w

section
variable {P : Program} {ops : Array Oper} {Q : Exit → Act → World → Prop} {md : Region.Mode} {S : World → Prop} {Z : List Nat}

theorem wpL_any : ∀ (f : Nat) (l : Array Bool) (a : Act) (w : World), wpL P md ops Q S Z f l a w → wpAny P md ops Q f l a w
  | 0, _, _, _, h => h
  | f + 1, _, _, _, h => ⟨h.1, fun j hj => wpOp_mono (fun a w hh => wpL_any f _ a w hh.2) (h.2 j hj)⟩

theorem wp_region_L {id : Nat} {a : Act} {w : World} (hm : P.follows .mixedOrders = true) (h : wpL P .any ops Q S Z ops.size (Array.replicate ops.size false) a w.drew) : (Code.region id ops true).wp P Q a w :=
  wp_region_any hm (wpL_any _ _ _ _ h)

/-- what stands behind i is not ready while i is not done -/
theorem not_ready {z i : Nat} {oz : Oper} {l : Array Bool} (hz : ops[z]? = some oz) (he : oz.after.any (fun e => Region.binds md e && e.on == i) = true) (hi : l.getD i true = false) : z ∉ Region.ready md ops l := by
  intro hr
  obtain ⟨_, o, ho, hall⟩ := mem_ready.1 hr
  have e0 := Option.some.inj (hz.symm.trans ho)
  subst e0
  rw [Array.any_eq_true] at he
  obtain ⟨n, hn, hb⟩ := he
  rw [Bool.and_eq_true, beq_iff_eq] at hb
  have h1 := hall _ (Array.getElem_mem hn) hb.1
  rw [hb.2] at h1
  simp only [Array.getD_eq_getD_getElem?] at hi h1
  cases hl : l[i]? with
  | none => rw [hl] at h1; simp at h1
  | some v => rw [hl] at hi h1; simp at hi h1; rw [hi] at h1; cases h1

theorem wpL_first {i : Nat} {oi : Oper} {v : Value} (hi : ops[i]? = some oi) (hsel : ∀ (j : Nat) (o : Oper) cs b, ops[j]? = some o → o.op ≠ .select cs b)
    (hQ : ∀ c a w, Q (.panic c) (a.put oi.dst v) w → Q (.panic c) a w) (hZ : ∀ z ∈ Z, ∃ oz, ops[z]? = some oz ∧ oz.after.any (fun e => Region.binds md e && e.on == i) = true) :
    ∀ (f : Nat) (l : Array Bool) (a : Act) (w : World), (∀ j oj, ops[j]? = some oj → j ≠ i → l.getD j true = false → (∀ e ∈ oj.after, Region.binds md e = true → e.on ≠ i) → oi.apart ops oj = true) →
      i ∈ Region.ready md ops l → YieldsIf P ops S oi v a → S w → wpL P md ops Q S Z f (l.setIfInBounds i true) (a.put oi.dst v) w → wpL P md ops Q S Z (f + 1) l a w
  | f, l, a, w, hfree, hr, hy, hS, H => by
    refine ⟨fun h => by rw [h] at hr; exact absurd hr (by simp), fun j hj => ?_⟩
    by_cases hji : j = i
    · subst hji
      exact hy.wpOp hi hS ⟨fun _ => hS, H⟩
    · have hin := ready_mono hj hji
      have hl0 := (mem_ready.1 hr).1
      cases f with
      | zero => rw [H.1] at hin; exact absurd hin (by simp)
      | succ f =>
        obtain ⟨hjun, oj, hoj, hall⟩ := mem_ready.1 hj
        have hnot : ∀ e ∈ oj.after, Region.binds md e = true → e.on ≠ i := fun e he hb heq => by
          have hz : j ∉ Region.ready md ops l := not_ready hoj (by rw [Array.any_eq_true]; obtain ⟨n, hn, hx⟩ := Array.getElem_of_mem he; exact ⟨n, hn, by rw [hx, hb, Bool.true_and, beq_iff_eq]; exact heq⟩) hl0
          exact hz hj
        have hjZ : j ∉ Z := fun hz => by
          obtain ⟨oz, h1, h2⟩ := hZ j hz
          exact not_ready h1 h2 hl0 hj
        have h2 := wpOp_putIf hoj (hfree j oj hoj hji hjun hnot) (fun cs b => hsel i oi cs b hi) (fun cs b => hsel j oj cs b hoj) hQ hy (H.2 j hin)
        refine wpOp_mono (fun a' w' h3 => ⟨fun _ => h3.2.1 hjZ, ?_⟩) h2
        refine wpL_first hi hsel hQ hZ f _ a' w' (fun k ok hk hki hun hno => hfree k ok hk hki ?_ hno) (ready_mono hr (Ne.symm hji)) h3.1 (h3.2.1 hjZ) ?_
        · by_cases hjk : j = k
          · subst hjk; exact hjun
          · rw [getD_set_ne true hjk] at hun; exact hun
        · rw [Array.setIfInBounds_comm _ _ hji]
          exact h3.2.2

/-- take number i first, which yields v in every world that meets S -/
theorem wpL_take {i : Nat} {oi : Oper} {v : Value} {f : Nat} {l : Array Bool} {a : Act} {w : World} (hi : ops[i]? = some oi)
    (hs : Region.noSelect ops = true) (hf : Region.free md ops l i = true) (hr : (Region.ready md ops l).contains i = true)
    (hQ : ∀ c a w, Q (.panic c) (a.put oi.dst v) w → Q (.panic c) a w) (hZ : (Z.all fun z => ((ops[z]?).map fun oz => oz.after.any fun e => Region.binds md e && e.on == i).getD false) = true) (hy : YieldsIf P ops S oi v a) (hS : S w)
    (h : wpL P md ops Q S Z f (l.setIfInBounds i true) (a.put oi.dst v) w) : wpL P md ops Q S Z (f + 1) l a w :=
  wpL_first hi (Region.noSelect_spec hs) hQ (fun z hz => by
    have h1 := List.all_eq_true.1 hZ z hz
    cases ho : ops[z]? with
    | none => rw [ho] at h1; cases h1
    | some oz => rw [ho] at h1; exact ⟨oz, rfl, h1⟩) f l a w (Region.free_spec hi hf) (by simpa using hr) hy hS h
/-- one alone may come up -/
theorem wpL_one {i : Nat} {f : Nat} {l : Array Bool} {a : Act} {w : World} (hr : Region.ready md ops l = [i])
    (h : wpOp P ops Q i (fun a' w' => (i ∉ Z → S w') ∧ wpL P md ops Q S Z f (l.setIfInBounds i true) a' w') a w) : wpL P md ops Q S Z (f + 1) l a w :=
  ⟨fun h0 => (by rw [hr] at h0; exact absurd h0 (by simp)), fun j hj => (by rw [hr] at hj; obtain rfl := List.mem_singleton.1 hj; exact h)⟩
theorem wpL_done {l : Array Bool} {a : Act} {w : World} (hr : Region.ready md ops l = []) (h : Q .normal a w) : ∀ f, wpL P md ops Q S Z f l a w
  | 0 => ⟨hr, h⟩
  | _ + 1 => ⟨fun _ => h, by rw [hr]; simp⟩
end


section
variable {P : Program} {ops : Array Oper} {Q : Exit → Act → World → Prop} {md : Region.Mode} {l0 n : Nat}
theorem op_in (hLO : ¬ LetsOut Q) {j : Nat} {K K' : Act → World → Prop} (hK : ∀ a w, K a w → K' a w) (hd : ∀ o c, ops[j]? = some o → o.op ≠ .defer c) {a : Act} {w : World} (h : wpOp P ops Q j K a w) : wpOpIn (Fence.wide.inRound l0) n P ops Q j K' a w := by
  unfold wpOp at h
  unfold wpOpIn
  cases ho : ops[j]? with
  | none => rw [ho] at h; exact hK _ _ h
  | some o =>
    rw [ho] at h
    simp only at h ⊢
    by_cases hw : Region.wanted o (yielded ops a.tmps) = true
    · rw [if_pos hw] at h ⊢
      have h1 : o.wp P a w K Q := h.resolve_right (fun e => hLO e.2)
      refine ⟨fun _ _ => trivial, ?_⟩
      show o.uponIn (Fence.wide.inRound l0) n P a K' Q ((o.semAt (some l0) a.eval).run P w)
      rw [Oper.semAt_some l0 a.eval o (fun c => hd o c ho)]
      unfold Oper.wp at h1
      generalize (execOp a.eval o).run P w = r at h1 ⊢
      cases r with
      | ok x w' =>
        cases x with
        | value v => exact hK _ _ h1
        | skip => exact hK _ _ h1
        | defer d => exact hK _ _ h1
        | enter f args =>
          refine ⟨fun e => (by cases e), ?_⟩
          refine CallsIn.inRound l0 (callsIn_wide.2 (Calls.mono h1 ?_))
          intro e w'' he
          cases e with
          | returned v => exact hK _ _ he
          | panicked ch => exact he
          | outgrown => exact he
        | row row args =>
          refine ⟨fun e => (by cases e), ?_⟩
          exact fun c cs _ => let ⟨v, w'', r, s⟩ := h1 c cs; ⟨v, w'', hK _ _ r, stepsIn_wide.2 s⟩
        | _ => exact h1.elim
      | halt x w' =>
        cases x <;> first | exact h1 | exact h1.elim
    · rw [if_neg hw] at h ⊢
      exact ⟨fun _ _ => trivial, hK _ _ h⟩
theorem wpOp_now {i : Nat} {o : Oper} {K : Act → World → Prop} {a : Act} {w : World} (hi : ops[i]? = some o) (hw : Region.wanted o (yielded ops a.tmps) = true) (h : ∀ K' : Act → World → Prop, (∀ a w, K a w → K' a w) → o.wp P a w K' Q) : wpOp P ops Q i K a w := by
  unfold wpOp
  rw [hi]
  simp only
  rw [if_pos hw]
  exact .inl (h K (fun _ _ h => h))
/-- number i first, which yields v into slot d in every world that meets S -/
theorem wpL_take2 {S : World → Prop} {Z : List Nat} {i d : Nat} {oi : Oper} {v : Value} {f : Nat} {l : Array Bool} {a : Act} {w : World} (hi : ops[i]? = some oi) (hdst : oi.dst = some d)
    (hs : Region.noSelect ops = true) (hf : Region.free md ops l i = true) (hr : (Region.ready md ops l).contains i = true)
    (hQ : ∀ c a w, Q (.panic c) (a.put (some d) v) w → Q (.panic c) a w) (hZ : (Z.all fun z => ((ops[z]?).map fun oz => oz.after.any fun e => Region.binds md e && e.on == i).getD false) = true) (hy : YieldsIf P ops S oi v a) (hS : S w)
    (h : wpL P md ops Q S Z f (l.setIfInBounds i true) (a.put (some d) v) w) : wpL P md ops Q S Z (f + 1) l a w :=
  wpL_take hi hs hf hr (by rw [hdst]; exact hQ) hZ hy hS (by rw [hdst]; exact h)
/-- the same, what can be reckoned being reckoned -/
theorem t2 {S : World → Prop} {Z : List Nat} (i d : Nat) (v : Value) {oi : Oper} {f : Nat} {l : Array Bool} {a : Act} {w : World} (hy : ∀ w, S w → (execOp a.eval oi).run P w = .ok (.value v) w) (hS : S w)
    (h : wpL P md ops Q S Z f (l.setIfInBounds i true) (a.put (some d) v) w) (hi : ops[i]? = some oi := by exact rfl)
    (hc : (oi.dst == some d && Region.noSelect ops && Region.free md ops l i && (Region.ready md ops l).contains i && (Z.all fun z => ((ops[z]?).map fun oz => oz.after.any fun e => Region.binds md e && e.on == i).getD false) && Region.wanted oi (yielded ops a.tmps)) = true := by kernel_rfl)
    (hQ : ∀ c a w, Q (.panic c) (a.put (some d) v) w → Q (.panic c) a w := by exact fun _ _ _ h => h) : wpL P md ops Q S Z (f + 1) l a w := by
  simp only [Bool.and_eq_true] at hc
  obtain ⟨⟨⟨⟨⟨h1, h2⟩, h3⟩, h4⟩, h5⟩, h6⟩ := hc
  exact wpL_take2 hi (eq_of_beq h1) h2 h3 h4 hQ h5 (.inl ⟨h6, hy⟩) hS h
theorem t1 {S : World → Prop} {Z : List Nat} (i d : Nat) (v : Value) {oi : Oper} {f : Nat} {l : Array Bool} {a : Act} {w : World} (hS : S w)
    (h : wpL P md ops Q S Z f (l.setIfInBounds i true) (a.put (some d) v) w) (hi : ops[i]? = some oi := by exact rfl)
    (hc : (oi.dst == some d && Region.noSelect ops && Region.free md ops l i && (Region.ready md ops l).contains i && (Z.all fun z => ((ops[z]?).map fun oz => oz.after.any fun e => Region.binds md e && e.on == i).getD false) && Region.wanted oi (yielded ops a.tmps)) = true := by kernel_rfl)
    (hQ : ∀ c a w, Q (.panic c) (a.put (some d) v) w → Q (.panic c) a w := by exact fun _ _ _ h => h) (hy : ∀ w, S w → (execOp a.eval oi).run P w = .ok (.value v) w := by intro _ _; kernel_rfl) : wpL P md ops Q S Z (f + 1) l a w := t2 i d v hy hS h hi hc hQ
theorem t3 {S : World → Prop} {Z : List Nat} (i d : Nat) {oi : Oper} {f : Nat} {l : Array Bool} {a : Act} {w : World} (hS : S w)
    (h : wpL P md ops Q S Z f (l.setIfInBounds i true) (a.put (some d) undef) w) (hi : ops[i]? = some oi := by exact rfl)
    (hc : (oi.dst == some d && Region.noSelect ops && Region.free md ops l i && (Region.ready md ops l).contains i && (Z.all fun z => ((ops[z]?).map fun oz => oz.after.any fun e => Region.binds md e && e.on == i).getD false) && !Region.wanted oi (yielded ops a.tmps)) = true := by kernel_rfl)
    (hQ : ∀ c a w, Q (.panic c) (a.put (some d) undef) w → Q (.panic c) a w := by exact fun _ _ _ h => h) : wpL P md ops Q S Z (f + 1) l a w := by
  simp only [Bool.and_eq_true, Bool.not_eq_true'] at hc
  obtain ⟨⟨⟨⟨⟨h1, h2⟩, h3⟩, h4⟩, h5⟩, h6⟩ := hc
  exact wpL_take2 hi (eq_of_beq h1) h2 h3 h4 hQ h5 (.inr ⟨h6, rfl⟩) hS h
theorem sA {α : Type} (l : List α) (i : Nat) (v : α) : l.toArray.setIfInBounds i v = (l.set i v).toArray := List.setIfInBounds_toArray ..
theorem sB {α : Type} (x : α) (l : List α) (v : α) : (x :: l).set 0 v = v :: l := rfl
theorem sC {α : Type} (x : α) (l : List α) (i : Nat) (v : α) : (x :: l).set (i + 1) v = x :: l.set i v := rfl
/-- a call that alone may come up -/
theorem wpL_call {S : World → Prop} {Z : List Nat} {i d g : Nat} {args : Array Value} {oi : Oper} {f : Nat} {l : Array Bool} {a : Act} {w : World} {R : Value → World → Prop} (hr : Region.ready md ops l = [i]) (hi : ops[i]? = some oi) (hdst : oi.dst = some d)
    (hw : Region.wanted oi (yielded ops a.tmps) = true) (hrun : (execOp a.eval oi).run P w = .ok (.enter g args) w) (hc : Calls P g args w fun e w' => ∃ v, e = .returned v ∧ R v w') (hS : ∀ v w', R v w' → S w')
    (h : ∀ v w', R v w' → wpL P md ops Q S Z f (l.setIfInBounds i true) (a.put (some d) v) w') : wpL P md ops Q S Z (f + 1) l a w := by
  refine wpL_one hr (wpOp_now hi hw (fun K' hK => ?_))
  unfold Oper.wp
  rw [hrun, Oper.upon_enter]
  refine hc.mono ?_
  rintro e w' ⟨v, rfl, hR⟩
  refine hK _ _ ⟨fun _ => hS v w' hR, ?_⟩
  rw [hdst]
  exact h v w' hR
theorem any_in (hLO : ¬ LetsOut Q) (hd : ∀ (j : Nat) o c, ops[j]? = some o → o.op ≠ .defer c) : ∀ (f : Nat) (l : Array Bool) (a : Act) (w : World), wpAny P md ops Q f l a w → wpAnyIn (Fence.wide.inRound l0) n P md ops Q f l a w
  | 0, _, _, _, h => h
  | f + 1, _, _, _, h => ⟨h.1, fun j hj => op_in hLO (fun a w hh => any_in hLO hd f _ a w hh) (hd j) (h.2 j hj)⟩
/-- S is kept by all; what a round leaves -/
theorem region_in {S : World → Prop} {id : Nat} {a : Act} {w : World} (hm : P.follows .mixedOrders = true) (hLO : ¬ LetsOut Q) (hd : (ops.all fun o => match o.op with | .defer _ => false | _ => true) = true) (h : wpL P .any ops Q S [] ops.size (Array.replicate ops.size false) a w.drew) :
    (Code.region id ops true).wpIn (Fence.wide.inRound l0) n P Q a w :=
  wpIn_region_any hm (any_in hLO (fun j o c ho e => by
    have h1 := Array.all_eq_true.1 hd j (Array.getElem?_eq_some_iff.1 ho).1
    rw [(Array.getElem?_eq_some_iff.1 ho).2, e] at h1
    cases h1) _ _ _ _ (wpL_any _ _ _ _ h))
end

theorem wpL_store {P : Program} {ops : Array Oper} {Q : Exit → Act → World → Prop} {md : Region.Mode} {S : World → Prop} {Z : List Nat} {i : Nat} {oi : Oper} {f : Nat} {l : Array Bool} {a : Act} {w : World} (g : Nat) (cells old : Array Value) (t ty : TypeId) (x y : Operand) (hr : Region.ready md ops l = [i]) (hi : ops[i]? = some oi) (hw : Region.wanted oi (yielded ops a.tmps) = true) (hdst : oi.dst = none)
    (ho : oi.op = .store ty x y) (hx : a.eval x = .pointer (some ⟨g, 0, none⟩)) (hy : a.eval y = .agg cells) (hg : w.heap[g]? = some (.cells old t (0, 0))) (hin : (P.info? ty).map (·.size) = some cells.size)
    (hold : old.size = cells.size) (h1 : cells.all (·.oneCell') = true)
    (h : ∀ w', w'.heap[g]? = some (.cells cells t (0, 0)) → w.grownBy w' (some g) → S w' ∧ wpL P md ops Q S Z f (l.setIfInBounds i true) a w') : wpL P md ops Q S Z (f + 1) l a w := by
  refine wpL_one hr (wpOp_now hi hw (fun K' hK => ?_))
  refine wp_store_row ty x y ho g cells hx hy t old hg hin hold h1 (hK _ _ ?_)
  have h2 := h (w.setRow g cells) (by simp [World.setRow, Array.getElem?_modify, hg]) (by
    refine ⟨rfl, rfl, rfl, by simp [World.setRow], fun k _ hk => ?_⟩
    have hne : g ≠ k := fun e => hk (by rw [e])
    simp [World.setRow, Array.getElem?_modify, hne])
  rw [hdst]
  exact ⟨fun _ => h2.1, h2.2⟩
section
variable {P : Program} {ops : Array Oper} {Q : Exit → Act → World → Prop} {md : Region.Mode} {S : World → Prop} {Z : List Nat}
/-- two may come up -/
theorem wpL_both {i j : Nat} {f : Nat} {l : Array Bool} {a : Act} {w : World} (hr : Region.ready md ops l = [i, j])
    (h1 : wpOp P ops Q i (fun a' w' => (i ∉ Z → S w') ∧ wpL P md ops Q S Z f (l.setIfInBounds i true) a' w') a w) (h2 : wpOp P ops Q j (fun a' w' => (j ∉ Z → S w') ∧ wpL P md ops Q S Z f (l.setIfInBounds j true) a' w') a w) : wpL P md ops Q S Z (f + 1) l a w :=
  ⟨fun h0 => (by rw [hr] at h0; exact absurd h0 (by simp)), fun k hk => (by
    rw [hr] at hk
    rcases List.mem_cons.1 hk with rfl | hk
    · exact h1
    · obtain rfl := List.mem_singleton.1 hk; exact h2)⟩
theorem wpOp_call {i d g : Nat} {args : Array Value} {oi : Oper} {a : Act} {w : World} {R : Value → World → Prop} {K : Act → World → Prop} (hi : ops[i]? = some oi) (hdst : oi.dst = some d)
    (hw : Region.wanted oi (yielded ops a.tmps) = true) (hrun : (execOp a.eval oi).run P w = .ok (.enter g args) w) (hc : Calls P g args w fun e w' => ∃ v, e = .returned v ∧ R v w') (h : ∀ v w', R v w' → K (a.put (some d) v) w') : wpOp P ops Q i K a w := by
  refine wpOp_now hi hw (fun K' hK => ?_)
  unfold Oper.wp
  rw [hrun, Oper.upon_enter]
  refine hc.mono ?_
  rintro e w' ⟨v, rfl, hR⟩
  refine hK _ _ ?_
  rw [hdst]
  exact h v w' hR
theorem wpOp_val {i d : Nat} {oi : Oper} {v : Value} {a : Act} {w w' : World} {K : Act → World → Prop} (hi : ops[i]? = some oi) (hdst : oi.dst = some d)
    (hw : Region.wanted oi (yielded ops a.tmps) = true) (hrun : (execOp a.eval oi).run P w = .ok (.value v) w') (h : K (a.put (some d) v) w') : wpOp P ops Q i K a w := by
  refine wpOp_now hi hw (fun K' hK => ?_)
  unfold Oper.wp
  rw [hrun, Oper.upon_value]
  refine hK _ _ ?_
  rw [hdst]
  exact h
theorem wpL_val {i d : Nat} {oi : Oper} {v : Value} {f : Nat} {l : Array Bool} {a : Act} {w w' : World} (hr : Region.ready md ops l = [i]) (hi : ops[i]? = some oi) (hdst : oi.dst = some d)
    (hw : Region.wanted oi (yielded ops a.tmps) = true) (hrun : (execOp a.eval oi).run P w = .ok (.value v) w') (hS : S w') (h : wpL P md ops Q S Z f (l.setIfInBounds i true) (a.put (some d) v) w') : wpL P md ops Q S Z (f + 1) l a w :=
  wpL_one hr (wpOp_val hi hdst hw hrun ⟨fun _ => hS, h⟩)
end
theorem grown_setRow (w : World) (g : Nat) (cs : Array Value) : w.grownBy (w.setRow g cs) (some g) := by
  refine ⟨rfl, rfl, rfl, by simp [World.setRow], fun k _ hk => ?_⟩
  have hne : g ≠ k := fun e => hk (by rw [e])
  simp [World.setRow, Array.getElem?_modify, hne]
end Go.Proofs.YtfbhflpjhbemlaaGreat

/- The plain mathematics of the machine's code as bytes (chapter 19): numbers, what is written, what is read; no program in sight. -/
namespace Go.Proofs.YtfbhflpjhbemlaaGreat.Cd
open Go.RowKit

structure Ins where
  op : Int
  n : Int
  k : Int
deriving DecidableEq
structure Code where
  kinds : List Int
  ins : Int
  outs : Int
  cells : Int
  init : List Int
  stack : Int
  body : List Ins
deriving DecidableEq

/-! numbers -/
def I64 (n : Int) : Prop := -9223372036854775808 ≤ n ∧ n ≤ 9223372036854775807
/-- the zigzag form -/
def zig (n : Int) : Nat := if 0 ≤ n then (2 * n).toNat else (-2 * n - 1).toNat
def zag (z : Nat) : Int := if z % 2 = 0 then (z / 2 : Nat) else -((z / 2 : Nat) : Int) - 1
theorem zag_zig (n : Int) : zag (zig n) = n := by
  unfold zag zig
  by_cases h : 0 ≤ n
  · rw [if_pos h, if_pos (by omega)]; omega
  · rw [if_neg h, if_neg (by omega)]; omega
theorem zig_lt {n : Int} (h : I64 n) : zig n < 18446744073709551616 := by
  unfold I64 at h
  unfold zig
  split <;> omega
/-- seven bits a byte, the lowest first -/
def bytes (z : Nat) : List UInt8 :=
  if h : z < 128 then [UInt8.ofNat z] else UInt8.ofNat (z % 128 + 128) :: bytes (z / 128)
termination_by z
decreasing_by omega
theorem bytes_small {z : Nat} (h : z < 128) : bytes z = [UInt8.ofNat z] := by rw [bytes, dif_pos h]
theorem bytes_big {z : Nat} (h : ¬ z < 128) : bytes z = UInt8.ofNat (z % 128 + 128) :: bytes (z / 128) := by rw [bytes, dif_neg h]
theorem bytes_len : ∀ (j z : Nat), z < 2 ^ (7 * (j + 1)) → (bytes z).length ≤ j + 1
  | 0, z, h => by rw [bytes_small (by simpa using h)]; simp
  | j + 1, z, h => by
    by_cases h1 : z < 128
    · rw [bytes_small h1]; simp
    · rw [bytes_big h1, List.length_cons]
      have := bytes_len j (z / 128) (by
        rw [show 7 * (j + 1 + 1) = 7 * (j + 1) + 7 by omega, Nat.pow_add] at h
        omega)
      omega
theorem bytes_ne (z : Nat) : bytes z ≠ [] := by
  by_cases h : z < 128
  · rw [bytes_small h]; simp
  · rw [bytes_big h]; simp
/-- a number's bytes -/
def num (n : Int) : List UInt8 := bytes (zig n)
theorem num_len {n : Int} (h : I64 n) : (num n).length ≤ 10 := bytes_len 9 _ (by have := zig_lt h; exact Nat.lt_of_lt_of_le this (by decide))
/-- reading: f bytes at the most -/
def rd : Nat → List UInt8 → Option (Nat × List UInt8)
  | 0, _ => none
  | _ + 1, [] => none
  | f + 1, c :: r => if c.toNat < 128 then some (c.toNat, r) else (rd f r).map fun x => (c.toNat - 128 + 128 * x.1, x.2)
theorem ofNat_toNat {z : Nat} (h : z < 256) : (UInt8.ofNat z).toNat = z := by simp; omega
theorem rd_bytes : ∀ (f z : Nat) (r : List UInt8), (bytes z).length ≤ f → rd f (bytes z ++ r) = some (z, r)
  | 0, z, r, h => absurd (List.eq_nil_of_length_eq_zero (by omega)) (bytes_ne z)
  | f + 1, z, r, h => by
    by_cases h1 : z < 128
    · rw [bytes_small h1, List.cons_append, List.nil_append, rd, ofNat_toNat (by omega), if_pos h1]
    · rw [bytes_big h1] at h ⊢
      rw [List.cons_append, rd, ofNat_toNat (by omega), if_neg (by omega), rd_bytes f (z / 128) r (by simp only [List.length_cons] at h; omega)]
      simp only [Option.map_some]
      congr 2
      omega
/-- a number off the head -/
def rdNum (l : List UInt8) : Option (Int × List UInt8) := (rd 10 l).map fun x => (zag x.1, x.2)
theorem rdNum_num {n : Int} (h : I64 n) (r : List UInt8) : rdNum (num n ++ r) = some (n, r) := by
  unfold rdNum num
  rw [rd_bytes 10 _ r (num_len h), Option.map_some, zag_zig]
def nums (l : List Int) : List UInt8 := (l.map num).flatten
theorem nums_cons (n : Int) (l : List Int) : nums (n :: l) = num n ++ nums l := rfl
theorem nums_append (l m : List Int) : nums (l ++ m) = nums l ++ nums m := by simp [nums]
/-- the numbers that bytes begin with -/
theorem nums_inj : ∀ (l m : List Int), l.length = m.length → (∀ n ∈ l, I64 n) → (∀ n ∈ m, I64 n) → ∀ r s, nums l ++ r = nums m ++ s → l = m ∧ r = s
  | [], [], _, _, _, _, _, h => ⟨rfl, h⟩
  | a :: l, b :: m, hl, ha, hb, r, s, h => by
    rw [nums_cons, nums_cons, List.append_assoc, List.append_assoc] at h
    have h1 := rdNum_num (ha a (by simp)) (nums l ++ r)
    rw [h, rdNum_num (hb b (by simp))] at h1
    have h2 := Option.some.inj h1
    have e1 : b = a := congrArg Prod.fst h2
    have e2 : nums m ++ s = nums l ++ r := congrArg Prod.snd h2
    obtain ⟨e3, e4⟩ := nums_inj l m (by simpa using hl) (fun n h => ha n (by simp [h])) (fun n h => hb n (by simp [h])) r s e2.symm
    exact ⟨by rw [e1, e3], e4⟩
  | [], _ :: _, h, _, _, _, _, _ => by simp at h
  | _ :: _, [], h, _, _, _, _, _ => by simp at h

/-! what is written -/
def insL (b : List Ins) : List Int := (b.map fun x => [x.op, x.n, x.k]).flatten
def magic : List UInt8 := [77, 84, 82, 49]
def heads (c : Code) : List Int := [(c.kinds.length : Int), c.ins, c.outs, c.cells, c.stack]
def allL (c : Code) : List Int := heads c ++ (c.kinds ++ (c.init ++ ((c.body.length : Int) :: insL c.body)))
def write (c : Code) : List UInt8 := magic ++ nums (allL c)
/-- all its numbers are numbers of 64 bits -/
def Fits (c : Code) : Prop := ∀ n ∈ allL c, I64 n
theorem insL_inj : ∀ (b d : List Ins), b.length = d.length → insL b = insL d → b = d
  | [], [], _, _ => rfl
  | x :: b, y :: d, hl, h => by
    simp only [insL, List.map_cons, List.flatten_cons, List.cons_append, List.nil_append, List.cons.injEq] at h
    obtain ⟨h1, h2, h3, h4⟩ := h
    have := insL_inj b d (by simpa using hl) h4
    cases x; cases y
    simp_all
  | [], _ :: _, h, _ => by simp at h
  | _ :: _, [], h, _ => by simp at h
theorem insL_len (b : List Ins) : (insL b).length = 3 * b.length := by
  induction b with
  | nil => rfl
  | cons x b ih =>
    have e : insL (x :: b) = [x.op, x.n, x.k] ++ insL b := rfl
    rw [e, List.length_append, ih, List.length_cons]
    simp
    omega
/-- what is written says what it was -/
theorem write_inj {c d : Code} (hc : Fits c) (hd : Fits d) (ic : (c.init.length : Int) = c.cells) (id : (d.init.length : Int) = d.cells) (h : write c = write d) : c = d := by
  unfold write at h
  have h0 := List.append_cancel_left h
  unfold allL at h0
  rw [nums_append (heads c), nums_append (heads d)] at h0
  have fc : ∀ n ∈ heads c, I64 n := fun n hn => hc n (by unfold allL; simp [hn])
  have fd : ∀ n ∈ heads d, I64 n := fun n hn => hd n (by unfold allL; simp [hn])
  obtain ⟨e1, e2⟩ := nums_inj (heads c) (heads d) rfl fc fd _ _ h0
  simp only [heads, List.cons.injEq] at e1
  obtain ⟨a1, a2, a3, a4, a5, -⟩ := e1
  rw [nums_append c.kinds, nums_append d.kinds] at e2
  obtain ⟨e3, e4⟩ := nums_inj c.kinds d.kinds (by omega) (fun n hn => hc n (by unfold allL; simp [hn])) (fun n hn => hd n (by unfold allL; simp [hn])) _ _ e2
  rw [nums_append c.init, nums_append d.init] at e4
  obtain ⟨e5, e6⟩ := nums_inj c.init d.init (by omega) (fun n hn => hc n (by unfold allL; simp [hn])) (fun n hn => hd n (by unfold allL; simp [hn])) _ _ e4
  rw [nums_cons, nums_cons] at e6
  have hbl : I64 (c.body.length : Int) := hc _ (by unfold allL; simp)
  have hdl : I64 (d.body.length : Int) := hd _ (by unfold allL; simp)
  have e7 := rdNum_num hbl (nums (insL c.body))
  rw [e6, rdNum_num hdl] at e7
  have e8 := Option.some.inj e7
  have e9 : (d.body.length : Int) = c.body.length := congrArg Prod.fst e8
  have e10 : nums (insL d.body) = nums (insL c.body) := congrArg Prod.snd e8
  obtain ⟨e11, -⟩ := nums_inj (insL d.body) (insL c.body) (by rw [insL_len, insL_len]; omega) (fun n hn => hd n (by unfold allL; simp [hn])) (fun n hn => hc n (by unfold allL; simp [hn])) [] [] (by rw [List.append_nil, List.append_nil]; exact e10)
  have e12 := insL_inj d.body c.body (by omega) e11
  cases c; cases d
  simp_all

end Go.Proofs.YtfbhflpjhbemlaaGreat.Cd

/- The plain mathematics of code's Check (chapter 19): what the stack's kinds are, and what is wrong first; no program in sight. -/
namespace Go.Proofs.YtfbhflpjhbemlaaGreat.Cd
open Go.RowKit

/-- the stack's kinds (the top first) behind an instruction -/
def step (c : Code) (x : Ins) (l : List Int) : Option (List Int) :=
  if x.op = 1 then (if Bv.isv x.k x.n then some (x.k :: l) else none)
  else if x.op = 2 then (if x.k = 0 ∧ 0 ≤ x.n ∧ x.n < c.kinds.length then some (c.kinds.getD x.n.toNat 0 :: l) else none)
  else if x.op = 3 then (match l with
    | [] => none
    | a :: r => if x.k = 0 ∧ c.ins ≤ x.n ∧ x.n < c.kinds.length ∧ a = c.kinds.getD x.n.toNat 0 then some r else none)
  else if x.op = 4 then (match l with
    | [] => none
    | a :: r => if a = x.k ∧ Bv.unB x.n x.k 0 = true then some (a :: r) else none)
  else if x.op = 5 then (match l with
    | a :: b :: r => if a = x.k ∧ b = x.k ∧ Bv.binB x.n x.k 0 0 = true then some (Bv.toK x.n x.k :: r) else none
    | _ => none)
  else if x.op = 6 then (match l with
    | [] => none
    | a :: r => if a = x.n ∧ 0 < Bv.wid x.k then some (x.k :: r) else none)
  else if x.op = 7 then (if x.k = 0 then some l else none)
  else if x.op = 8 then (match l with
    | [] => none
    | a :: r => if x.k = 0 ∧ a = 1 then some r else none)
  else if x.n = 0 ∧ x.k = 0 ∧ l = [] then some [] else none

/-- l is the stack so many places further on: it must be what it is there, if that is known -/
def meet (l : List Int) : Nat → List (Option (List Int)) → Option (List (Option (List Int)))
  | _, [] => none
  | 0, none :: ps => some (some l :: ps)
  | 0, some m :: ps => if m = l then some (some l :: ps) else none
  | n + 1, p :: ps => (meet l n ps).map (p :: ·)

/-- the instructions in order; ps: what is known of the stack at each of them -/
def go (c : Code) : List Ins → List (Option (List Int)) → Bool
  | [], _ => true
  | _ :: _, [] => false
  | _ :: b, none :: ps => go c b ps
  | x :: b, some l :: ps =>
    match step c x l with
    | none => false
    | some m =>
      if c.stack < m.length then false
      else if x.op = 9 then go c b ps
      else if x.op = 7 then (if x.n < 0 then false else match meet m x.n.toNat ps with | none => false | some q => go c b q)
      else if x.op = 8 then (if x.n < 0 then false else match meet m 0 ps with | none => false | some q => match meet m x.n.toNat q with | none => false | some r => go c b r)
      else match meet m 0 ps with | none => false | some q => go c b q

def bad (c : Code) : Bool :=
  decide (c.ins < 0) || decide (c.outs < 0) || decide (c.cells < 0) || decide (c.stack < 0) || decide ((c.kinds.length : Int) < c.ins) || decide ((c.kinds.length : Int) < c.outs) || decide ((c.kinds.length : Int) < c.cells) || decide ((c.kinds.length : Int) < c.ins + c.outs + c.cells)
    || !(c.kinds.all fun k => decide (0 < Bv.wid k)) || ((c.init.length : Int) != c.cells) || !((c.init.zip (c.kinds.drop (c.ins + c.outs).toNat)).all fun p => Bv.isv p.2 p.1)
    || (match c.body.getLast? with | none => true | some x => x.op != 9) || !(c.body.all fun x => decide (1 ≤ x.op) && decide (x.op ≤ 9))
/-- what Check tells -/
def check (c : Code) : Int :=
  if 60000 < c.body.length ∨ 8000 < c.kinds.length ∨ 64 < c.stack then 2
  else if bad c then 40
  else if go c c.body (some [] :: List.replicate (c.body.length - 1) none) then 0 else 50

/-! the document's example, and what is wrong with codes like it -/
def small : Code := ⟨[2, 2], 1, 1, 0, [], 2, [⟨2, 0, 0⟩, ⟨1, 1, 2⟩, ⟨5, 3, 2⟩, ⟨3, 1, 0⟩, ⟨9, 0, 0⟩]⟩
theorem small_ok : check small = 0 := by decide +kernel
theorem small_1 : check { small with stack := 1 } = 50 := by decide +kernel
def wrongs : List Code :=
  [small, { small with ins := -1 }, { small with outs := 3 }, { small with kinds := [0, 2] }, { small with init := [1] }, { small with body := [] }, { small with body := small.body.take 4 }, { small with body := small.body.set 1 ⟨10, 1, 2⟩ },
   { small with body := small.body.set 1 ⟨1, 200, 2⟩ }, { small with body := small.body.set 0 ⟨2, 2, 0⟩ }, { small with body := small.body.set 3 ⟨3, 0, 0⟩ }, { small with body := small.body.set 2 ⟨5, 3, 6⟩ }, { small with body := small.body.set 2 ⟨5, 11, 2⟩ }, { small with body := small.body.set 0 ⟨2, 0, 1⟩ }, { small with body := small.body.set 4 ⟨9, 1, 0⟩ },
   { small with body := small.body.take 3 ++ [⟨9, 0, 0⟩] }, { small with body := small.body.set 3 ⟨8, 0, 0⟩ }, { small with body := small.body.set 1 ⟨3, 1, 0⟩ }, { small with body := [⟨7, 1, 0⟩, ⟨5, 99, 99⟩] ++ small.body }, { small with stack := 65 }, { small with stack := -1 }, { small with body := small.body.set 2 ⟨6, 6, 2⟩ }]
theorem wrongs_are : wrongs.map check = [0, 40, 40, 40, 40, 40, 40, 40, 50, 50, 50, 50, 50, 50, 50, 50, 50, 50, 0, 2, 40, 50] := by decide +kernel

/-! a value that is pushed -/
def pushC (n : Int) : Code := ⟨[5], 0, 1, 0, [], 1, [⟨1, n, 5⟩, ⟨3, 0, 0⟩, ⟨9, 0, 0⟩]⟩
theorem push_ok (n : Int) : check (pushC n) = 0 := by
  have h1 : step (pushC n) ⟨1, n, 5⟩ [] = some [5] := by
    have : Bv.isv 5 n = true := by simp [Bv.isv, Bv.wid, Bv.wrp]
    simp [step, this]
  unfold check
  rw [if_neg (by simp [pushC]), if_neg (by simp [bad, pushC, Bv.wid])]
  have hg : go (pushC n) (pushC n).body (some [] :: List.replicate ((pushC n).body.length - 1) none) = true := by
    show go (pushC n) [⟨1, n, 5⟩, ⟨3, 0, 0⟩, ⟨9, 0, 0⟩] [some [], none, none] = true
    rw [go, h1]
    simp [pushC, meet, go, step]
  rw [if_pos hg]
theorem push_len {n : Int} : (write (pushC n)).length = 4 + 5 + 1 + 1 + 2 + (num n).length + 6 := by
  have e : ∀ z, z < 128 → (bytes z).length = 1 := fun z h => by rw [bytes_small h]; rfl
  have e2 : ∀ n : Int, 0 ≤ n → n < 64 → (num n).length = 1 := fun n h0 h1 => by unfold num; exact e _ (by unfold zig; rw [if_pos h0]; omega)
  simp only [write, allL, heads, pushC, insL, nums, magic, List.map_cons, List.map_nil, List.flatten_cons, List.flatten_nil, List.length_append, List.length_cons, List.length_nil, List.cons_append, List.nil_append, List.append_nil]
  rw [e2 5 (by decide) (by decide), e2 0 (by decide) (by decide), e2 1 (by decide) (by decide), e2 3 (by decide) (by decide), e2 9 (by decide) (by decide)]
  have h3 := e2 ((0 + 1 : Nat) : Int) (by decide) (by decide)
  have h4 := e2 ((0 + 1 + 1 + 1 : Nat) : Int) (by decide) (by decide)
  simp only [Nat.zero_add] at h3 h4 ⊢
  rw [h3, h4]
  omega

/-! values that lie n high -/
def stackC (n : Nat) (s : Int) : Code := ⟨[2], 0, 1, 0, [], s, (List.range n).map (fun i => ⟨1, ((i % 100 : Nat) : Int), 2⟩) ++ (List.replicate (n - 1) ⟨5, 3, 2⟩ ++ [⟨3, 0, 0⟩, ⟨9, 0, 0⟩])⟩
end Go.Proofs.YtfbhflpjhbemlaaGreat.Cd

/- The plain mathematics of code's Check, on: values that lie n high; jumps. -/
namespace Go.Proofs.YtfbhflpjhbemlaaGreat.Cd
open Go.RowKit

/-- nothing known of so many -/
def nots (n : Nat) : List (Option (List Int)) := List.replicate n none
theorem nots_succ (n : Nat) : nots (n + 1) = none :: nots n := rfl
theorem meet_next (l : List Int) (n : Nat) : meet l 0 (nots (n + 1)) = some (some l :: nots n) := rfl

/-! values that lie n high -/
def pushI (i : Nat) : Ins := ⟨1, ((i % 100 : Nat) : Int), 2⟩
theorem push_isv (i : Nat) : Bv.isv 2 ((i % 100 : Nat) : Int) = true := by
  have h : i % 100 < 100 := Nat.mod_lt _ (by decide)
  simp only [Bv.isv, Bv.wid, Bv.wrp, Bool.and_eq_true, decide_eq_true_eq, beq_iff_eq]
  refine ⟨by decide, ?_⟩
  rw [if_neg (by decide), if_pos trivial]
  omega
theorem step_push (c : Code) (i : Nat) (l : List Int) : step c (pushI i) l = some (2 :: l) := by
  unfold step pushI
  rw [if_pos rfl]
  simp only
  rw [if_pos (push_isv i)]
def rep2 (n : Nat) : List Int := List.replicate n 2
theorem push_run (c : Code) : ∀ (m i k : Nat) (rest : List Ins) (x : Ins), ((k + m : Nat) : Int) ≤ c.stack →
    go c ((List.range' i m).map pushI ++ (x :: rest)) (some (rep2 k) :: nots (m + rest.length)) = go c (x :: rest) (some (rep2 (k + m)) :: nots rest.length)
  | 0, _, k, rest, x, _ => by simp
  | m + 1, i, k, rest, x, h => by
    have e : (List.range' i (m + 1)).map pushI ++ (x :: rest) = pushI i :: ((List.range' (i + 1) m).map pushI ++ (x :: rest)) := rfl
    rw [e, go, step_push]
    simp only
    have hl : (2 :: rep2 k) = rep2 (k + 1) := rfl
    rw [hl, if_neg (by simp [rep2]; omega), if_neg (by simp [pushI]), if_neg (by simp [pushI]), if_neg (by simp [pushI]), show m + 1 + rest.length = m + rest.length + 1 by omega, meet_next]
    simp only
    rw [push_run c m (i + 1) (k + 1) rest x (by omega), show k + 1 + m = k + (m + 1) by omega]
theorem push_over (c : Code) (m i : Nat) (k : Nat) (rest : List Ins) (h : c.stack < ((k + 1 : Nat) : Int)) (ps : List (Option (List Int))) : go c ((List.range' i (m + 1)).map pushI ++ rest) (some (rep2 k) :: ps) = false := by
  have e : (List.range' i (m + 1)).map pushI ++ rest = pushI i :: ((List.range' (i + 1) m).map pushI ++ rest) := rfl
  rw [e, go, step_push]
  simp only
  rw [if_pos (by simp [rep2]; omega)]
def addI : Ins := ⟨5, 3, 2⟩
theorem step_add (c : Code) (k : Nat) : step c addI (rep2 (k + 2)) = some (rep2 (k + 1)) := by
  have h : Bv.binB 3 2 0 0 = true := by decide
  have e : rep2 (k + 2) = 2 :: 2 :: rep2 k := rfl
  rw [e]
  unfold step addI
  rw [if_neg (by decide), if_neg (by decide), if_neg (by decide), if_neg (by decide), if_pos (by decide)]
  simp only
  rw [if_pos ⟨trivial, trivial, h⟩]
  rfl
theorem add_run (c : Code) : ∀ (m : Nat) (rest : List Ins) (x : Ins), ((m + 1 : Nat) : Int) ≤ c.stack →
    go c (List.replicate m addI ++ (x :: rest)) (some (rep2 (m + 1)) :: nots (m + rest.length)) = go c (x :: rest) (some (rep2 1) :: nots rest.length)
  | 0, rest, x, _ => by simp
  | m + 1, rest, x, h => by
    rw [List.replicate_succ, List.cons_append, go, step_add]
    simp only
    rw [if_neg (by simp [rep2]; omega), if_neg (by simp [addI]), if_neg (by simp [addI]), if_neg (by simp [addI]), show m + 1 + rest.length = m + rest.length + 1 by omega, meet_next]
    simp only
    exact add_run c m rest x (by omega)
def stackB (n : Nat) : List Ins := (List.range' 0 n).map pushI ++ (List.replicate (n - 1) addI ++ [⟨3, 0, 0⟩, ⟨9, 0, 0⟩])
def stackK (n : Nat) (s : Int) : Code := ⟨[2], 0, 1, 0, [], s, stackB n⟩
theorem stackB_len (n : Nat) (h : 1 ≤ n) : (stackB n).length = 2 * n + 1 := by
  simp [stackB]
  omega
theorem stack_go (n : Nat) (s : Int) (h1 : 1 ≤ n) (h0 : 0 ≤ s) : go (stackK n s) (stackB n) (some [] :: nots (2 * n)) = decide ((n : Int) ≤ s) := by
  obtain ⟨m, rfl⟩ : ∃ m, n = m + 1 := ⟨n - 1, by omega⟩
  by_cases h : ((m + 1 : Nat) : Int) ≤ s
  · rw [decide_eq_true h]
    unfold stackB
    have e : List.replicate (m + 1 - 1) addI ++ [⟨3, 0, 0⟩, ⟨9, 0, 0⟩] = List.replicate m addI ++ ((⟨3, 0, 0⟩ : Ins) :: [⟨9, 0, 0⟩]) := rfl
    rw [e]
    cases m with
    | zero =>
      have := push_run (stackK 1 s) 1 0 0 [⟨9, 0, 0⟩] ⟨3, 0, 0⟩ (by simpa [stackK] using h)
      refine Eq.trans this ?_
      simp [go, step, stackK, rep2, nots, meet]
      omega
    | succ m =>
      have e2 : List.replicate (m + 1) addI ++ ((⟨3, 0, 0⟩ : Ins) :: [⟨9, 0, 0⟩]) = addI :: (List.replicate m addI ++ ((⟨3, 0, 0⟩ : Ins) :: [⟨9, 0, 0⟩])) := rfl
      have p := push_run (stackK (m + 1 + 1) s) (m + 1 + 1) 0 0 (List.replicate m addI ++ ((⟨3, 0, 0⟩ : Ins) :: [⟨9, 0, 0⟩])) addI (by simpa [stackK] using h)
      have el : (List.replicate m addI ++ ((⟨3, 0, 0⟩ : Ins) :: [⟨9, 0, 0⟩])).length = m + 2 := by simp
      rw [el, show m + 1 + 1 + (m + 2) = 2 * (m + 1 + 1) by omega] at p
      rw [e2]
      refine Eq.trans p ?_
      have q := add_run (stackK (m + 1 + 1) s) (m + 1) [⟨9, 0, 0⟩] ⟨3, 0, 0⟩ (by simpa [stackK] using h)
      rw [show m + 1 + [(⟨9, 0, 0⟩ : Ins)].length = m + 2 by simp] at q
      rw [show 0 + (m + 1 + 1) = m + 1 + 1 by omega]
      refine Eq.trans q ?_
      simp [go, step, stackK, rep2, nots, meet]
      omega
  · rw [decide_eq_false h]
    unfold stackB
    obtain ⟨k, hk⟩ : ∃ k : Nat, s = (k : Int) := ⟨s.toNat, by omega⟩
    subst hk
    have hkm : k ≤ m := by omega
    have es : (List.range' 0 (m + 1)).map pushI = (List.range' 0 k).map pushI ++ (pushI k :: (List.range' (k + 1) (m - k)).map pushI) := by
      rw [← List.map_cons, ← List.map_append]
      congr 1
      have : List.range' 0 k ++ List.range' (0 + k) (m + 1 - k) = List.range' 0 (k + (m + 1 - k)) := by simpa using List.range'_append (s := 0) (m := k) (n := m + 1 - k) (step := 1)
      rw [show k + (m + 1 - k) = m + 1 by omega, show m + 1 - k = m - k + 1 by omega, Nat.zero_add] at this
      rw [← this]
      rfl
    rw [es, List.append_assoc, List.cons_append]
    generalize hrest : (List.range' (k + 1) (m - k)).map pushI ++ (List.replicate (m + 1 - 1) addI ++ [⟨3, 0, 0⟩, ⟨9, 0, 0⟩]) = rest
    have hlen : rest.length = 2 * (m + 1) - k := by
      rw [← hrest]
      simp
      omega
    have p := push_run (stackK (m + 1) (k : Int)) k 0 0 rest (pushI k) (by simp [stackK])
    rw [hlen, show k + (2 * (m + 1) - k) = 2 * (m + 1) by omega] at p
    refine Eq.trans p ?_
    rw [Nat.zero_add, go, step_push]
    simp only
    rw [if_pos (by simp [rep2, stackK]; omega)]
theorem stack_check (n : Nat) (s : Int) (h1 : 1 ≤ n) (hn : n ≤ 70) (h0 : 0 ≤ s) : check (stackK n s) = if 64 < s then 2 else if s < n then 50 else 0 := by
  unfold check
  have hl := stackB_len n h1
  by_cases h : 64 < s
  · rw [if_pos (.inr (.inr h)), if_pos h]
  · have hall : (stackB n).all (fun x => decide (1 ≤ x.op) && decide (x.op ≤ 9)) = true := by
      unfold stackB
      rw [List.all_append, List.all_append, Bool.and_eq_true, Bool.and_eq_true]
      refine ⟨List.all_eq_true.2 fun x hx => ?_, List.all_eq_true.2 fun x hx => ?_, by decide⟩
      · obtain ⟨i, _, rfl⟩ := List.mem_map.1 hx; rfl
      · obtain rfl := List.eq_of_mem_replicate hx; decide
    have hlast : (stackB n).getLast? = some ⟨9, 0, 0⟩ := by
      unfold stackB
      simp
    have hb : bad (stackK n s) = false := by
      have e : (stackK n s).body = stackB n := rfl
      unfold bad
      rw [e, hall, hlast]
      have hd : decide (s < 0) = false := by rw [decide_eq_false_iff_not]; omega
      simp [stackK, Bv.wid]
      exact hd
    have hk1 : (stackK n s).body.length = 2 * n + 1 := hl
    have hk2 : (stackK n s).kinds.length = 1 := rfl
    have hk3 : (stackK n s).stack = s := rfl
    rw [if_neg (by rw [hk1, hk2, hk3]; omega), hb, if_neg (by simp), if_neg h, hk1, show 2 * n + 1 - 1 = 2 * n by omega]
    have := stack_go n s h1 h0
    have e : go (stackK n s) (stackK n s).body (some [] :: List.replicate (2 * n) none) = decide ((n : Int) ≤ s) := this
    rw [e]
    by_cases h2 : (n : Int) ≤ s
    · rw [decide_eq_true h2, if_pos rfl, if_neg (by omega)]
    · rw [decide_eq_false h2, if_neg (by simp), if_pos (by omega)]

/-! jumps -/
def j0 : Ins := ⟨7, 0, 0⟩
def endI : Ins := ⟨9, 0, 0⟩
def fine (p : Option (List Int)) : Prop := p = none ∨ p = some []
theorem meet_fine : ∀ (n : Nat) (ps : List (Option (List Int))), (∀ p ∈ ps, fine p) → n < ps.length → ∃ q, meet [] n ps = some q ∧ q.length = ps.length ∧ ∀ p ∈ q, fine p
  | 0, none :: ps, h, _ => ⟨_, rfl, rfl, fun p hp => by
      rcases List.mem_cons.1 hp with rfl | hp
      · exact .inr rfl
      · exact h p (by simp [hp])⟩
  | 0, some m :: ps, h, _ => by
    have hm : m = [] := by rcases h (some m) (by simp) with h | h <;> simp_all
    subst hm
    exact ⟨_, rfl, rfl, h⟩
  | n + 1, p :: ps, h, hl => by
    obtain ⟨q, h1, h2, h3⟩ := meet_fine n ps (fun x hx => h x (by simp [hx])) (by simpa using hl)
    refine ⟨p :: q, by simp [meet, h1], by simp [h2], fun x hx => ?_⟩
    rcases List.mem_cons.1 hx with rfl | hx
    · exact h _ (by simp)
    · exact h3 x hx
  | _, [], _, hl => by simp at hl
theorem meet_far : ∀ (n : Nat) (ps : List (Option (List Int))) (l : List Int), ps.length ≤ n → meet l n ps = none
  | 0, [], _, _ => rfl
  | _ + 1, [], _, _ => rfl
  | 0, _ :: _, _, h => by simp at h
  | n + 1, p :: ps, l, h => by simp [meet, meet_far n ps l (by simpa using h)]
theorem jumps_run (c : Code) (hs : 0 ≤ c.stack) : ∀ (m : Nat) (ps : List (Option (List Int))), ps.length = m + 1 → (∀ p ∈ ps, fine p) → go c (List.replicate m j0 ++ [endI]) ps = true
  | 0, [p], _, h => by
    rcases h p (by simp) with rfl | rfl
    · simp [go]
    · simp [go, step, endI]
      omega
  | m + 1, p :: ps, hl, h => by
    have ih := fun q h1 h2 => jumps_run c hs m q h1 h2
    rw [List.replicate_succ, List.cons_append]
    rcases h p (by simp) with rfl | rfl
    · rw [go]
      exact ih ps (by simpa using hl) (fun x hx => h x (by simp [hx]))
    · obtain ⟨q, h1, h2, h3⟩ := meet_fine 0 ps (fun x hx => h x (by simp [hx])) (by simp at hl; omega)
      have e : step c j0 [] = some [] := by simp [step, j0]
      rw [go, e]
      simp only
      rw [if_neg (by simp; omega), if_neg (by simp [j0]), if_pos (show j0.op = 7 from rfl), if_neg (by simp [j0]), show (j0.n.toNat) = 0 from rfl, h1]
      exact ih q (by rw [h2]; simpa using hl) h3
  | 0, [], h, _ => by simp at h
  | _ + 1, [], h, _ => by simp at h
  | 0, _ :: _ :: _, h, _ => by simp at h
theorem jumps_ahead (c : Code) (hs : 0 ≤ c.stack) : ∀ (m : Nat) (x : Ins) (rest : List Ins), go c (List.replicate m j0 ++ (x :: rest)) (some [] :: nots (m + rest.length)) = go c (x :: rest) (some [] :: nots rest.length)
  | 0, x, rest => by simp
  | m + 1, x, rest => by
    have e : step c j0 [] = some [] := by simp [step, j0]
    rw [List.replicate_succ, List.cons_append, go, e]
    simp only
    rw [if_neg (by simp; omega), if_neg (by simp [j0]), if_pos (show j0.op = 7 from rfl), if_neg (by simp [j0]), show (j0.n.toNat) = 0 from rfl, show m + 1 + rest.length = m + rest.length + 1 by omega, meet_next]
    exact jumps_ahead c hs m x rest
theorem nots_fine (n : Nat) : ∀ p ∈ nots n, fine p := fun _ hp => .inl (List.eq_of_mem_replicate hp)
/-- the bodies: r jumps behind, then the end -/
def jumpB (at_ r : Nat) (by_ : Int) : List Ins := List.replicate at_ j0 ++ (⟨7, by_, 0⟩ :: (List.replicate r j0 ++ [endI]))
def whenB (at_ r : Nat) (by_ : Int) : List Ins := List.replicate at_ j0 ++ (⟨1, 1, 1⟩ :: ⟨8, by_, 0⟩ :: (List.replicate r j0 ++ [endI]))
theorem jump_go (c : Code) (hs : 0 ≤ c.stack) (at_ r : Nat) (by_ : Int) : go c (jumpB at_ r by_) (some [] :: nots (at_ + (r + 1))) = decide (0 ≤ by_ ∧ by_ ≤ r) := by
  unfold jumpB
  have hl : (List.replicate r j0 ++ [endI]).length = r + 1 := by simp
  have p := jumps_ahead c hs at_ ⟨7, by_, 0⟩ (List.replicate r j0 ++ [endI])
  rw [hl] at p
  rw [p, go]
  have e : step c ⟨7, by_, 0⟩ [] = some [] := by simp [step]
  rw [e]
  simp only
  rw [if_neg (by simp; omega), if_neg (by decide), if_pos trivial]
  by_cases h0 : by_ < 0
  · rw [if_pos h0, decide_eq_false (by omega)]
  · rw [if_neg h0]
    by_cases h : by_ ≤ r
    · obtain ⟨q, h1, h2, h3⟩ := meet_fine by_.toNat (nots (r + 1)) (nots_fine _) (by simp [nots]; omega)
      rw [h1, decide_eq_true ⟨by omega, h⟩]
      exact jumps_run c hs r q (by rw [h2]; simp [nots]) h3
    · rw [meet_far _ _ _ (by simp [nots]; omega), decide_eq_false (by omega)]
theorem when_go (c : Code) (hs : 1 ≤ c.stack) (at_ r : Nat) (by_ : Int) : go c (whenB at_ r by_) (some [] :: nots (at_ + (r + 2))) = decide (0 ≤ by_ ∧ by_ ≤ r) := by
  unfold whenB
  have hl : (⟨8, by_, 0⟩ :: (List.replicate r j0 ++ [endI])).length = r + 2 := by simp
  have p := jumps_ahead c (by omega) at_ ⟨1, 1, 1⟩ (⟨8, by_, 0⟩ :: (List.replicate r j0 ++ [endI]))
  rw [hl] at p
  rw [p, go]
  have e : step c ⟨1, 1, 1⟩ [] = some [1] := by
    have : Bv.isv 1 1 = true := by decide
    simp [step, this]
  rw [e]
  simp only
  rw [if_neg (by simp; omega), if_neg (by decide), if_neg (by decide), if_neg (by decide), show r + 2 = r + 1 + 1 by omega, meet_next]
  simp only
  rw [go]
  have e2 : step c ⟨8, by_, 0⟩ [1] = some [] := by simp [step]
  rw [e2]
  simp only
  rw [if_neg (by simp; omega), if_neg (by decide), if_neg (by decide), if_pos trivial]
  by_cases h0 : by_ < 0
  · rw [if_pos h0, decide_eq_false (by omega)]
  · rw [if_neg h0]
    obtain ⟨q, h1, h2, h3⟩ := meet_fine 0 (nots (r + 1)) (nots_fine _) (by simp [nots])
    rw [h1]
    simp only
    by_cases h : by_ ≤ r
    · obtain ⟨q2, k1, k2, k3⟩ := meet_fine by_.toNat q h3 (by rw [h2]; simp [nots]; omega)
      rw [k1, decide_eq_true ⟨by omega, h⟩]
      exact jumps_run c (by omega) r q2 (by rw [k2, h2]; simp [nots]) k3
    · rw [meet_far _ _ _ (by rw [h2]; simp [nots]; omega), decide_eq_false (by omega)]
theorem last_j (r : Nat) (x : Ins) : (x :: (List.replicate r j0 ++ [endI])).getLast? = some endI := by
  rw [← List.cons_append, List.getLast?_append]
  rfl
theorem all_j (r : Nat) : (List.replicate r j0).all (fun x => decide (1 ≤ x.op) && decide (x.op ≤ 9)) = true := List.all_eq_true.2 fun x hx => by obtain rfl := List.eq_of_mem_replicate hx; decide
theorem all_je (r : Nat) : (List.replicate r j0 ++ [endI]).all (fun x => decide (1 ≤ x.op) && decide (x.op ≤ 9)) = true := by rw [List.all_append, all_j]; decide
def jumpC (b : List Ins) : Code := ⟨[], 0, 0, 0, [], 1, b⟩
theorem jumpC_check (b : List Ins) (hl : b.length ≤ 1000) (h9 : b.getLast? = some endI) (ha : (b.all fun x => decide (1 ≤ x.op) && decide (x.op ≤ 9)) = true) : check (jumpC b) = if go (jumpC b) b (some [] :: nots (b.length - 1)) then 0 else 50 := by
  have hb : bad (jumpC b) = false := by
    have e : (jumpC b).body = b := rfl
    unfold bad
    rw [e, h9, ha]
    simp [jumpC, endI]
  unfold check
  rw [if_neg (by simp [jumpC]; omega), hb, if_neg (by simp)]
  rfl
theorem jump_check (at_ r : Nat) (by_ : Int) (h : at_ + r ≤ 500) : check (jumpC (jumpB at_ r by_)) = if 0 ≤ by_ ∧ by_ ≤ r then 0 else 50 := by
  have hl : (jumpB at_ r by_).length = at_ + (r + 2) := by simp [jumpB]
  rw [jumpC_check _ (by omega) (by unfold jumpB; rw [List.getLast?_append, last_j]; rfl) (by unfold jumpB; rw [List.all_append, all_j, List.all_cons, all_je]; rfl), hl, show at_ + (r + 2) - 1 = at_ + (r + 1) by omega, jump_go _ (show (0 : Int) ≤ 1 by decide)]
  by_cases hc : 0 ≤ by_ ∧ by_ ≤ r
  · rw [decide_eq_true hc, if_pos rfl, if_pos hc]
  · rw [decide_eq_false hc, if_neg (by simp), if_neg hc]
theorem when_check (at_ r : Nat) (by_ : Int) (h : at_ + r ≤ 500) : check (jumpC (whenB at_ r by_)) = if 0 ≤ by_ ∧ by_ ≤ r then 0 else 50 := by
  have hl : (whenB at_ r by_).length = at_ + (r + 3) := by simp [whenB]
  rw [jumpC_check _ (by omega) (by unfold whenB; rw [List.getLast?_append, List.getLast?_cons_cons, last_j]; rfl) (by unfold whenB; rw [List.all_append, all_j, List.all_cons, List.all_cons, all_je]; rfl), hl, show at_ + (r + 3) - 1 = at_ + (r + 2) by omega, when_go _ (show (1 : Int) ≤ 1 by decide)]
  by_cases hc : 0 ≤ by_ ∧ by_ ≤ r
  · rw [decide_eq_true hc, if_pos rfl, if_pos hc]
  · rw [decide_eq_false hc, if_neg (by simp), if_neg hc]

end Go.Proofs.YtfbhflpjhbemlaaGreat.Cd

/- The plain mathematics of the walk over code: what is known of all instructions in one list. -/
namespace Go.Proofs.YtfbhflpjhbemlaaGreat.Cd
open Go.RowKit

abbrev Kn := List (Option (List Int))
theorem meet_get (l : List Int) : ∀ (n : Nat) (ps : Kn), meet l n ps = match ps[n]? with
    | none => none
    | some none => some (ps.set n (some l))
    | some (some m) => if m = l then some (ps.set n (some l)) else none
  | n, [] => by cases n <;> rfl
  | 0, none :: ps => rfl
  | 0, some m :: ps => rfl
  | n + 1, p :: ps => by
    have ih := meet_get l n ps
    rw [meet, ih, List.getElem?_cons_succ]
    cases h : ps[n]? with
    | none => rfl
    | some q =>
      cases q with
      | none => rfl
      | some m =>
        simp only
        split <;> rfl
/-- the stack m comes from the instruction at_ to the one n and 1 behind -/
def lead (m : List Int) (at_ : Nat) (n : Int) (qs : Kn) : Option Kn :=
  if n < 0 then none else
    match qs[at_ + 1 + n.toNat]? with
    | none => none
    | some none => some (qs.set (at_ + 1 + n.toNat) (some m))
    | some (some k) => if k = m then some qs else none
theorem set_same {α : Type} : ∀ (l : List α) (i : Nat) (x : α), l[i]? = some x → l.set i x = l
  | [], _, _, h => by simp at h
  | a :: l, 0, x, h => by simp at h; simp [h]
  | a :: l, i + 1, x, h => by simp at h; simp [set_same l i x h]
theorem lead_meet (m : List Int) (at_ : Nat) (n : Int) (qs : Kn) (h : 0 ≤ n) : meet m n.toNat (qs.drop (at_ + 1)) = (lead m at_ n qs).map (List.drop (at_ + 1)) := by
  rw [meet_get, lead, if_neg (by omega), List.getElem?_drop]
  have e : ∀ x, (qs.drop (at_ + 1)).set n.toNat x = (qs.set (at_ + 1 + n.toNat) x).drop (at_ + 1) := fun x => by
    rw [List.drop_set, if_neg (by omega)]
    congr 1
    omega
  cases h1 : qs[at_ + 1 + n.toNat]? with
  | none => rfl
  | some q =>
    cases q with
    | none => simp only [Option.map_some]; rw [e]
    | some k =>
      simp only
      by_cases hk : k = m
      · rw [if_pos hk, if_pos hk, e, Option.map_some, set_same qs _ _ (by rw [h1, hk])]
      · rw [if_neg hk, if_neg hk]; rfl
/-- what one instruction does -/
def act (c : Code) (x : Ins) (l : List Int) (at_ : Nat) (qs : Kn) : Option Kn :=
  match step c x l with
  | none => none
  | some m =>
    if c.stack < m.length then none
    else if x.op = 9 then some qs
    else if x.op = 7 then lead m at_ x.n qs
    else if x.op = 8 then (lead m at_ 0 qs).bind fun q => lead m at_ x.n q
    else lead m at_ 0 qs
theorem drop_at {α : Type} {l : List α} {i : Nat} {x : α} (h : l[i]? = some x) : l.drop i = x :: l.drop (i + 1) := by
  have hl := (List.getElem?_eq_some_iff.1 h)
  rw [List.drop_eq_getElem_cons hl.1, hl.2]
theorem go_skip {c : Code} {body : List Ins} {x : Ins} {at_ : Nat} {qs : Kn} (hx : body[at_]? = some x) (hq : qs[at_]? = some none) : go c (body.drop at_) (qs.drop at_) = go c (body.drop (at_ + 1)) (qs.drop (at_ + 1)) := by
  rw [drop_at hx, drop_at hq, go]
theorem go_end {c : Code} {body : List Ins} {qs : Kn} : go c (body.drop body.length) qs = true := by rw [List.drop_length]; cases qs <;> rfl
theorem lead_neg (m : List Int) (at_ : Nat) (n : Int) (qs : Kn) (h : n < 0) : lead m at_ n qs = none := by rw [lead, if_pos h]
theorem go_act {c : Code} {body : List Ins} {x : Ins} {l : List Int} {at_ : Nat} {qs : Kn} (hx : body[at_]? = some x) (hq : qs[at_]? = some (some l)) :
    go c (body.drop at_) (qs.drop at_) = match act c x l at_ qs with | none => false | some q => go c (body.drop (at_ + 1)) (q.drop (at_ + 1)) := by
  rw [drop_at hx, drop_at hq, go, act]
  cases step c x l with
  | none => rfl
  | some m =>
    simp only
    by_cases h1 : c.stack < m.length
    · rw [if_pos h1, if_pos h1]
    rw [if_neg h1, if_neg h1]
    by_cases h9 : x.op = 9
    · rw [if_pos h9, if_pos h9]
    rw [if_neg h9, if_neg h9]
    by_cases h7 : x.op = 7
    · rw [if_pos h7, if_pos h7]
      by_cases h0 : x.n < 0
      · rw [if_pos h0, lead_neg _ _ _ _ h0]
      · rw [if_neg h0, lead_meet _ _ _ _ (by omega)]
        cases lead m at_ x.n qs <;> rfl
    rw [if_neg h7, if_neg h7]
    by_cases h8 : x.op = 8
    · rw [if_pos h8, if_pos h8]
      have e0 := lead_meet m at_ 0 qs (by decide)
      simp only [Int.toNat_zero] at e0
      by_cases h0 : x.n < 0
      · rw [if_pos h0]
        cases lead m at_ 0 qs with
        | none => rfl
        | some q => rw [Option.bind_some, lead_neg _ _ _ _ h0]
      · rw [if_neg h0, e0]
        cases lead m at_ 0 qs with
        | none => rfl
        | some q =>
          simp only [Option.map_some, Option.bind_some]
          rw [lead_meet _ _ _ _ (by omega)]
          cases lead m at_ x.n q <;> rfl
    · rw [if_neg h8, if_neg h8]
      have e0 := lead_meet m at_ 0 qs (by decide)
      simp only [Int.toNat_zero] at e0
      rw [e0]
      cases lead m at_ 0 qs <;> rfl
/-- stacks that can be -/
def Sk (c : Code) (l : List Int) : Prop := (l.length : Int) ≤ c.stack ∧ ∀ k ∈ l, 1 ≤ k ∧ k ≤ 9
def Sks (c : Code) (qs : Kn) : Prop := ∀ l, some l ∈ qs → Sk c l
theorem lead_sks {c : Code} {m : List Int} {at_ : Nat} {n : Int} {qs q : Kn} (hm : Sk c m) (hq : Sks c qs) (h : lead m at_ n qs = some q) : Sks c q ∧ q.length = qs.length := by
  unfold lead at h
  split at h
  · cases h
  · split at h
    · cases h
    · obtain rfl := Option.some.inj h
      refine ⟨fun l hl => ?_, by simp⟩
      rcases List.mem_or_eq_of_mem_set hl with h1 | h1
      · exact hq l h1
      · obtain rfl := Option.some.inj h1
        exact hm
    · split at h
      · obtain rfl := Option.some.inj h
        exact ⟨hq, rfl⟩
      · cases h
theorem wid_k {k : Int} (h : 0 < Bv.wid k) : 1 ≤ k ∧ k ≤ 9 := by
  unfold Bv.wid at h
  repeat' split at h
  all_goals first | omega | simp_all
/-- the top is of that kind -/
def onTop (l : List Int) (k : Int) (f : List Int → Option Kn) : Option Kn :=
  match l with
  | [] => none
  | a :: r => if a = k then f r else none
theorem onTop_yes (k : Int) (r : List Int) (f : List Int → Option Kn) : onTop (k :: r) k f = f r := by rw [onTop, if_pos rfl]
theorem onTop_no {l : List Int} {k : Int} (h : l.head? ≠ some k) (f : List Int → Option Kn) : onTop l k f = none := by
  cases l with
  | nil => rfl
  | cons a r => rw [onTop, if_neg (fun e => h (by rw [e]; rfl))]
theorem top_or (l : List Int) (k : Int) : (∃ r, l = k :: r) ∨ l.head? ≠ some k := by
  cases l with
  | nil => right; simp
  | cons a r =>
    by_cases h : a = k
    · left; exact ⟨r, by rw [h]⟩
    · right; simpa using h
def rule (c : Code) (x : Ins) (l : List Int) (at_ : Nat) (qs : Kn) : Option Kn :=
  if x.op = 1 then (if Bv.isv x.k x.n then (if (l.length : Int) < c.stack then lead (x.k :: l) at_ 0 qs else none) else none)
  else if x.op = 2 then (if 0 ≤ x.n ∧ x.n < c.kinds.length then (if (l.length : Int) < c.stack then lead (c.kinds.getD x.n.toNat 0 :: l) at_ 0 qs else none) else none)
  else if x.op = 3 then (if (0 ≤ x.n ∧ x.n < c.kinds.length) ∧ c.ins ≤ x.n then onTop l (c.kinds.getD x.n.toNat 0) (fun r => lead r at_ 0 qs) else none)
  else if x.op = 4 then (if Bv.unB x.n x.k 0 then onTop l x.k (fun r => lead (x.k :: r) at_ 0 qs) else none)
  else if x.op = 5 then (if Bv.binB x.n x.k 0 0 then onTop l x.k (fun r => onTop r x.k (fun r => lead (Bv.toK x.n x.k :: r) at_ 0 qs)) else none)
  else if x.op = 6 then (if 0 < Bv.wid x.k then onTop l x.n (fun r => lead (x.k :: r) at_ 0 qs) else none)
  else if x.op = 7 then lead l at_ x.n qs
  else if x.op = 8 then onTop l 1 (fun r => (lead r at_ 0 qs).bind fun q => lead r at_ x.n q)
  else if l = [] then some qs else none
/-- fields that an instruction does not have are nought -/
def bare (x : Ins) : Bool := if x.op = 9 then (x.n == 0) && (x.k == 0) else if x.op = 2 ∨ x.op = 3 ∨ x.op = 7 ∨ x.op = 8 then x.k == 0 else true
theorem act_rule (c : Code) (x : Ins) (l : List Int) (at_ : Nat) (qs : Kn) (h1 : 1 ≤ x.op) (h9 : x.op ≤ 9) (hi : 0 ≤ c.ins) (hs : Sk c l) : act c x l at_ qs = if bare x then rule c x l at_ qs else none := by
  obtain ⟨op, n, k⟩ := x
  simp only at h1 h9
  have hl := hs.1
  rcases (show op = 1 ∨ op = 2 ∨ op = 3 ∨ op = 4 ∨ op = 5 ∨ op = 6 ∨ op = 7 ∨ op = 8 ∨ op = 9 by omega) with rfl | rfl | rfl | rfl | rfl | rfl | rfl | rfl | rfl
  · simp [act, step, bare, rule]
    by_cases hv : Bv.isv k n = true
    · simp only [hv, if_true, List.length_cons]
      by_cases h : (l.length : Int) < c.stack
      · rw [if_neg (by omega), if_pos h]
      · rw [if_pos (by omega), if_neg h]
    · simp [hv]
  · simp [act, step, bare, rule]
    by_cases hk : k = 0
    · simp only [hk, true_and, if_true]
      by_cases hn : 0 ≤ n ∧ n < c.kinds.length
      · rw [if_pos hn, if_pos hn]
        simp only [List.length_cons]
        by_cases h : (l.length : Int) < c.stack
        · rw [if_neg (by omega), if_pos h]
        · rw [if_pos (by omega), if_neg h]
      · rw [if_neg hn, if_neg hn]
    · simp [hk]
  · simp [act, step, bare, rule]
    cases l with
    | nil => simp [onTop]
    | cons a r =>
      simp only [List.length_cons] at hl
      simp only [onTop]
      by_cases hk : k = 0
      · simp only [hk, true_and, if_true]
        by_cases hn : c.ins ≤ n ∧ n < c.kinds.length
        · rw [if_pos (show (0 ≤ n ∧ n < (c.kinds.length : Int)) ∧ c.ins ≤ n by omega)]
          by_cases ha : a = c.kinds[n.toNat]?.getD 0
          · rw [if_pos ⟨hn.1, hn.2, ha⟩, if_pos ha]
            simp only
            rw [if_neg (by omega)]
          · rw [if_neg (fun h => ha h.2.2), if_neg ha]
        · rw [if_neg (fun h => hn ⟨h.1, h.2.1⟩), if_neg (by omega)]
      · simp [hk]
  · simp [act, step, bare, rule]
    cases l with
    | nil => simp [onTop]
    | cons a r =>
      simp only [List.length_cons] at hl
      simp only [onTop]
      by_cases hb : Bv.unB n k 0 = true
      · simp only [hb, and_true, if_true]
        by_cases ha : a = k
        · rw [if_pos ha, if_pos ha]
          simp only [List.length_cons]
          rw [if_neg (by omega), ha]
        · rw [if_neg ha, if_neg ha]
      · simp [hb]
  · simp [act, step, bare, rule]
    cases l with
    | nil => simp [onTop]
    | cons a r =>
      cases r with
      | nil => simp [onTop]
      | cons b r =>
        simp only [List.length_cons] at hl
        simp only [onTop]
        by_cases hb : Bv.binB n k 0 0 = true
        · simp only [hb, and_true, if_true]
          by_cases ha : a = k
          · by_cases hb : b = k
            · rw [if_pos ⟨ha, hb⟩, if_pos ha, if_pos hb]
              simp only [List.length_cons]
              rw [if_neg (by omega)]
            · rw [if_neg (fun h => hb h.2), if_pos ha, if_neg hb]
          · rw [if_neg (fun h => ha h.1), if_neg ha]
        · simp [hb]
  · simp [act, step, bare, rule]
    cases l with
    | nil => simp [onTop]
    | cons a r =>
      simp only [List.length_cons] at hl
      simp only [onTop]
      by_cases hb : 0 < Bv.wid k
      · simp only [hb, and_true, if_true]
        by_cases ha : a = n
        · rw [if_pos ha, if_pos ha]
          simp only [List.length_cons]
          rw [if_neg (by omega)]
        · rw [if_neg ha, if_neg ha]
      · simp [hb]
  · simp [act, step, bare, rule]
    by_cases hk : k = 0
    · simp only [hk, if_true]
      rw [if_neg (by omega)]
    · simp [hk]
  · simp [act, step, bare, rule]
    cases l with
    | nil => simp [onTop]
    | cons a r =>
      simp only [List.length_cons] at hl
      simp only [onTop]
      by_cases hk : k = 0
      · simp only [hk, true_and, if_true]
        by_cases ha : a = 1
        · rw [if_pos ha, if_pos ha]
          simp only
          rw [if_neg (by omega)]
        · rw [if_neg ha, if_neg ha]
      · simp [hk]
  · simp [act, step, bare, rule]
    by_cases hn : n = 0
    · by_cases hk : k = 0
      · by_cases hl0 : l = []
        · subst hl0
          simp only [hn, hk, and_self, if_true, List.length_nil] at hl ⊢
          rw [if_neg (by omega)]
        · simp [hl0]
      · simp [hk]
    · simp [hn]
/-- the kinds of a code that is formed -/
theorem rule_sks {c : Code} {x : Ins} {l : List Int} {at_ : Nat} {qs q : Kn} (hk : ∀ k ∈ c.kinds, 1 ≤ k ∧ k ≤ 9) (hl : Sk c l) (hq : Sks c qs) (h : rule c x l at_ qs = some q) : Sks c q ∧ q.length = qs.length := by
  have top : ∀ {k : Int} {f : List Int → Option Kn}, onTop l k f = some q → ∃ r, l = k :: r ∧ f r = some q := fun {k f} h => by
    rcases top_or l k with ⟨r, e⟩ | e
    · rw [e, onTop_yes] at h
      exact ⟨r, e, h⟩
    · rw [onTop_no e] at h
      cases h
  have tail : ∀ {k : Int} {r : List Int}, l = k :: r → Sk c r ∧ 1 ≤ k ∧ k ≤ 9 := fun {k r} e => by
    subst e
    refine ⟨⟨?_, fun y hy => hl.2 y (by simp [hy])⟩, hl.2 k (by simp)⟩
    have := hl.1
    simp at this
    omega
  have get : ∀ n : Int, 0 ≤ n ∧ n < c.kinds.length → 1 ≤ c.kinds.getD n.toNat 0 ∧ c.kinds.getD n.toNat 0 ≤ 9 := fun n hn => by
    have : n.toNat < c.kinds.length := by omega
    rw [List.getD_eq_getElem?_getD, List.getElem?_eq_getElem this]
    exact hk _ (List.getElem_mem this)
  unfold rule at h
  split at h
  · split at h
    · rename_i hv
      split at h
      · refine lead_sks ⟨by simp; omega, fun y hy => ?_⟩ hq h
        rcases List.mem_cons.1 hy with rfl | hy
        · exact wid_k (by simp [Bv.isv] at hv; exact hv.1)
        · exact hl.2 y hy
      · cases h
    · cases h
  · split at h
    · split at h
      · rename_i hn
        split at h
        · refine lead_sks ⟨by simp; omega, fun y hy => ?_⟩ hq h
          rcases List.mem_cons.1 hy with rfl | hy
          · exact get _ hn
          · exact hl.2 y hy
        · cases h
      · cases h
    · split at h
      · split at h
        · obtain ⟨r, e, h⟩ := top h
          exact lead_sks (tail e).1 hq h
        · cases h
      · split at h
        · split at h
          · obtain ⟨r, e, h⟩ := top h
            rw [← e] at h
            exact lead_sks hl hq h
          · cases h
        · split at h
          · split at h
            · rename_i hb
              obtain ⟨r, e, h⟩ := top h
              rcases top_or r x.k with ⟨r2, e2⟩ | e2
              · rw [e2, onTop_yes] at h
                subst e2
                have h2 := (tail e)
                have := h2.1.1
                simp at this
                refine lead_sks ⟨by simp; omega, fun y hy => ?_⟩ hq h
                rcases List.mem_cons.1 hy with rfl | hy
                · unfold Bv.toK
                  split
                  · omega
                  · exact h2.2
                · exact h2.1.2 y (by simp [hy])
              · rw [onTop_no e2] at h
                cases h
            · cases h
          · split at h
            · split at h
              · rename_i hw
                obtain ⟨r, e, h⟩ := top h
                have h2 := (tail e)
                have := hl.1
                rw [e] at this
                simp at this
                refine lead_sks ⟨by simp; omega, fun y hy => ?_⟩ hq h
                rcases List.mem_cons.1 hy with rfl | hy
                · exact wid_k hw
                · exact h2.1.2 y hy
              · cases h
            · split at h
              · exact lead_sks hl hq h
              · split at h
                · obtain ⟨r, e, h⟩ := top h
                  rw [Option.bind_eq_some_iff] at h
                  obtain ⟨q1, h1, h2⟩ := h
                  obtain ⟨a1, a2⟩ := lead_sks (tail e).1 hq h1
                  obtain ⟨b1, b2⟩ := lead_sks (tail e).1 a1 h2
                  exact ⟨b1, b2.trans a2⟩
                · split at h
                  · obtain rfl := Option.some.inj h
                    exact ⟨hq, rfl⟩
                  · cases h
end Go.Proofs.YtfbhflpjhbemlaaGreat.Cd

/- The plain mathematics of a reader that takes the shortest form alone. -/
namespace Go.Proofs.YtfbhflpjhbemlaaGreat.Cd
open Go.RowKit

def P7 (i : Nat) : Nat := 2 ^ (7 * i)
theorem P7_succ (i : Nat) : P7 (i + 1) = 128 * P7 i := by
  unfold P7
  rw [show 7 * (i + 1) = 7 * i + 7 by omega, Nat.pow_add]
  omega
theorem P7_pos (i : Nat) : 0 < P7 i := Nat.pos_of_ne_zero (by unfold P7; exact Nat.ne_of_gt (Nat.two_pow_pos _))
theorem P7_10 : P7 10 = 1180591620717411303424 := by decide
theorem P7_9 : P7 9 = 9223372036854775808 := by decide
/-- f bytes more at the most; i are read, z is what they are -/
def rdS : Nat → Nat → Nat → List UInt8 → Option (Nat × List UInt8)
  | 0, _, _, _ => none
  | _ + 1, _, _, [] => none
  | f + 1, i, z, c :: r =>
    if 128 ≤ c.toNat then rdS f (i + 1) (z + (c.toNat - 128) * P7 i) r
    else if c.toNat = 0 ∧ 0 < i then none
    else if 18446744073709551616 ≤ c.toNat * P7 i then none
    else some (z + c.toNat * P7 i, r)
theorem P7_mono {i j : Nat} (h : i ≤ j) : P7 i ≤ P7 j := Nat.pow_le_pow_right (by decide) (by omega)
theorem rdS_bytes : ∀ (f i z y : Nat) (r : List UInt8), f + i = 10 → z < P7 i → z + y * P7 i < 18446744073709551616 → (0 < i → 0 < y) → rdS f i z (bytes y ++ r) = some (z + y * P7 i, r)
  | 0, i, z, y, r, hf, hz, hv, hy => by
    have hi : i = 10 := by omega
    subst hi
    have := hy (by decide)
    have h1 := Nat.le_mul_of_pos_left (P7 10) this
    rw [P7_10] at h1
    rw [P7_10] at hv
    omega
  | f + 1, i, z, y, r, hf, hz, hv, hy => by
    by_cases h1 : y < 128
    · have e : (UInt8.ofNat y).toNat = y := ofNat_toNat (by omega)
      rw [bytes_small h1, List.cons_append, List.nil_append, rdS, e, if_neg (by omega), if_neg (by intro h; have := hy h.2; omega), if_neg (by omega)]
    · have e : (UInt8.ofNat (y % 128 + 128)).toNat = y % 128 + 128 := ofNat_toNat (by omega)
      have hq : y = y % 128 + 128 * (y / 128) := by omega
      have e2 : z + (y % 128 + 128 - 128) * P7 i + y / 128 * P7 (i + 1) = z + y * P7 i := by
        rw [P7_succ, Nat.add_sub_cancel]
        have : y * P7 i = (y % 128) * P7 i + y / 128 * (128 * P7 i) := by
          conv => lhs; rw [hq]
          rw [Nat.add_mul, Nat.mul_comm 128 (y / 128), Nat.mul_assoc]
        omega
      have hz2 : z + (y % 128 + 128 - 128) * P7 i < P7 (i + 1) := by
        rw [P7_succ, Nat.add_sub_cancel]
        have : (y % 128) * P7 i ≤ 127 * P7 i := Nat.mul_le_mul_right _ (by omega)
        omega
      rw [bytes_big h1, List.cons_append, rdS, e, if_pos (by omega), rdS_bytes f (i + 1) _ (y / 128) r (by omega) hz2 (by rw [e2]; exact hv) (fun _ => by omega), e2]
theorem div64 {i d : Nat} (hi : i ≤ 9) (h : d * P7 i < 18446744073709551616) : d * P7 i + P7 i ≤ 18446744073709551616 := by
  have : 18446744073709551616 = 2 ^ (64 - 7 * i) * P7 i := by
    unfold P7
    rw [← Nat.pow_add, show 64 - 7 * i + 7 * i = 64 by omega]
  rw [this] at h ⊢
  have h2 : d < 2 ^ (64 - 7 * i) := Nat.lt_of_mul_lt_mul_right h
  have h3 := Nat.mul_le_mul_right (P7 i) (Nat.succ_le_of_lt h2)
  rw [Nat.succ_mul] at h3
  exact h3
theorem rdS_sound : ∀ (f i z : Nat) (l : List UInt8) (v : Nat) (r : List UInt8), f + i = 10 → z < P7 i → rdS f i z l = some (v, r) → ∃ y, l = bytes y ++ r ∧ v = z + y * P7 i ∧ v < 18446744073709551616 ∧ (0 < i → 0 < y)
  | 0, _, _, _, _, _, _, _, h => by cases h
  | _ + 1, _, _, [], _, _, _, _, h => by cases h
  | f + 1, i, z, c :: l, v, r, hf, hz, h => by
    rw [rdS] at h
    split at h
    · rename_i hc
      have hcl := UInt8.toNat_lt c
      have hz2 : z + (c.toNat - 128) * P7 i < P7 (i + 1) := by
        rw [P7_succ]
        have : (c.toNat - 128) * P7 i ≤ 127 * P7 i := Nat.mul_le_mul_right _ (by omega)
        omega
      obtain ⟨y, e1, e2, e3, e4⟩ := rdS_sound f (i + 1) _ l v r (by omega) hz2 h
      have hy := e4 (by omega)
      refine ⟨(c.toNat - 128) + 128 * y, ?_, ?_, e3, fun _ => by omega⟩
      · rw [bytes_big (by omega), e1, List.cons_append]
        congr 1
        · have : ((c.toNat - 128) + 128 * y) % 128 + 128 = c.toNat := by omega
          rw [this]
          simp
        · rw [show ((c.toNat - 128) + 128 * y) / 128 = y by omega]
      · rw [e2, P7_succ, Nat.add_mul, Nat.mul_assoc 128 y, Nat.mul_comm 128 (y * P7 i), Nat.mul_assoc y, Nat.mul_comm (P7 i) 128]
        omega
    · rename_i hc
      split at h
      · cases h
      · rename_i h0
        split at h
        · cases h
        · rename_i ho
          have e := Option.some.inj h
          have e1 : v = z + c.toNat * P7 i := (congrArg Prod.fst e).symm
          have e2 : l = r := congrArg Prod.snd e
          have := div64 (i := i) (d := c.toNat) (by omega) (by omega)
          refine ⟨c.toNat, ?_, e1, by omega, fun hi => ?_⟩
          · rw [bytes_small (by omega), e2]
            simp
          · by_cases h1 : c.toNat = 0
            · exact absurd ⟨h1, hi⟩ h0
            · omega
/-- one number in its shortest form -/
def rd1 (l : List UInt8) : Option (Int × List UInt8) := (rdS 10 0 0 l).map fun x => (zag x.1, x.2)
theorem rd1_num {n : Int} (h : I64 n) (r : List UInt8) : rd1 (num n ++ r) = some (n, r) := by
  unfold rd1 num
  rw [rdS_bytes 10 0 0 (zig n) r rfl (P7_pos 0) (by have := zig_lt h; simp [P7]; omega) (fun h => by omega)]
  simp [P7, zag_zig]
theorem zig_zag (z : Nat) : zig (zag z) = z := by
  unfold zag zig
  by_cases h : z % 2 = 0
  · rw [if_pos h, if_pos (by omega)]; omega
  · rw [if_neg h, if_neg (by omega)]; omega
theorem zag_64 {z : Nat} (h : z < 18446744073709551616) : I64 (zag z) := by
  unfold zag I64
  split <;> omega
theorem rd1_sound {l r : List UInt8} {n : Int} (h : rd1 l = some (n, r)) : I64 n ∧ l = num n ++ r := by
  unfold rd1 at h
  cases hs : rdS 10 0 0 l with
  | none => rw [hs] at h; cases h
  | some x =>
    rw [hs] at h
    obtain ⟨v, r'⟩ := x
    have e := Option.some.inj h
    have e1 : zag v = n := congrArg Prod.fst e
    have e2 : r' = r := congrArg Prod.snd e
    obtain ⟨y, h1, h2, h3, -⟩ := rdS_sound 10 0 0 l v r' rfl (P7_pos 0) hs
    have : v = y := by simp [P7] at h2; exact h2
    subst this
    refine ⟨by rw [← e1]; exact zag_64 h3, ?_⟩
    rw [h1, e2, ← e1]
    unfold num
    rw [zig_zag]
end Go.Proofs.YtfbhflpjhbemlaaGreat.Cd

/- Code in memory: lists of numbers and of instructions. -/
namespace Go.Proofs.YtfbhflpjhbemlaaGreat
open Go.RowKit Go.Maps Go.WideMaps

/-- a list of numbers from an address on -/
def NumsAt (w : World) (a : Option Addr) (l : List Int) : Prop := ∀ i n, l[i]? = some n → ∃ b o, a = some ⟨b, o, none⟩ ∧ w.cell? ⟨b, o + i, none⟩ = some (.int .i64 n)
theorem NumsAt.on {w w' : World} {a : Option Addr} {l : List Int} (h : NumsAt w a l) (hg : w.grownBy w' none) : NumsAt w' a l := fun i n hi => by
  obtain ⟨b, o, e, hc⟩ := h i n hi
  exact ⟨b, o, e, hg.cell hc (by simp)⟩
theorem NumsAt.nil (w : World) (a : Option Addr) : NumsAt w a [] := fun i n h => by simp at h
theorem NumsAt.take {w : World} {a : Option Addr} {l : List Int} (h : NumsAt w a l) (k : Nat) : NumsAt w a (l.take k) := fun i n hi => by
  rw [List.getElem?_take] at hi
  split at hi
  · exact h i n hi
  · cases hi
/-- a list that was laid by appends -/
theorem NumsAt.own {w : World} {B : Nat} {v : Value} {l : List Int} (h : w.ownsRow B 3 1 v l.length (l.map (Value.int .i64))) : ∃ a c, v = .slice a l.length c ∧ NumsAt w a l := by
  rcases h.2 with ⟨rfl, h0⟩ | ⟨g, cap, cur, rfl, hB, hh, h1, h2, h3, h4⟩
  · refine ⟨none, 0, by rw [h0], ?_⟩
    have : l = [] := List.eq_nil_of_length_eq_zero h0
    rw [this]
    exact NumsAt.nil w _
  · refine ⟨_, cap, rfl, fun i n hi => ⟨g, 0, rfl, ?_⟩⟩
    have hl : i < l.length := (List.getElem?_eq_some_iff.1 hi).1
    have e : cur.toList[i]? = some (.int .i64 n) := by
      have : (cur.toList.take (l.length * 1))[i]? = some (.int .i64 n) := by rw [h4, List.getElem?_map, hi]; rfl
      rw [List.getElem?_take] at this
      split at this
      · exact this
      · cases this
    rw [Nat.zero_add]
    unfold World.cell?
    rw [hh]
    simpa using e
/-- a list of instructions from an address on -/
def InssAt (w : World) (a : Option Addr) (l : List Cd.Ins) : Prop := ∀ i x, l[i]? = some x → ∃ b o, a = some ⟨b, o, none⟩ ∧ w.cell? ⟨b, o + i * 3, none⟩ = some (.int .i64 x.op) ∧ w.cell? ⟨b, o + i * 3 + 1, none⟩ = some (.int .i64 x.n) ∧ w.cell? ⟨b, o + i * 3 + 2, none⟩ = some (.int .i64 x.k)
theorem InssAt.on {w w' : World} {a : Option Addr} {l : List Cd.Ins} (h : InssAt w a l) (hg : w.grownBy w' none) : InssAt w' a l := fun i x hi => by
  obtain ⟨b, o, e, h1, h2, h3⟩ := h i x hi
  exact ⟨b, o, e, hg.cell h1 (by simp), hg.cell h2 (by simp), hg.cell h3 (by simp)⟩
def insC (l : List Cd.Ins) : List Value := (l.map fun x => [Value.int .i64 x.op, .int .i64 x.n, .int .i64 x.k]).flatten
theorem insC_at : ∀ (l : List Cd.Ins) (i : Nat) (x : Cd.Ins), l[i]? = some x → (insC l)[i * 3]? = some (.int .i64 x.op) ∧ (insC l)[i * 3 + 1]? = some (.int .i64 x.n) ∧ (insC l)[i * 3 + 2]? = some (.int .i64 x.k)
  | [], i, x, h => by simp at h
  | y :: l, 0, x, h => by
    simp at h
    subst h
    exact ⟨rfl, rfl, rfl⟩
  | y :: l, i + 1, x, h => by
    have := insC_at l i x (by simpa using h)
    have e : insC (y :: l) = .int .i64 y.op :: .int .i64 y.n :: .int .i64 y.k :: insC l := rfl
    rw [e, show (i + 1) * 3 = i * 3 + 1 + 1 + 1 by omega]
    simpa using this
theorem insC_len (l : List Cd.Ins) : (insC l).length = l.length * 3 := by
  induction l with
  | nil => rfl
  | cons y l ih =>
    have e : insC (y :: l) = .int .i64 y.op :: .int .i64 y.n :: .int .i64 y.k :: insC l := rfl
    rw [e]
    simp only [List.length_cons, ih]
    omega
theorem InssAt.own {w : World} {B : Nat} {v : Value} {l : List Cd.Ins} (h : w.ownsRow B 32 3 v l.length (insC l)) : ∃ a c, v = .slice a l.length c ∧ InssAt w a l := by
  rcases h.2 with ⟨rfl, h0⟩ | ⟨g, cap, cur, rfl, hB, hh, h1, h2, h3, h4⟩
  · refine ⟨none, 0, by rw [h0], ?_⟩
    have : l = [] := List.eq_nil_of_length_eq_zero h0
    rw [this]
    exact fun i x h => by simp at h
  · refine ⟨_, cap, rfl, fun i x hi => ?_⟩
    have hl : i < l.length := (List.getElem?_eq_some_iff.1 hi).1
    obtain ⟨a1, a2, a3⟩ := insC_at l i x hi
    have key : ∀ j u, (insC l)[j]? = some u → w.cell? ⟨g, 0 + j, none⟩ = some u := by
      intro j u hj
      have hjl : j < l.length * 3 := by rw [← insC_len]; exact (List.getElem?_eq_some_iff.1 hj).1
      rw [← h4, List.getElem?_take, if_pos hjl] at hj
      rw [Nat.zero_add]
      unfold World.cell?
      rw [hh]
      simpa using hj
    exact ⟨g, 0, rfl, key _ _ a1, key _ _ a2, key _ _ a3⟩
/-- code as a value: its seven cells -/
def codeV (c : Cd.Code) (ka : Option Addr) (kc : Nat) (ia : Option Addr) (ic : Nat) (ba : Option Addr) (bc : Nat) : Array Value :=
  #[.slice ka c.kinds.length kc, .int .i64 c.ins, .int .i64 c.outs, .int .i64 c.cells, .int .i64 c.stack, .slice ia c.init.length ic, .slice ba c.body.length bc]
structure CodeAt (w : World) (c : Cd.Code) (ka ia ba : Option Addr) : Prop where
  kinds : NumsAt w ka c.kinds
  init : NumsAt w ia c.init
  body : InssAt w ba c.body
theorem CodeAt.on {w w' : World} {c : Cd.Code} {ka ia ba : Option Addr} (h : CodeAt w c ka ia ba) (hg : w.grownBy w' none) : CodeAt w' c ka ia ba := ⟨h.kinds.on hg, h.init.on hg, h.body.on hg⟩

end Go.Proofs.YtfbhflpjhbemlaaGreat

/- Stage 19: what the statements lean on (code.Check, code.Write, code.Parse as the chapter tells them); Small, alive. -/
namespace Go.Proofs.YtfbhflpjhbemlaaGreat
open Go.RowKit Go.Maps Go.WideMaps

/-- numbers of 64 bits -/
def I64s (c : Cd.Code) : Prop := Cd.I64 c.ins ∧ Cd.I64 c.outs ∧ Cd.I64 c.cells ∧ Cd.I64 c.stack ∧ (∀ n ∈ c.kinds, Cd.I64 n) ∧ (∀ n ∈ c.init, Cd.I64 n) ∧ (∀ x ∈ c.body, Cd.I64 x.op ∧ Cd.I64 x.n ∧ Cd.I64 x.k) ∧ c.kinds.length ≤ maxLen ∧ c.init.length ≤ maxLen ∧ c.body.length ≤ maxLen

/-- code.Check is the chapter's -/
def CCheck : Prop := ∀ (W : World) (c : Cd.Code) (ka : Option Addr) (kc : Nat) (ia : Option Addr) (ic : Nat) (ba : Option Addr) (bc : Nat), CodeAt W c ka ia ba → I64s c → c.kinds.length ≤ kc →
  Calls Tryz.prog 10 #[.agg (codeV c ka kc ia ic ba bc)] W fun e w' => e = .returned (.int .i64 (Cd.check c)) ∧ W.grownBy w' none

def byteC (l : List UInt8) : List Value := l.map fun b => .int .u8 b.toNat

/-- code.Write is the chapter's -/
def CWrite : Prop := ∀ (W : World) (c : Cd.Code) (ka : Option Addr) (kc : Nat) (ia : Option Addr) (ic : Nat) (ba : Option Addr) (bc : Nat), CodeAt W c ka ia ba → I64s c → c.kinds.length ≤ kc →
  Calls Tryz.prog 11 #[.agg (codeV c ka kc ia ic ba bc)] W fun e w' => W.grownBy w' none ∧
    (Cd.check c = 0 → ∃ v, e = .returned (.tuple #[v, .int .i64 0]) ∧ w'.ownsRow W.heap.size 5 1 v (Cd.write c).length (byteC (Cd.write c))) ∧
    (Cd.check c ≠ 0 → e = .returned (.tuple #[.slice none 0 0, .int .i64 (Cd.check c)]))

theorem num19_any (k : Int) (w : World) : Calls Tryz.prog 7 #[.int .i64 k] w fun e w' => e = .returned (.int .i64 k) ∧ w' = w := by
  go_enter Tryz.func7, Tryz.ntmps7
  go_wp2
  go_ret
  exact ⟨rfl, rfl⟩

theorem row_cell {w : World} {g : Nat} {cs : List Value} {T : TypeId} (h : w.heap[g]? = some (.cells cs.toArray T (0, 0))) (i : Nat) : w.cell? ⟨g, i, none⟩ = cs[i]? := by
  unfold World.cell?
  rw [h]
  simp
theorem nums_row {w : World} {g : Nat} {l : List Int} {T : TypeId} (h : w.heap[g]? = some (.cells (l.map (Value.int .i64)).toArray T (0, 0))) : NumsAt w (some ⟨g, 0, none⟩) l := fun i n hi => ⟨g, 0, rfl, by rw [Nat.zero_add, row_cell h, List.getElem?_map, hi]; rfl⟩
theorem inss_row {w : World} {g : Nat} {l : List Cd.Ins} {T : TypeId} (h : w.heap[g]? = some (.cells (insC l).toArray T (0, 0))) : InssAt w (some ⟨g, 0, none⟩) l := fun i x hi => by
  obtain ⟨a1, a2, a3⟩ := insC_at l i x hi
  exact ⟨g, 0, rfl, by rw [Nat.zero_add, row_cell h, a1], by rw [Nat.zero_add, row_cell h, a2], by rw [Nat.zero_add, row_cell h, a3]⟩

set_option maxHeartbeats 1000000 in
theorem small_any (w : World) : Calls Tryz.prog 9 #[] w fun e w' => ∃ g h, e = .returned (.agg (codeV Cd.small (some ⟨g, 0, none⟩) 2 none 0 (some ⟨h, 0, none⟩) 5)) ∧ CodeAt w' Cd.small (some ⟨g, 0, none⟩) none (some ⟨h, 0, none⟩) ∧ w.heap.size ≤ g ∧ w.heap.size ≤ h ∧ w.grownBy w' none := by
  go_enter Tryz.func9, Tryz.ntmps9
  go_wp2
  have hA := heap_alloc_new w (.cells #[.slice (some ⟨w.heap.size + 1, 0, none⟩) 2 2, .int .i64 1, .int .i64 1, .int .i64 0, .int .i64 2, .slice none 0 0, .slice (some ⟨w.heap.size + 1 + 1, 0, none⟩) 5 5] 27)
  have g1 := World.grownBy_alloc w (.cells #[.slice (some ⟨w.heap.size + 1, 0, none⟩) 2 2, .int .i64 1, .int .i64 1, .int .i64 0, .int .i64 2, .slice none 0 0, .slice (some ⟨w.heap.size + 1 + 1, 0, none⟩) 5 5] 27) none
  have s1 := World.size_alloc w (.cells #[.slice (some ⟨w.heap.size + 1, 0, none⟩) 2 2, .int .i64 1, .int .i64 1, .int .i64 0, .int .i64 2, .slice none 0 0, .slice (some ⟨w.heap.size + 1 + 1, 0, none⟩) 5 5] 27)
  generalize w.alloc (.cells #[.slice (some ⟨w.heap.size + 1, 0, none⟩) 2 2, .int .i64 1, .int .i64 1, .int .i64 0, .int .i64 2, .slice none 0 0, .slice (some ⟨w.heap.size + 1 + 1, 0, none⟩) 5 5] 27) = w1 at hA g1 s1
  have hB := heap_alloc_new w1 (.cells #[.int .i64 2, .int .i64 2] 3)
  have g2 := World.grownBy_alloc w1 (.cells #[.int .i64 2, .int .i64 2] 3) none
  have s2 := World.size_alloc w1 (.cells #[.int .i64 2, .int .i64 2] 3)
  generalize w1.alloc (.cells #[.int .i64 2, .int .i64 2] 3) = w2 at hB g2 s2
  have hC := heap_alloc_new w2 (.cells (insC Cd.small.body).toArray 32)
  have g3 := World.grownBy_alloc w2 (.cells (insC Cd.small.body).toArray 32) none
  have e3 : w2.alloc (.cells (insC Cd.small.body).toArray 32) = w2.alloc (.cells #[.int .i64 2, .int .i64 0, .int .i64 0, .int .i64 1, .int .i64 1, .int .i64 2, .int .i64 5, .int .i64 3, .int .i64 2, .int .i64 3, .int .i64 1, .int .i64 0, .int .i64 9, .int .i64 0, .int .i64 0] 32) := rfl
  rw [← e3]
  generalize w2.alloc (.cells (insC Cd.small.body).toArray 32) = w3 at hC g3
  rw [s1] at hB s2
  rw [s2] at hC
  have hA3 := ((g2.trans g3).block _ (Array.getElem?_eq_some_iff.1 hA).1 (by simp)).trans hA
  have hB3 := (g3.block _ (Array.getElem?_eq_some_iff.1 hB).1 (by simp)).trans hB
  exact bodyPost_ret (results_cell_row rfl _ _ w.heap.size 27 _ (0, 0) _ rfl hA3 Tryz.underlying27 rfl (by kernel_rfl)) rfl ⟨w.heap.size + 1, w.heap.size + 1 + 1, rfl, ⟨nums_row (l := [2, 2]) hB3, NumsAt.nil _ _, inss_row hC⟩, Nat.le_succ _, by omega, g1.trans (g2.trans g3)⟩

theorem small_64 : I64s Cd.small := by
  unfold I64s Cd.small Cd.I64 maxLen
  refine ⟨by decide, by decide, by decide, by decide, by decide, by decide, by decide, by decide, by decide, by decide⟩

end Go.Proofs.YtfbhflpjhbemlaaGreat
