/- cnf: what is written is read again (plain). -/
import Derived.Test.YtdhgopcfjomjaaaDoorCqG
namespace Go.Proofs.YtdhgopcfjomjaaaDoor
open Go.RowKit Go.Maps Go.WideMaps
open Go.Lib hiding intOf run_convert_string_bytes
open Cn (I64)

namespace Cn
theorem dig_of {i : Nat} (h : i < 10) : dig (UInt8.ofNat (48 + i)) = true ∧ (UInt8.ofNat (48 + i)).toNat = 48 + i := by
  obtain rfl | rfl | rfl | rfl | rfl | rfl | rfl | rfl | rfl | rfl : i = 0 ∨ i = 1 ∨ i = 2 ∨ i = 3 ∨ i = 4 ∨ i = 5 ∨ i = 6 ∨ i = 7 ∨ i = 8 ∨ i = 9 := by omega
  all_goals exact ⟨by decide, by decide⟩
theorem dec_dig : ∀ (k u : Nat), u ≤ k → ∀ b ∈ decDigits u, dig b = true := by
  intro k
  induction k with
  | zero =>
    intro u hu b hb
    obtain rfl : u = 0 := by omega
    rw [decDigits_one (by decide)] at hb
    rw [List.mem_singleton.1 hb]
    exact (dig_of (i := 0) (by decide)).1
  | succ k ih =>
    intro u hu b hb
    by_cases h : u < 10
    · rw [decDigits_one h] at hb
      rw [List.mem_singleton.1 hb]
      exact (dig_of h).1
    · rw [decDigits, dif_neg h] at hb
      rcases List.mem_append.1 hb with hb | hb
      · exact ih (u / 10) (by omega) b hb
      · rw [List.mem_singleton.1 hb]
        exact (dig_of (Nat.mod_lt _ (by decide))).1
theorem digs_dec (u : Nat) (c : UInt8) (hc : dig c = false) (r : List UInt8) : digs (decDigits u ++ c :: r) = decDigits u := by
  unfold digs
  rw [List.takeWhile_append_of_pos (dec_dig u u (Nat.le_refl _)), List.takeWhile_cons]
  simp [hc]
theorem trim_dec (u : Nat) (c : UInt8) (hc : dig c = false) (r : List UInt8) : trimLeftS (decDigits u ++ c :: r) cs10 = c :: r := by
  have h := digs_drop (decDigits u ++ c :: r)
  rw [digs_dec u c hc r, List.drop_left] at h
  exact h.symm
theorem parse_snoc (c : UInt8) : ∀ (l : List UInt8) (acc : Nat), parseUint10 acc (l ++ [c]) = match parseUint10 acc l with
    | .ok a => parseUint10 a [c]
    | .syntax => .syntax
    | .range => .range
  | [], acc => by rfl
  | d :: r, acc => by
    rw [List.cons_append, parseUint10, parseUint10]
    split
    · split
      · rfl
      · split
        · rfl
        · exact parse_snoc c r _
    · rfl
theorem parse_dec : ∀ (k u : Nat), u ≤ k → u < 1000000000000000000 → parseUint10 0 (decDigits u) = .ok u := by
  intro k
  induction k with
  | zero =>
    intro u hu _
    obtain rfl : u = 0 := by omega
    rw [decDigits_one (by decide)]
    rfl
  | succ k ih =>
    intro u hu hb
    by_cases h : u < 10
    · rw [decDigits_one h, parseUint10, (dig_of h).2, if_pos (by omega), if_neg (by decide), if_neg (by omega), parseUint10]
      congr 1
      omega
    · have hd := dig_of (Nat.mod_lt u (show 10 > 0 by decide))
      rw [decDigits, dif_neg h, parse_snoc, ih (u / 10) (by omega) (by omega)]
      show parseUint10 (u / 10) [UInt8.ofNat (48 + u % 10)] = _
      rw [parseUint10, hd.2, if_pos (by omega), if_neg (by omega), if_neg (by omega), parseUint10]
      congr 1
      omega
theorem dec_ne (u : Nat) : decDigits u ≠ [] := by
  intro h
  have := nDigits_pos u
  rw [← decDigits_length, h] at this
  simp at this
theorem atoi_dec {u : Nat} (h : u < 1000000000000000000) : atoiAll (decDigits u) = .ok (u : Int) := by
  have hp := parse_dec u u (Nat.le_refl _) h
  have hd := dec_dig u u (Nat.le_refl _)
  have hn := dec_ne u
  generalize decDigits u = l at *
  cases l with
  | nil => exact absurd rfl hn
  | cons c r =>
    have hc := hd c (List.mem_cons_self)
    have h43 : ¬ (c.toNat = 43 ∨ c.toNat = 45) := by
      have : ∀ b ∈ cs10, ¬ (b.toNat = 43 ∨ b.toNat = 45) := by decide
      exact this c (by simpa [dig] using hc)
    unfold atoiAll
    simp only [if_neg h43]
    have hm : parseMag (c :: r) = .ok u := by unfold parseMag; rw [if_neg (by simp)]; exact hp
    rw [hm]
    have h45 : ¬ c.toNat = 45 := fun h => h43 (.inr h)
    simp [h45]
    omega
/-- no zero ahead -/
theorem dec_head : ∀ (k u : Nat), u ≤ k → 0 < u → (decDigits u).head? ≠ some 48 := by
  intro k
  induction k with
  | zero => intro u hu h0; omega
  | succ k ih =>
    intro u hu h0
    by_cases h : u < 10
    · rw [decDigits_one h]
      obtain rfl | rfl | rfl | rfl | rfl | rfl | rfl | rfl | rfl : u = 1 ∨ u = 2 ∨ u = 3 ∨ u = 4 ∨ u = 5 ∨ u = 6 ∨ u = 7 ∨ u = 8 ∨ u = 9 := by omega
      all_goals decide
    · rw [decDigits, dif_neg h, List.head?_append]
      have h1 := ih (u / 10) (by omega) (by omega)
      have hn := dec_ne (u / 10)
      generalize decDigits (u / 10) = l at *
      cases l with
      | nil => exact absurd rfl hn
      | cons c r => exact h1
theorem cnt_dec {u : Nat} (h : u < 1000000000000000000) : cntBad (decDigits u) = false ∧ cntVal (decDigits u) = (u : Int) := by
  unfold cntBad cntVal
  rw [atoi_dec h]
  refine ⟨?_, rfl⟩
  show (decide (1 < (decDigits u).length) && decide ((decDigits u).head? = some 48)) = false
  by_cases h0 : u = 0
  · subst h0; rw [decDigits_one (by decide)]; rfl
  · have := dec_head u u (Nat.le_refl _) (by omega)
    simp [this]
theorem hasP_cons (a b : UInt8) (l : List UInt8) : hasPrefix (a :: l) [b] = (b == a) := by simp [hasPrefix, List.isPrefixOf]
theorem lit_itoa {x : Int} (h : -1000000000 ≤ x ∧ x ≤ 1000000000) (r : List UInt8) : litVal (itoa x ++ 32 :: r) = x ∧ litRest (itoa x ++ 32 :: r) = 32 :: r ∧ litBad (itoa x ++ 32 :: r) = false := by
  unfold litVal litRest litBad trimPrefix itoa
  by_cases h0 : x < 0
  · rw [if_pos h0, List.cons_append, hasP_cons, if_pos (by decide), if_pos (by decide)]
    rw [show List.drop ([45] : List UInt8).length ((45 : UInt8) :: (decDigits x.natAbs ++ 32 :: r)) = decDigits x.natAbs ++ 32 :: r from rfl, digs_dec _ 32 (by decide), trim_dec _ 32 (by decide)]
    have hc := cnt_dec (u := x.natAbs) (by omega)
    rw [hc.1, hc.2]
    refine ⟨?_, rfl, rfl⟩
    unfold wrap64
    omega
  · rw [if_neg h0]
    have hd := dec_dig x.toNat x.toNat (Nat.le_refl _)
    have hn := dec_ne x.toNat
    have hc := cnt_dec (u := x.toNat) (by omega)
    have h1 := digs_dec x.toNat 32 (by decide) r
    have h2 := trim_dec x.toNat 32 (by decide) r
    generalize decDigits x.toNat = l at *
    cases l with
    | nil => exact absurd rfl hn
    | cons c t =>
      have hb : ((45 : UInt8) == c) = false := by
        have h3 : ∀ b ∈ cs10, ((45 : UInt8) == b) = false := by decide
        exact h3 c (by simpa [dig] using hd c List.mem_cons_self)
      rw [List.cons_append] at h1 h2 ⊢
      rw [hasP_cons, hb, if_neg (by decide), if_neg (by decide), h1, h2, hc.1, hc.2]
      exact ⟨by omega, rfl, rfl⟩
theorem itoa_head {x : Int} (h0 : x ≠ 0) (r : List UInt8) : hasPrefix (itoa x ++ r) [48] = false := by
  unfold itoa
  by_cases h : x < 0
  · rw [if_pos h, List.cons_append, hasP_cons]; decide
  · rw [if_neg h]
    have h1 := dec_head x.toNat x.toNat (Nat.le_refl _) (by omega)
    have hn := dec_ne x.toNat
    generalize decDigits x.toNat = l at *
    cases l with
    | nil => exact absurd rfl hn
    | cons c t =>
      rw [List.cons_append, hasP_cons]
      rw [beq_eq_false_iff_ne]
      intro e
      exact h1 (by rw [← e]; rfl)
theorem trimP_cons (b : UInt8) (l : List UInt8) : trimPrefix (b :: l) [b] = l ∧ hasPrefix (b :: l) [b] = true := by
  have h : hasPrefix (b :: l) [b] = true := by rw [hasP_cons]; simp
  unfold trimPrefix
  rw [if_pos h]
  exact ⟨rfl, h⟩
theorem clGo_lits : ∀ (c : List Int) (n : Nat) (acc : List Int) (r : List UInt8), (∀ x ∈ c, x ≠ 0 ∧ -1000000000 ≤ x ∧ x ≤ 1000000000) → c.length ≤ n → clGo n (litsT c ++ 48 :: r) false acc = (acc ++ c, 48 :: r, false)
  | [], n, acc, r, _, _ => by
    rw [List.append_nil]
    exact clGo_stop (.inr (trimP_cons 48 r).2) n acc
  | x :: c, n, acc, r, h, hn => by
    obtain ⟨m, rfl⟩ : ∃ m, n = m + 1 := ⟨n - 1, by simp at hn; omega⟩
    have e : litsT (x :: c) ++ 48 :: r = itoa x ++ 32 :: (litsT c ++ 48 :: r) := by
      show ((itoa x ++ [32]) ++ litsT c) ++ 48 :: r = _
      simp
    have hx := h x List.mem_cons_self
    have hl := lit_itoa hx.2 (litsT c ++ 48 :: r)
    rw [e, clGo_step (by rw [itoa_head hx.1]; simp), hl.1, hl.2.1, hl.2.2, (trimP_cons 32 _).1, (trimP_cons 32 _).2]
    rw [show (false || false || !true) = false from rfl, clGo_lits c m (acc ++ [x]) r (fun y hy => h y (List.mem_cons_of_mem _ hy)) (by simp at hn; omega)]
    simp
/-- a written clause is read -/
theorem clP_text {c : List Int} (h : ∀ x ∈ c, x ≠ 0 ∧ -1000000000 ≤ x ∧ x ≤ 1000000000) (r : List UInt8) : clP (clT c ++ r) false = (c, r, false) := by
  have hlen : ∀ c : List Int, c.length ≤ (litsT c).length := by
    intro c
    induction c with
    | nil => simp
    | cons x t ih =>
      have e : litsT (x :: t) = (itoa x ++ [32]) ++ litsT t := rfl
      rw [e, List.length_append, List.length_append]
      simp
      omega
  have e : clT c ++ r = litsT c ++ 48 :: (10 :: r) := by rw [clT_eq]; simp
  unfold clP
  rw [e, clGo_lits c _ [] (10 :: r) h (by have := hlen c; rw [List.length_append]; omega)]
  have hp : hasPrefix (48 :: 10 :: r) [48, 10] = true := by simp [hasPrefix, List.isPrefixOf]
  simp only [List.nil_append]
  unfold trimPrefix
  rw [if_pos hp, hp]
  rfl
end Cn
end Go.Proofs.YtdhgopcfjomjaaaDoor
