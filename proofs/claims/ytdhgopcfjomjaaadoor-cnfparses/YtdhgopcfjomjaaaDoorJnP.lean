/- Texts joined: CqP, CqQ, CqR, CqT. -/
import Derived.Test.YtdhgopcfjomjaaaDoorCqO
/- cnf: what is read was written so; the document's own reading (plain). -/
namespace Go.Proofs.YtdhgopcfjomjaaaDoor
open Go.RowKit Go.Maps Go.WideMaps
open Go.Lib hiding intOf run_convert_string_bytes
open Cn (I64)

namespace Cn
theorem hasP_inv {r p : List UInt8} (h : hasPrefix r p = true) : r = p ++ trimPrefix r p := by
  unfold trimPrefix
  rw [if_pos h]
  unfold hasPrefix at h
  obtain ⟨t, rfl⟩ := List.isPrefixOf_iff_prefix.1 h
  rw [List.drop_left]
theorem dig_num {b : UInt8} (h : dig b = true) : 48 ≤ b.toNat ∧ b.toNat ≤ 57 ∧ UInt8.ofNat (48 + (b.toNat - 48)) = b := by
  have h3 : ∀ b ∈ cs10, 48 ≤ b.toNat ∧ b.toNat ≤ 57 ∧ UInt8.ofNat (48 + (b.toNat - 48)) = b := by decide
  exact h3 b (by simpa [dig] using h)
theorem dec_parse : ∀ (k : Nat) (l : List UInt8), l.length ≤ k → l ≠ [] → l.head? ≠ some 48 → (∀ b ∈ l, dig b = true) → ∀ u, parseUint10 0 l = .ok u → 0 < u ∧ decDigits u = l := by
  intro k
  induction k with
  | zero => intro l hl hn; exact absurd (List.eq_nil_of_length_eq_zero (by omega)) hn
  | succ k ih =>
    intro l hl hn hh hd u hu
    obtain ⟨l', c, rfl⟩ : ∃ l' c, l = l' ++ [c] := ⟨l.dropLast, l.getLast hn, (List.dropLast_concat_getLast hn).symm⟩
    have hc := dig_num (hd c (by simp))
    rw [parse_snoc] at hu
    by_cases h0 : l' = []
    · subst h0
      rw [show parseUint10 0 [] = .ok 0 from rfl] at hu
      simp only at hu
      rw [parseUint10, if_pos ⟨hc.1, hc.2.1⟩, if_neg (by decide), if_neg (by omega), parseUint10] at hu
      injection hu with hu
      have h48 : c ≠ 48 := fun e => hh (by rw [e]; rfl)
      have h49 : c.toNat ≠ 48 := fun e => h48 (UInt8.toNat_inj.1 e)
      obtain rfl : u = c.toNat - 48 := by omega
      refine ⟨by omega, ?_⟩
      rw [decDigits_one (by omega)]
      simp [hc.2.2]
    · have hh' : l'.head? ≠ some 48 := fun e => hh (by
        cases l' with
        | nil => exact absurd rfl h0
        | cons y t => simpa using e)
      have hi := ih l' (by simp at hl; omega) h0 hh' (fun b hb => hd b (by simp [hb]))
      cases hp : parseUint10 0 l' with
      | «syntax» => rw [hp] at hu; cases hu
      | range => rw [hp] at hu; cases hu
      | ok a =>
        rw [hp] at hu
        have ha := hi a hp
        simp only at hu
        rw [parseUint10, if_pos ⟨hc.1, hc.2.1⟩] at hu
        split at hu
        · cases hu
        · split at hu
          · cases hu
          · rw [parseUint10] at hu
            injection hu with hu
            have e1 : u / 10 = a := by omega
            have e2 : u % 10 = c.toNat - 48 := by omega
            refine ⟨by omega, ?_⟩
            rw [decDigits, dif_neg (by omega), e1, e2, ha.2, hc.2.2]
theorem cnt_inv {d : List UInt8} (hd : ∀ b ∈ d, dig b = true) (h : cntBad d = false) : ∃ u : Nat, u < 9223372036854775808 ∧ cntVal d = (u : Int) ∧ d = decDigits u := by
  cases d with
  | nil => cases h
  | cons c r =>
    have hc := dig_num (hd c List.mem_cons_self)
    have h43 : ¬ (c.toNat = 43 ∨ c.toNat = 45) := by omega
    have h45 : ¬ c.toNat = 45 := by omega
    have hm : parseMag (c :: r) = parseUint10 0 (c :: r) := by unfold parseMag; rw [if_neg (by simp)]
    have ha : atoiAll (c :: r) = match parseUint10 0 (c :: r) with
        | .syntax => .syntax
        | .range => .range
        | .ok u => if 9223372036854775808 ≤ u then .range else .ok (u : Int) := by
      unfold atoiAll
      simp only [if_neg h43, hm]
      cases parseUint10 0 (c :: r) <;> simp [h45]
    unfold cntBad at h
    unfold cntVal
    rw [ha] at h ⊢
    cases hp : parseUint10 0 (c :: r) with
    | «syntax» => rw [hp] at h; cases h
    | range => rw [hp] at h; cases h
    | ok u =>
      rw [hp] at h
      simp only at h ⊢
      by_cases hu : 9223372036854775808 ≤ u
      · rw [if_pos hu] at h; cases h
      · rw [if_neg hu] at h ⊢
        refine ⟨u, by omega, rfl, ?_⟩
        by_cases h48 : c = 48
        · subst h48
          simp at h
          subst h
          have e : parseUint10 0 [48] = .ok 0 := by rfl
          rw [e] at hp
          injection hp with hp
          rw [← hp, decDigits_one (by decide)]
          rfl
        · exact (dec_parse _ (c :: r) (Nat.le_refl _) (by simp) (by simp [h48]) hd u hp).2.symm
theorem digs_all (r : List UInt8) : ∀ b ∈ digs r, dig b = true := by
  unfold digs
  induction r with
  | nil => intro b hb; cases hb
  | cons c t ih =>
    intro b hb
    rw [List.takeWhile_cons] at hb
    by_cases h : dig c = true
    · rw [if_pos h] at hb
      rcases List.mem_cons.1 hb with e | e
      · rw [e]; exact h
      · exact ih b e
    · rw [if_neg h] at hb; cases hb
theorem digs_app (r : List UInt8) : digs r ++ trimLeftS r cs10 = r := List.takeWhile_append_dropWhile
theorem ah_inv {r p : List UInt8} {b : Bool} (h : (ahP r b p).2.2 = false) : b = false ∧ ∃ u : Nat, u < 9223372036854775808 ∧ (ahP r b p).1 = (u : Int) ∧ r = decDigits u ++ (p ++ (ahP r b p).2.1) := by
  unfold ahP at h ⊢
  simp only [Bool.or_eq_false_iff, Bool.not_eq_false'] at h
  obtain ⟨⟨h1, h2⟩, h3⟩ := h
  obtain ⟨u, hu, hv, hd⟩ := cnt_inv (digs_all r) h2
  refine ⟨h1, u, hu, hv, ?_⟩
  show r = decDigits u ++ (p ++ trimPrefix (trimLeftS r cs10) p)
  rw [← hasP_inv h3, ← hd, digs_app]
theorem lit_inv {r : List UInt8} (h2 : litBad r = false) (h3 : hasPrefix (litRest r) [32] = true) (h4 : litVal r ≠ 0) : r = itoa (litVal r) ++ 32 :: trimPrefix (litRest r) [32] := by
  have e3 := hasP_inv h3
  unfold litBad at h2
  obtain ⟨u, hu, hv, hd⟩ := cnt_inv (digs_all _) h2
  have e4 : decDigits u ++ litRest r = trimPrefix r [45] := by
    unfold litRest
    rw [← hd]
    exact digs_app _
  have e5 : decDigits u ++ (32 :: trimPrefix (litRest r) [32]) = trimPrefix r [45] := by rw [← e4]; exact congrArg _ e3.symm
  by_cases hm : hasPrefix r [45] = true
  · have hl : litVal r = -(u : Int) := by
      unfold litVal
      rw [if_pos hm, hv]
      unfold wrap64
      omega
    rw [hl] at h4 ⊢
    have e1 := hasP_inv hm
    have ei : itoa (-(u : Int)) = 45 :: decDigits u := by
      unfold itoa
      rw [if_pos (by omega), show (-(u : Int)).natAbs = u by omega]
    rw [ei, List.cons_append, e5]
    exact e1
  · have hl : litVal r = (u : Int) := by
      unfold litVal
      rw [if_neg hm, hv]
    have e1 : trimPrefix r [45] = r := by unfold trimPrefix; rw [if_neg hm]
    have ei : itoa (u : Int) = decDigits u := by unfold itoa; rw [if_neg (by omega), Int.toNat_natCast]
    rw [hl, ei, e5, e1]
theorem clGo_inv : ∀ (n : Nat) (r : List UInt8) (acc : List Int), (clGo n r false acc).2.2 = false → (∀ x ∈ (clGo n r false acc).1, x ≠ 0) → ∃ c, (clGo n r false acc).1 = acc ++ c ∧ r = litsT c ++ (clGo n r false acc).2.1
  | 0, r, acc, _, _ => ⟨[], by rw [List.append_nil]; rfl, rfl⟩
  | n + 1, r, acc, h, h0 => by
    by_cases hs : hasPrefix r [48] = true
    · rw [clGo_stop (.inr hs)]
      exact ⟨[], by rw [List.append_nil], rfl⟩
    · have e := clGo_step (r := r) (b := false) (by simp [hs]) n acc
      rw [e] at h h0 ⊢
      cases hb : (false || litBad r || !hasPrefix (litRest r) [32]) with
      | true =>
        rw [hb, clGo_stop (.inl rfl)] at h
        cases h
      | false =>
        rw [hb] at h h0
        obtain ⟨c, h1, h2⟩ := clGo_inv n _ _ h h0
        simp only [Bool.false_or, Bool.or_eq_false_iff, Bool.not_eq_false'] at hb
        have hx : litVal r ≠ 0 := h0 _ (by rw [h1]; simp)
        have hl := lit_inv hb.1 hb.2 hx
        refine ⟨litVal r :: c, by rw [h1]; simp, ?_⟩
        have e2 : litsT (litVal r :: c) = (itoa (litVal r) ++ [32]) ++ litsT c := rfl
        rw [e2, List.append_assoc, ← h2, List.append_assoc]
        exact hl
theorem clP_inv {r : List UInt8} (h : (clP r false).2.2 = false) (h0 : ∀ x ∈ (clP r false).1, x ≠ 0) : r = clT (clP r false).1 ++ (clP r false).2.1 := by
  unfold clP at h h0 ⊢
  simp only [Bool.or_eq_false_iff, Bool.not_eq_false'] at h h0 ⊢
  obtain ⟨c, h1, h2⟩ := clGo_inv _ r [] h.1 h0
  have h3 := hasP_inv h.2
  rw [h1, List.nil_append, clT_eq, List.append_assoc, ← h3]
  exact h2
theorem csGo_inv : ∀ (n : Nat) (acc : List (List Int)) (r : List UInt8), (csGo n acc r false).2.2 = false → (∀ c ∈ (csGo n acc r false).1, ∀ x ∈ c, x ≠ 0) → ∃ L : List (List Int), L.length = n ∧ (csGo n acc r false).1 = acc ++ L ∧ r = clsT L ++ (csGo n acc r false).2.1
  | 0, acc, r, _, _ => ⟨[], rfl, by rw [List.append_nil]; rfl, rfl⟩
  | n + 1, acc, r, h, h0 => by
    rw [csGo] at h h0 ⊢
    by_cases hb : (clP r false).2.2 = true
    · rw [if_pos hb] at h; cases h
    · rw [if_neg hb] at h h0 ⊢
      obtain ⟨L, h1, h2, h3⟩ := csGo_inv n _ _ h h0
      have hc := clP_inv (by simpa using hb) (fun x hx => h0 _ (by rw [h2]; simp) x hx)
      refine ⟨(clP r false).1 :: L, by simp [h1], by rw [h2]; simp, ?_⟩
      have e : clsT ((clP r false).1 :: L) = clT (clP r false).1 ++ clsT L := rfl
      rw [e, List.append_assoc, ← h3]
      exact hc
theorem formP_inv {s : List UInt8} {vs : Int} {L : List (List Int)} (h : formP s = (vs, L, [], false)) (hc : check ⟨vs, L⟩ = 0) : s = txt ⟨vs, L⟩ := by
  have hok := check_ok.1 hc
  simp only at hok
  have hne : ∀ c ∈ L, ∀ x ∈ c, x ≠ 0 := fun c hc x hx => (fair_bnd (fairs_mem hok.2.2.2 hc hx)).1
  unfold formP at h
  simp only [Prod.mk.injEq] at h
  obtain ⟨h1, h2, h3, h4⟩ := h
  rw [if_pos h3] at h4
  generalize hp2 : ahP (ahP (trimPrefix s hd6) (false || !hasPrefix s hd6) [32]).2.1 (ahP (trimPrefix s hd6) (false || !hasPrefix s hd6) [32]).2.2 [10] = p2 at h2 h3 h4
  cases hb2 : p2.2.2 with
  | true =>
    rw [hb2] at h4
    exfalso
    revert h4
    cases p2.1.toNat with
    | zero => intro h; cases h
    | succ n =>
      rw [csGo]
      have hx : (clP p2.2.1 true).2.2 = true := by
        unfold clP
        rw [clGo_stop (.inl rfl)]
        rfl
      rw [if_pos hx]
      intro h
      cases h
  | false =>
    rw [hb2] at h2 h3 h4
    obtain ⟨L', hn, hl, hr⟩ := csGo_inv _ _ _ h4 (by rw [h2]; exact hne)
    rw [h2, List.nil_append] at hl
    subst hl
    rw [h3, List.append_nil] at hr
    rw [← hp2] at hb2
    obtain ⟨hb1, u2, hu2, hv2, hs2⟩ := ah_inv hb2
    rw [hp2] at hv2 hs2
    obtain ⟨hb0, u1, hu1, hv1, hs1⟩ := ah_inv hb1
    rw [h1] at hv1
    simp only [Bool.false_or, Bool.not_eq_false'] at hb0
    have hs0 := hasP_inv hb0
    rw [hv2, Int.toNat_natCast] at hn
    have e1 : itoa vs = decDigits u1 := by rw [hv1]; unfold itoa; rw [if_neg (by omega), Int.toNat_natCast]
    have e2 : itoa (L.length : Int) = decDigits u2 := by rw [hn]; unfold itoa; rw [if_neg (by omega), Int.toNat_natCast]
    rw [hs1, hs2, hr] at hs0
    rw [hs0]
    unfold txt headT
    rw [e1, e2]
    simp [hd6]
/-- a text is that of a formula that Check takes just where it is read so -/
theorem formP_iff {s : List UInt8} : (∃ f : Fm, check f = 0 ∧ txt f = s) ↔ (formP s).2.2 = ([], false) ∧ check ⟨(formP s).1, (formP s).2.1⟩ = 0 := by
  constructor
  · rintro ⟨f, h1, rfl⟩
    rw [formP_text h1]
    exact ⟨rfl, h1⟩
  · rintro ⟨h1, h2⟩
    exact ⟨_, h2, (formP_inv (s := s) (by rw [← h1]) h2).symm⟩
/-! the document's own reading -/
def wd : Nat → List UInt8 → Int → Int × List UInt8
  | 0, r, n => (n, r)
  | _ + 1, [], n => (n, [])
  | m + 1, c :: t, n => if 48 ≤ c.toNat ∧ c.toNat ≤ 57 then wd m t (10 * n + ((c.toNat : Int) - 48)) else (n, c :: t)
def rwd (r : List UInt8) : Int × List UInt8 × Bool := if r.head? = some 45 then (-(wd 8 (r.drop 1) 0).1, (wd 8 (r.drop 1) 0).2, true) else ((wd 9 r 0).1, (wd 9 r 0).2, decide ((wd 9 r 0).2.length < r.length))
def pfGo : Nat → List UInt8 → List Int → List (List Int) → Option (List (List Int))
  | 0, _, _, _ => none
  | _ + 1, [], _, acc => some acc
  | n + 1, c :: t, cur, acc => if (rwd (c :: t)).2.2 = true then (if (rwd (c :: t)).1 = 0 then pfGo n ((rwd (c :: t)).2.1.drop 1) [] (acc ++ [cur]) else pfGo n ((rwd (c :: t)).2.1.drop 1) (cur ++ [(rwd (c :: t)).1]) acc) else none
def pfR (s : List UInt8) : Option Fm :=
  if s.length < 7 ∨ s.take 6 ≠ hd6 then none
  else if (rwd (s.drop 6)).2.2 = false ∨ (rwd (s.drop 6)).2.1 = [] then none
  else if (rwd ((rwd (s.drop 6)).2.1.drop 1)).2.2 = false ∨ (rwd ((rwd (s.drop 6)).2.1.drop 1)).2.1 = [] then none
  else (pfGo (s.length + 1) ((rwd ((rwd (s.drop 6)).2.1.drop 1)).2.1.drop 1) [] []).map fun L => ⟨(rwd (s.drop 6)).1, L⟩
def pf (s : List UInt8) : Option Fm := match pfR s with
  | some f => if check f = 0 ∧ textOf f = s then some f else none
  | none => none
theorem wd_len : ∀ (m : Nat) (r : List UInt8) (n : Int), (wd m r n).2.length ≤ r.length
  | 0, _, _ => Nat.le_refl _
  | _ + 1, [], _ => Nat.le_refl _
  | m + 1, c :: t, n => by
    rw [wd]
    split
    · have := wd_len m t (10 * n + ((c.toNat : Int) - 48))
      simp
      omega
    · exact Nat.le_refl _
theorem wd_app (c : UInt8) (hc : ¬ (48 ≤ c.toNat ∧ c.toNat ≤ 57)) (r : List UInt8) : ∀ (l : List UInt8) (m : Nat) (n : Int), (∀ b ∈ l, dig b = true) → l.length ≤ m → wd m (l ++ c :: r) n = (l.foldl (fun a b => 10 * a + ((b.toNat : Int) - 48)) n, c :: r)
  | [], 0, n, _, _ => rfl
  | [], m + 1, n, _, _ => by rw [List.nil_append, wd, if_neg hc]; rfl
  | b :: l, 0, n, _, h => absurd h (by simp)
  | b :: l, m + 1, n, hd, h => by
    have hb := dig_num (hd b List.mem_cons_self)
    rw [List.cons_append, wd, if_pos ⟨hb.1, hb.2.1⟩, wd_app c hc r l m _ (fun x hx => hd x (List.mem_cons_of_mem _ hx)) (by simpa using h)]
    rfl
theorem dec_fold : ∀ (k u : Nat), u ≤ k → (decDigits u).foldl (fun (a : Int) (b : UInt8) => 10 * a + ((b.toNat : Int) - 48)) 0 = (u : Int) := by
  intro k
  induction k with
  | zero =>
    intro u hu
    obtain rfl : u = 0 := by omega
    rw [decDigits_one (by decide)]
    rfl
  | succ k ih =>
    intro u hu
    by_cases h : u < 10
    · rw [decDigits_one h]
      have := (dig_of h).2
      simp only [List.foldl_cons, List.foldl_nil, this]
      omega
    · have hd := (dig_of (Nat.mod_lt u (show 10 > 0 by decide))).2
      rw [decDigits, dif_neg h, List.foldl_append, ih (u / 10) (by omega)]
      simp only [List.foldl_cons, List.foldl_nil, hd]
      omega
theorem dec_len : ∀ (k u : Nat), u < 10 ^ (k + 1) → (decDigits u).length ≤ k + 1 := by
  intro k
  induction k with
  | zero => intro u hu; rw [decDigits_one (by omega)]; simp
  | succ k ih =>
    intro u hu
    by_cases h : u < 10
    · rw [decDigits_one h]; simp
    · rw [decDigits, dif_neg h, List.length_append]
      have := ih (u / 10) (by rw [Nat.pow_succ] at hu; omega)
      simp
      omega
theorem rwd_itoa {x : Int} (h : -200000 ≤ x ∧ x ≤ 200000) (c : UInt8) (hc : ¬ (48 ≤ c.toNat ∧ c.toNat ≤ 57)) (r : List UInt8) : rwd (itoa x ++ c :: r) = (x, c :: r, true) := by
  unfold rwd itoa
  by_cases h0 : x < 0
  · rw [if_pos h0, List.cons_append, if_pos (by rfl), List.drop_one, List.tail_cons]
    have hl := dec_len 5 x.natAbs (by omega)
    rw [wd_app c hc r _ 8 0 (dec_dig _ _ (Nat.le_refl _)) (by omega), dec_fold _ _ (Nat.le_refl _)]
    simp only [Prod.mk.injEq, and_true]
    omega
  · have hl := dec_len 5 x.toNat (by omega)
    have hn := dec_ne x.toNat
    have hd := dec_dig x.toNat x.toNat (Nat.le_refl _)
    have hf := dec_fold x.toNat x.toNat (Nat.le_refl _)
    rw [if_neg h0]
    generalize decDigits x.toNat = l at *
    have hh : ¬ (l ++ c :: r).head? = some 45 := by
      cases l with
      | nil => exact absurd rfl hn
      | cons y t =>
        intro e
        have h1 := dig_num (hd y List.mem_cons_self)
        simp at e
        rw [e] at h1
        exact absurd h1.1 (by decide)
    rw [if_neg hh, wd_app c hc r l 9 0 hd (by omega), hf]
    simp only [Prod.mk.injEq]
    refine ⟨by omega, trivial, ?_⟩
    rw [decide_eq_true_iff, List.length_append]
    have := List.length_pos_iff.2 hn
    omega
theorem itoa_ne (x : Int) : ∃ y t, itoa x = y :: t := by
  unfold itoa
  split
  · exact ⟨_, _, rfl⟩
  · have := dec_ne x.toNat
    cases h : decDigits x.toNat with
    | nil => exact absurd h this
    | cons y t => exact ⟨_, _, rfl⟩
theorem pf_lits (r : List UInt8) (acc : List (List Int)) : ∀ (c : List Int) (n : Nat) (cur : List Int), (∀ x ∈ c, x ≠ 0 ∧ -200000 ≤ x ∧ x ≤ 200000) → (clT c).length ≤ n → ∃ n', n ≤ n' + (clT c).length ∧ pfGo n (clT c ++ r) cur acc = pfGo n' r [] (acc ++ [cur ++ c])
  | [], n, cur, _, hn => by
    obtain ⟨m, rfl⟩ : ∃ m, n = m + 1 := ⟨n - 1, by have : (clT []).length = 2 := rfl; omega⟩
    have e : rwd (48 :: 10 :: r) = (0, 10 :: r, true) := by
      have := rwd_itoa (x := 0) (by omega) 10 (by decide) r
      have ei : itoa 0 = [48] := by unfold itoa; rw [if_neg (by decide), show (0 : Int).toNat = 0 from rfl, decDigits_one (by decide)]; rfl
      rw [ei] at this
      exact this
    refine ⟨m, by have : (clT []).length = 2 := rfl; omega, ?_⟩
    show pfGo (m + 1) (48 :: 10 :: r) cur acc = _
    rw [pfGo, e]
    simp
  | x :: c, n, cur, h, hn => by
    have e1 : clT (x :: c) = itoa x ++ 32 :: clT c := by
      show ((itoa x ++ [32]) ++ litsT c) ++ [48, 10] = _
      rw [clT_eq]
      simp
    have hx := h x List.mem_cons_self
    have er := rwd_itoa hx.2 32 (by decide) (clT c ++ r)
    obtain ⟨y, t, hy⟩ := itoa_ne x
    rw [e1, hy] at hn ⊢
    rw [hy] at er
    simp only [List.length_append, List.length_cons] at hn
    obtain ⟨m, rfl⟩ : ∃ m, n = m + 1 := ⟨n - 1, by omega⟩
    obtain ⟨n', h1, h2⟩ := pf_lits r acc c m (cur ++ [x]) (fun z hz => h z (List.mem_cons_of_mem _ hz)) (by omega)
    refine ⟨n', by simp only [List.length_append, List.length_cons]; omega, ?_⟩
    have e2 : (y :: t) ++ 32 :: clT c ++ r = y :: (t ++ 32 :: (clT c ++ r)) := by simp
    rw [e2, pfGo]
    rw [List.cons_append] at er
    rw [er]
    simp only [if_true, if_neg hx.1, List.drop_one, List.tail_cons]
    rw [h2]
    simp
theorem pf_cls : ∀ (L : List (List Int)) (n : Nat) (acc : List (List Int)), (∀ c ∈ L, ∀ x ∈ c, x ≠ 0 ∧ -200000 ≤ x ∧ x ≤ 200000) → (clsT L).length < n → pfGo n (clsT L) [] acc = some (acc ++ L)
  | [], n, acc, _, hn => by
    obtain ⟨m, rfl⟩ : ∃ m, n = m + 1 := ⟨n - 1, by omega⟩
    rw [List.append_nil]
    rfl
  | c :: L, n, acc, h, hn => by
    have e : clsT (c :: L) = clT c ++ clsT L := rfl
    rw [e, List.length_append] at hn
    obtain ⟨n', h1, h2⟩ := pf_lits (clsT L) acc c n [] (h c List.mem_cons_self) (by omega)
    rw [e, h2, pf_cls L n' _ (fun d hd => h d (List.mem_cons_of_mem _ hd)) (by omega)]
    simp
theorem pfR_text {f : Fm} (h : check f = 0) : pfR (txt f) = some f := by
  obtain ⟨vs, L⟩ := f
  have hok := check_ok.1 h
  simp only at hok
  have hwl := wt_len L
  have hb : ∀ c ∈ L, ∀ x ∈ c, x ≠ 0 ∧ -200000 ≤ x ∧ x ≤ 200000 := fun c hc x hx => by
    have := fair_bnd (fairs_mem hok.2.2.2 hc hx)
    omega
  have e3 : txt ⟨vs, L⟩ = hd6 ++ (itoa vs ++ 32 :: (itoa (L.length : Int) ++ 10 :: clsT L)) := by
    unfold txt headT
    simp [hd6]
  obtain ⟨y, t, hy⟩ := itoa_ne vs
  have hl : (txt ⟨vs, L⟩).length = 6 + ((itoa vs).length + ((itoa (L.length : Int)).length + (clsT L).length + 1) + 1) := by
    rw [e3]
    simp [hd6]
    omega
  have hl1 : 0 < (itoa vs).length := by rw [hy]; simp
  have e4 : (txt ⟨vs, L⟩).take 6 = hd6 := by rw [e3]; rfl
  have e5 : (txt ⟨vs, L⟩).drop 6 = itoa vs ++ 32 :: (itoa (L.length : Int) ++ 10 :: clsT L) := by rw [e3]; rfl
  have r1 := rwd_itoa (x := vs) (by omega) 32 (by decide) (itoa (L.length : Int) ++ 10 :: clsT L)
  have r2 := rwd_itoa (x := (L.length : Int)) (by omega) 10 (by decide) (clsT L)
  unfold pfR
  rw [e4, e5, r1]
  simp only [List.drop_one, List.tail_cons, r2]
  rw [if_neg (by simp; omega), if_neg (by simp), if_neg (by simp), pf_cls L _ [] hb (by omega)]
  simp
theorem pf_some {s : List UInt8} {f : Fm} (h : check f = 0) (hs : txt f = s) : pf s = some f := by
  subst hs
  unfold pf
  rw [pfR_text h]
  have e : textOf f = txt f := by unfold textOf; rw [if_pos h]
  simp only [e, h, and_self, if_true]
theorem pf_none {s : List UInt8} (h : ¬ ∃ f : Fm, check f = 0 ∧ txt f = s) : pf s = none := by
  unfold pf
  cases hp : pfR s with
  | none => rfl
  | some f =>
    simp only
    rw [if_neg]
    rintro ⟨h1, h2⟩
    refine h ⟨f, h1, ?_⟩
    unfold textOf at h2
    rwa [if_pos h1] at h2
end Cn
end Go.Proofs.YtdhgopcfjomjaaaDoor

/- metronomeref22.word. -/
namespace Go.Proofs.YtdhgopcfjomjaaaDoor
open Go.RowKit Go.Maps Go.WideMaps
open Go.Lib hiding intOf run_convert_string_bytes
open Cn (I64)

namespace Cn
theorem wd_stop {m : Nat} {r : List UInt8} {n : Int} (h : m = 0 ∨ r = [] ∨ ∃ c t, r = c :: t ∧ ¬ (48 ≤ c.toNat ∧ c.toNat ≤ 57)) : wd m r n = (n, r) := by
  cases m with
  | zero => rfl
  | succ m =>
    rcases h with h | rfl | ⟨c, t, rfl, h⟩
    · omega
    · rfl
    · rw [wd, if_neg h]
theorem wd_step {m : Nat} {c : UInt8} {t : List UInt8} {n : Int} (h : 48 ≤ c.toNat ∧ c.toNat ≤ 57) : wd (m + 1) (c :: t) n = wd m t (10 * n + ((c.toNat : Int) - 48)) := by rw [wd, if_pos h]
/-- the loop of word -/
def WdI (s : List UInt8) (i j k m u : Nat) (R : Int × List UInt8) : Prop := k ≤ s.length ∧ j ≤ k ∧ (k - i) + m = 9 ∧ i ≤ j ∧ u < 10 ^ (9 - m) ∧ wd m (s.drop k) (u : Int) = R
theorem WdI.small {s : List UInt8} {i j k m u : Nat} {R : Int × List UInt8} (h : WdI s i j k m u R) : u < 1000000000 := Nat.lt_of_lt_of_le h.2.2.2.2.1 (Nat.pow_le_pow_right (by decide) (by omega) : 10 ^ (9 - m) ≤ 10 ^ 9)
theorem WdI.next {s : List UInt8} {i j k m u : Nat} {R : Int × List UInt8} {c : UInt8} (h : WdI s i j k (m + 1) u R) (hc : s[k]? = some c) (hd : 48 ≤ c.toNat ∧ c.toNat ≤ 57) : WdI s i j (k + 1) m (10 * u + (c.toNat - 48)) R := by
  obtain ⟨h1, h2, h3, h4, h5, h6⟩ := h
  have hk : k < s.length := (List.getElem?_eq_some_iff.1 hc).1
  have e : s.drop k = c :: s.drop (k + 1) := by rw [List.drop_eq_getElem_cons hk, (List.getElem?_eq_some_iff.1 hc).2]
  rw [e, wd_step hd] at h6
  refine ⟨by omega, by omega, by omega, h4, ?_, ?_⟩
  · have e2 : 9 - m = (9 - (m + 1)) + 1 := by omega
    rw [e2, Nat.pow_succ]
    omega
  · rw [← h6]
    congr 1
    omega
theorem WdI.stop {s : List UInt8} {i j k m u : Nat} {R : Int × List UInt8} (h : WdI s i j k m u R) (hs : m = 0 ∨ k = s.length ∨ ∃ c, s[k]? = some c ∧ ¬ (48 ≤ c.toNat ∧ c.toNat ≤ 57)) : R = ((u : Int), s.drop k) := by
  rw [← h.2.2.2.2.2]
  apply wd_stop
  rcases hs with hs | rfl | ⟨c, hc, hd⟩
  · exact .inl hs
  · exact .inr (.inl (by simp))
  · have hk : k < s.length := (List.getElem?_eq_some_iff.1 hc).1
    exact .inr (.inr ⟨c, s.drop (k + 1), by rw [List.drop_eq_getElem_cons hk, (List.getElem?_eq_some_iff.1 hc).2], hd⟩)
theorem rwd_minus {s : List UInt8} {i k m u : Nat} (hm : (s.drop i).head? = some 45) (h : WdI s i (i + 1) k m u (wd 8 (s.drop (i + 1)) 0)) (hs : m = 0 ∨ k = s.length ∨ ∃ c, s[k]? = some c ∧ ¬ (48 ≤ c.toNat ∧ c.toNat ≤ 57)) : rwd (s.drop i) = (-(u : Int), s.drop k, true) ∧ i < k := by
  have e := h.stop hs
  unfold rwd
  rw [if_pos hm, List.drop_drop, e]
  exact ⟨rfl, h.2.1⟩
theorem rwd_plain {s : List UInt8} {i k m u : Nat} (hm : ¬ (s.drop i).head? = some 45) (hi : i ≤ s.length) (h : WdI s i i k m u (wd 9 (s.drop i) 0)) (hs : m = 0 ∨ k = s.length ∨ ∃ c, s[k]? = some c ∧ ¬ (48 ≤ c.toNat ∧ c.toNat ≤ 57)) : rwd (s.drop i) = ((u : Int), s.drop k, decide (i < k)) := by
  have e := h.stop hs
  unfold rwd
  rw [if_neg hm, e]
  have h1 := h.1
  simp only [List.length_drop, Prod.mk.injEq, true_and]
  rw [decide_eq_decide]
  omega
end Cn
/-- what word answers -/
def WdP (w : World) (s : List UInt8) (i : Nat) (e : Ending) (w' : World) : Prop := ∃ k : Nat, k ≤ s.length ∧ i ≤ k ∧ (Cn.rwd (s.drop i)).2.1 = s.drop k ∧ ((Cn.rwd (s.drop i)).2.2 = true → i < k) ∧ e = .returned (.tuple #[.int .i64 (Cn.rwd (s.drop i)).1, .int .i64 (k : Int), .bool (Cn.rwd (s.drop i)).2.2]) ∧ w.grownBy w' none ∧ -1000000000 ≤ (Cn.rwd (s.drop i)).1 ∧ (Cn.rwd (s.drop i)).1 ≤ 1000000000
set_option maxRecDepth 100000 in
set_option maxHeartbeats 4000000 in
theorem rword_any (w : World) (s : List UInt8) (i : Nat) (hi : i ≤ s.length) (hl : s.length ≤ 2000000) : Calls Tryd.prog 38 #[.string ⟨s.toArray⟩, .int .i64 (i : Int)] w (WdP w s i) := by
  obtain ⟨x, hx⟩ : ∃ x : ByteArray, x = ⟨s.toArray⟩ := ⟨_, rfl⟩
  obtain ⟨N, hN⟩ : ∃ N, N = s.length := ⟨_, rfl⟩
  have hxs : x.size = N := by rw [hx, hN]; simp [ByteArray.size]
  have hget : ∀ (k : Nat) (c : UInt8), s[k]? = some c → ∀ h, ((x[k]'h).toNat : Int) = (c.toNat : Int) := fun k c hc h => by
    subst hx
    have : (⟨s.toArray⟩ : ByteArray)[k]'h = c := by
      have := (List.getElem?_eq_some_iff.1 hc).2
      show s.toArray[k]'_ = c
      simpa using this
    rw [this]
  rw [← hx]
  have hN0 : N ≤ 2000000 := by omega
  have hi0 : i ≤ N := by omega
  have HG := Lib.hid (And.intro hget hN)
  clear hget hx hl hi
  by_cases hm : (s.drop i).head? = some 45
  · have hil : i < N := by
      rcases Nat.lt_or_ge i N with h | h
      · exact h
      · rw [List.drop_eq_nil_of_le (by rw [← hN]; exact h)] at hm; cases hm
    have hc : s[i]? = some 45 := by rwa [List.head?_drop] at hm
    have h0 := HG.out.1 i 45 hc
    have e1 : decide ((i : Int) < (N : Int)) = true := xT (by omega)
    have w1 : wrap64 ((i : Int) + 1) = ((i + 1 : Nat) : Int) := by unfold wrap64; omega
    have HM := Lib.hid hm
    clear hm hc hN
    have p1 : (i : Int) < (N : Int) := by omega
    go_enter Tryd.func38, Tryd.ntmps38
    go_wp2
    clear e1 p1 w1 h0
    go_loopw [1, 9] (fun iv nv wr => ∃ k m u : Nat, iv = .int .i64 (k : Int) ∧ nv = .int .i64 (u : Int) ∧ k ≤ N ∧ Hid (Cn.WdI s i (i + 1) k m u (Cn.wd 8 (s.drop (i + 1)) 0)) ∧ Hid (w.grownBy wr none)) (fun iv _ _ => N - (intOf iv).toNat)
    case atStart => exact ⟨i + 1, 8, 0, rfl, rfl, by omega, Lib.hid ⟨by rw [← HG.out.2]; omega, Nat.le_refl _, by omega, by omega, by decide, rfl⟩, Lib.hid (by first | exact World.grownBy.refl _ _ | exact gdrew _ _)⟩
    case round =>
      obtain ⟨k, m, u, rfl, rfl, hk, HI, HW⟩ := hrel
      have hu := HI.out.small
      by_cases hkN : k < N
      · obtain ⟨c, hc⟩ : ∃ c, s[k]? = some c := ⟨_, List.getElem?_eq_getElem (by rw [← HG.out.2]; exact hkN)⟩
        have hgc := HG.out.1 k c hc
        obtain ⟨C, hC⟩ : ∃ C, C = c.toNat := ⟨_, rfl⟩
        rw [← hC] at hgc
        have hC2 : C < 256 := by rw [hC]; exact c.toNat_lt
        have k1 : decide ((k : Int) < (N : Int)) = true := xT (by omega)
        have p1 : (k : Int) < (N : Int) := by omega
        by_cases hd : 48 ≤ C ∧ C ≤ 57
        · have c1 : decide ((48 : Int) ≤ (C : Int)) = true := xT (by omega)
          have c2 : decide ((C : Int) ≤ 57) = true := xT (by omega)
          have hki := HI.out.2.2.1
          have hji := HI.out.2.1
          have hij := HI.out.2.2.2.1
          cases m with
          | zero =>
            have c4 : ¬ (k : Int) - (i : Int) < 9 := by omega
            have c3 : decide ((k : Int) - (i : Int) < 9) = false := xF c4
            clear hki hji hij hd
            have hr := Cn.rwd_minus HM.out HI.out (.inl rfl)
            have hur := HI.out.small
            have w2 : decide (i < k) = true := decide_eq_true hr.2
            have HR := Lib.hid hr; clear hr hc hC
            go_wp2
            refine bodyPost_ret (results_tmp3 rfl _ _ _) rfl ?_
            refine ⟨k, by rw [← HG.out.2]; exact hk, Nat.le_of_lt HR.out.2, by rw [HR.out.1], fun _ => HR.out.2, ?_, HW.out, by rw [HR.out.1]; show -1000000000 ≤ -(u : Int); omega, by rw [HR.out.1]; show -(u : Int) ≤ 1000000000; omega⟩
            rw [HR.out.1]
            rfl
          | succ m =>
            have c4 : (k : Int) - (i : Int) < 9 := by omega
            have c3 : decide ((k : Int) - (i : Int) < 9) = true := xT c4
            have hnx := HI.out.next hc (by rw [← hC]; exact hd)
            rw [← hC] at hnx
            have HX := Lib.hid (And.intro hnx hd)
            have p2 : (C : Int) - 48 ≤ 9 ∧ 0 ≤ (C : Int) - 48 := by omega
            clear hnx hc hC hd hki hji hij
            go_wp2
            have hd := HX.out.2
            refine ⟨⟨k + 1, m, 10 * u + (C - 48), by rw [Int.natCast_add]; rfl, congrArg (Value.int .i64) (by omega), hkN, Lib.hid HX.out.1, HW⟩, ?_⟩
            simp only [intOf]
            omega
        · rcases Nat.lt_or_ge C 48 with h48 | h48
          · have c1 : decide ((48 : Int) ≤ (C : Int)) = false := xF (by omega)
            have hr := Cn.rwd_minus HM.out HI.out (.inr (.inr ⟨c, hc, by rw [← hC]; exact hd⟩))
            have hur := HI.out.small
            have w2 : decide (i < k) = true := decide_eq_true hr.2
            have HR := Lib.hid hr; clear hr hc hC hd h48
            go_wp2
            refine bodyPost_ret (results_tmp3 rfl _ _ _) rfl ?_
            refine ⟨k, by rw [← HG.out.2]; exact hk, Nat.le_of_lt HR.out.2, by rw [HR.out.1], fun _ => HR.out.2, ?_, HW.out, by rw [HR.out.1]; show -1000000000 ≤ -(u : Int); omega, by rw [HR.out.1]; show -(u : Int) ≤ 1000000000; omega⟩
            rw [HR.out.1]
            rfl
          · have c1 : decide ((48 : Int) ≤ (C : Int)) = true := xT (by omega)
            have c2 : decide ((C : Int) ≤ 57) = false := xF (by omega)
            have hr := Cn.rwd_minus HM.out HI.out (.inr (.inr ⟨c, hc, by rw [← hC]; exact hd⟩))
            have hur := HI.out.small
            have w2 : decide (i < k) = true := decide_eq_true hr.2
            have HR := Lib.hid hr; clear hr hc hC hd h48
            go_wp2
            refine bodyPost_ret (results_tmp3 rfl _ _ _) rfl ?_
            refine ⟨k, by rw [← HG.out.2]; exact hk, Nat.le_of_lt HR.out.2, by rw [HR.out.1], fun _ => HR.out.2, ?_, HW.out, by rw [HR.out.1]; show -1000000000 ≤ -(u : Int); omega, by rw [HR.out.1]; show -(u : Int) ≤ 1000000000; omega⟩
            rw [HR.out.1]
            rfl
      · have p1 : ¬ (k : Int) < (N : Int) := by omega
        have k1 : decide ((k : Int) < (N : Int)) = false := xF (by omega)
        have hr := Cn.rwd_minus HM.out HI.out (.inr (.inl (by rw [← HG.out.2]; omega)))
        have hur := HI.out.small
        have w2 : decide (i < k) = true := decide_eq_true hr.2
        have HR := Lib.hid hr; clear hr hkN
        go_wp2
        refine bodyPost_ret (results_tmp3 rfl _ _ _) rfl ?_
        refine ⟨k, by rw [← HG.out.2]; exact hk, Nat.le_of_lt HR.out.2, by rw [HR.out.1], fun _ => HR.out.2, ?_, HW.out, by rw [HR.out.1]; show -1000000000 ≤ -(u : Int); omega, by rw [HR.out.1]; show -(u : Int) ≤ 1000000000; omega⟩
        rw [HR.out.1]
        rfl
  · have HM := Lib.hid hm
    rcases Nat.lt_or_ge i N with hil | hil
    · obtain ⟨c, hc⟩ : ∃ c, s[i]? = some c := ⟨_, List.getElem?_eq_getElem (by rw [← HG.out.2]; exact hil)⟩
      have h0 := HG.out.1 i c hc
      have hcm : ¬ (c.toNat : Int) = 45 := fun h => hm (by rw [List.head?_drop, hc]; exact congrArg some (UInt8.toNat_inj.1 (by show c.toNat = 45; omega)))
      obtain ⟨C, hC⟩ : ∃ C, C = c.toNat := ⟨_, rfl⟩
      rw [← hC] at h0 hcm
      have e2 : ((C : Int) == 45) = false := beq_eq_false_iff_ne.2 hcm
      have e1 : decide ((i : Int) < (N : Int)) = true := xT (by omega)
      have p1 : (i : Int) < (N : Int) := by omega
      clear hm hN hc hC hcm
      go_enter Tryd.func38, Tryd.ntmps38
      go_wp2
      clear e1 e2 p1 h0
      go_loopw [1, 9] (fun iv nv wr => ∃ k m u : Nat, iv = .int .i64 (k : Int) ∧ nv = .int .i64 (u : Int) ∧ k ≤ N ∧ Hid (Cn.WdI s i (i) k m u (Cn.wd 9 (s.drop (i)) 0)) ∧ Hid (w.grownBy wr none)) (fun iv _ _ => N - (intOf iv).toNat)
      case atStart => exact ⟨i, 9, 0, rfl, rfl, by omega, Lib.hid ⟨by rw [← HG.out.2]; omega, Nat.le_refl _, by omega, by omega, by decide, rfl⟩, Lib.hid (by first | exact World.grownBy.refl _ _ | exact gdrew _ _)⟩
      case round =>
        obtain ⟨k, m, u, rfl, rfl, hk, HI, HW⟩ := hrel
        have hu := HI.out.small
        by_cases hkN : k < N
        · obtain ⟨c, hc⟩ : ∃ c, s[k]? = some c := ⟨_, List.getElem?_eq_getElem (by rw [← HG.out.2]; exact hkN)⟩
          have hgc := HG.out.1 k c hc
          obtain ⟨C, hC⟩ : ∃ C, C = c.toNat := ⟨_, rfl⟩
          rw [← hC] at hgc
          have hC2 : C < 256 := by rw [hC]; exact c.toNat_lt
          have k1 : decide ((k : Int) < (N : Int)) = true := xT (by omega)
          have p1 : (k : Int) < (N : Int) := by omega
          by_cases hd : 48 ≤ C ∧ C ≤ 57
          · have c1 : decide ((48 : Int) ≤ (C : Int)) = true := xT (by omega)
            have c2 : decide ((C : Int) ≤ 57) = true := xT (by omega)
            have hki := HI.out.2.2.1
            have hji := HI.out.2.1
            have hij := HI.out.2.2.2.1
            cases m with
            | zero =>
              have c4 : ¬ (k : Int) - (i : Int) < 9 := by omega
              have c3 : decide ((k : Int) - (i : Int) < 9) = false := xF c4
              clear hki hji hij hd
              have hr := Cn.rwd_plain HM.out (by rw [← HG.out.2]; exact hi0) HI.out (.inl rfl)
              have hur := HI.out.small
              have w2 : decide ((i : Int) < (k : Int)) = decide (i < k) := decide_eq_decide.2 (by omega)
              have HR := Lib.hid hr; clear hr hc hC
              go_wp2
              refine bodyPost_ret (results_tmp3 rfl _ _ _) rfl ?_
              refine ⟨k, by rw [← HG.out.2]; exact hk, HI.out.2.1, by rw [HR.out], fun hq => by rw [HR.out] at hq; exact of_decide_eq_true hq, ?_, HW.out, by rw [HR.out]; show -1000000000 ≤ (u : Int); omega, by rw [HR.out]; show (u : Int) ≤ 1000000000; omega⟩
              rw [HR.out]
              rfl
            | succ m =>
              have c4 : (k : Int) - (i : Int) < 9 := by omega
              have c3 : decide ((k : Int) - (i : Int) < 9) = true := xT c4
              have hnx := HI.out.next hc (by rw [← hC]; exact hd)
              rw [← hC] at hnx
              have HX := Lib.hid (And.intro hnx hd)
              have p2 : (C : Int) - 48 ≤ 9 ∧ 0 ≤ (C : Int) - 48 := by omega
              clear hnx hc hC hd hki hji hij
              go_wp2
              have hd := HX.out.2
              refine ⟨⟨k + 1, m, 10 * u + (C - 48), by rw [Int.natCast_add]; rfl, congrArg (Value.int .i64) (by omega), hkN, Lib.hid HX.out.1, HW⟩, ?_⟩
              simp only [intOf]
              omega
          · rcases Nat.lt_or_ge C 48 with h48 | h48
            · have c1 : decide ((48 : Int) ≤ (C : Int)) = false := xF (by omega)
              have hr := Cn.rwd_plain HM.out (by rw [← HG.out.2]; exact hi0) HI.out (.inr (.inr ⟨c, hc, by rw [← hC]; exact hd⟩))
              have hur := HI.out.small
              have w2 : decide ((i : Int) < (k : Int)) = decide (i < k) := decide_eq_decide.2 (by omega)
              have HR := Lib.hid hr; clear hr hc hC hd h48
              go_wp2
              refine bodyPost_ret (results_tmp3 rfl _ _ _) rfl ?_
              refine ⟨k, by rw [← HG.out.2]; exact hk, HI.out.2.1, by rw [HR.out], fun hq => by rw [HR.out] at hq; exact of_decide_eq_true hq, ?_, HW.out, by rw [HR.out]; show -1000000000 ≤ (u : Int); omega, by rw [HR.out]; show (u : Int) ≤ 1000000000; omega⟩
              rw [HR.out]
              rfl
            · have c1 : decide ((48 : Int) ≤ (C : Int)) = true := xT (by omega)
              have c2 : decide ((C : Int) ≤ 57) = false := xF (by omega)
              have hr := Cn.rwd_plain HM.out (by rw [← HG.out.2]; exact hi0) HI.out (.inr (.inr ⟨c, hc, by rw [← hC]; exact hd⟩))
              have hur := HI.out.small
              have w2 : decide ((i : Int) < (k : Int)) = decide (i < k) := decide_eq_decide.2 (by omega)
              have HR := Lib.hid hr; clear hr hc hC hd h48
              go_wp2
              refine bodyPost_ret (results_tmp3 rfl _ _ _) rfl ?_
              refine ⟨k, by rw [← HG.out.2]; exact hk, HI.out.2.1, by rw [HR.out], fun hq => by rw [HR.out] at hq; exact of_decide_eq_true hq, ?_, HW.out, by rw [HR.out]; show -1000000000 ≤ (u : Int); omega, by rw [HR.out]; show (u : Int) ≤ 1000000000; omega⟩
              rw [HR.out]
              rfl
        · have p1 : ¬ (k : Int) < (N : Int) := by omega
          have k1 : decide ((k : Int) < (N : Int)) = false := xF (by omega)
          have hr := Cn.rwd_plain HM.out (by rw [← HG.out.2]; exact hi0) HI.out (.inr (.inl (by rw [← HG.out.2]; omega)))
          have hur := HI.out.small
          have w2 : decide ((i : Int) < (k : Int)) = decide (i < k) := decide_eq_decide.2 (by omega)
          have HR := Lib.hid hr; clear hr hkN
          go_wp2
          refine bodyPost_ret (results_tmp3 rfl _ _ _) rfl ?_
          refine ⟨k, by rw [← HG.out.2]; exact hk, HI.out.2.1, by rw [HR.out], fun hq => by rw [HR.out] at hq; exact of_decide_eq_true hq, ?_, HW.out, by rw [HR.out]; show -1000000000 ≤ (u : Int); omega, by rw [HR.out]; show (u : Int) ≤ 1000000000; omega⟩
          rw [HR.out]
          rfl
    · have e1 : decide ((i : Int) < (N : Int)) = false := xF (by omega)
      clear hm hN
      go_enter Tryd.func38, Tryd.ntmps38
      go_wp2
      clear e1
      go_loopw [1, 9] (fun iv nv wr => ∃ k m u : Nat, iv = .int .i64 (k : Int) ∧ nv = .int .i64 (u : Int) ∧ k ≤ N ∧ Hid (Cn.WdI s i (i) k m u (Cn.wd 9 (s.drop (i)) 0)) ∧ Hid (w.grownBy wr none)) (fun iv _ _ => N - (intOf iv).toNat)
      case atStart => exact ⟨i, 9, 0, rfl, rfl, by omega, Lib.hid ⟨by rw [← HG.out.2]; omega, Nat.le_refl _, by omega, by omega, by decide, rfl⟩, Lib.hid (by first | exact World.grownBy.refl _ _ | exact gdrew _ _)⟩
      case round =>
        obtain ⟨k, m, u, rfl, rfl, hk, HI, HW⟩ := hrel
        have hu := HI.out.small
        by_cases hkN : k < N
        · obtain ⟨c, hc⟩ : ∃ c, s[k]? = some c := ⟨_, List.getElem?_eq_getElem (by rw [← HG.out.2]; exact hkN)⟩
          have hgc := HG.out.1 k c hc
          obtain ⟨C, hC⟩ : ∃ C, C = c.toNat := ⟨_, rfl⟩
          rw [← hC] at hgc
          have hC2 : C < 256 := by rw [hC]; exact c.toNat_lt
          have k1 : decide ((k : Int) < (N : Int)) = true := xT (by omega)
          have p1 : (k : Int) < (N : Int) := by omega
          by_cases hd : 48 ≤ C ∧ C ≤ 57
          · have c1 : decide ((48 : Int) ≤ (C : Int)) = true := xT (by omega)
            have c2 : decide ((C : Int) ≤ 57) = true := xT (by omega)
            have hki := HI.out.2.2.1
            have hji := HI.out.2.1
            have hij := HI.out.2.2.2.1
            cases m with
            | zero =>
              have c4 : ¬ (k : Int) - (i : Int) < 9 := by omega
              have c3 : decide ((k : Int) - (i : Int) < 9) = false := xF c4
              clear hki hji hij hd
              have hr := Cn.rwd_plain HM.out (by rw [← HG.out.2]; exact hi0) HI.out (.inl rfl)
              have hur := HI.out.small
              have w2 : decide ((i : Int) < (k : Int)) = decide (i < k) := decide_eq_decide.2 (by omega)
              have HR := Lib.hid hr; clear hr hc hC
              go_wp2
              refine bodyPost_ret (results_tmp3 rfl _ _ _) rfl ?_
              refine ⟨k, by rw [← HG.out.2]; exact hk, HI.out.2.1, by rw [HR.out], fun hq => by rw [HR.out] at hq; exact of_decide_eq_true hq, ?_, HW.out, by rw [HR.out]; show -1000000000 ≤ (u : Int); omega, by rw [HR.out]; show (u : Int) ≤ 1000000000; omega⟩
              rw [HR.out]
              rfl
            | succ m =>
              have c4 : (k : Int) - (i : Int) < 9 := by omega
              have c3 : decide ((k : Int) - (i : Int) < 9) = true := xT c4
              have hnx := HI.out.next hc (by rw [← hC]; exact hd)
              rw [← hC] at hnx
              have HX := Lib.hid (And.intro hnx hd)
              have p2 : (C : Int) - 48 ≤ 9 ∧ 0 ≤ (C : Int) - 48 := by omega
              clear hnx hc hC hd hki hji hij
              go_wp2
              have hd := HX.out.2
              refine ⟨⟨k + 1, m, 10 * u + (C - 48), by rw [Int.natCast_add]; rfl, congrArg (Value.int .i64) (by omega), hkN, Lib.hid HX.out.1, HW⟩, ?_⟩
              simp only [intOf]
              omega
          · rcases Nat.lt_or_ge C 48 with h48 | h48
            · have c1 : decide ((48 : Int) ≤ (C : Int)) = false := xF (by omega)
              have hr := Cn.rwd_plain HM.out (by rw [← HG.out.2]; exact hi0) HI.out (.inr (.inr ⟨c, hc, by rw [← hC]; exact hd⟩))
              have hur := HI.out.small
              have w2 : decide ((i : Int) < (k : Int)) = decide (i < k) := decide_eq_decide.2 (by omega)
              have HR := Lib.hid hr; clear hr hc hC hd h48
              go_wp2
              refine bodyPost_ret (results_tmp3 rfl _ _ _) rfl ?_
              refine ⟨k, by rw [← HG.out.2]; exact hk, HI.out.2.1, by rw [HR.out], fun hq => by rw [HR.out] at hq; exact of_decide_eq_true hq, ?_, HW.out, by rw [HR.out]; show -1000000000 ≤ (u : Int); omega, by rw [HR.out]; show (u : Int) ≤ 1000000000; omega⟩
              rw [HR.out]
              rfl
            · have c1 : decide ((48 : Int) ≤ (C : Int)) = true := xT (by omega)
              have c2 : decide ((C : Int) ≤ 57) = false := xF (by omega)
              have hr := Cn.rwd_plain HM.out (by rw [← HG.out.2]; exact hi0) HI.out (.inr (.inr ⟨c, hc, by rw [← hC]; exact hd⟩))
              have hur := HI.out.small
              have w2 : decide ((i : Int) < (k : Int)) = decide (i < k) := decide_eq_decide.2 (by omega)
              have HR := Lib.hid hr; clear hr hc hC hd h48
              go_wp2
              refine bodyPost_ret (results_tmp3 rfl _ _ _) rfl ?_
              refine ⟨k, by rw [← HG.out.2]; exact hk, HI.out.2.1, by rw [HR.out], fun hq => by rw [HR.out] at hq; exact of_decide_eq_true hq, ?_, HW.out, by rw [HR.out]; show -1000000000 ≤ (u : Int); omega, by rw [HR.out]; show (u : Int) ≤ 1000000000; omega⟩
              rw [HR.out]
              rfl
        · have p1 : ¬ (k : Int) < (N : Int) := by omega
          have k1 : decide ((k : Int) < (N : Int)) = false := xF (by omega)
          have hr := Cn.rwd_plain HM.out (by rw [← HG.out.2]; exact hi0) HI.out (.inr (.inl (by rw [← HG.out.2]; omega)))
          have hur := HI.out.small
          have w2 : decide ((i : Int) < (k : Int)) = decide (i < k) := decide_eq_decide.2 (by omega)
          have HR := Lib.hid hr; clear hr hkN
          go_wp2
          refine bodyPost_ret (results_tmp3 rfl _ _ _) rfl ?_
          refine ⟨k, by rw [← HG.out.2]; exact hk, HI.out.2.1, by rw [HR.out], fun hq => by rw [HR.out] at hq; exact of_decide_eq_true hq, ?_, HW.out, by rw [HR.out]; show -1000000000 ≤ (u : Int); omega, by rw [HR.out]; show (u : Int) ≤ 1000000000; omega⟩
          rw [HR.out]
          rfl
end Go.Proofs.YtdhgopcfjomjaaaDoor

/- metronomeref22.ParseFormula: the formula under way. -/
namespace Go.Proofs.YtdhgopcfjomjaaaDoor
open Go.RowKit Go.Maps Go.WideMaps
open Go.Lib hiding intOf run_convert_string_bytes
open Cn (I64)

structure PfQ (w0 : World) (bf : Nat) (vars : Int) (xs : List Cl) (v : Value) (c : List Int) (cv : Value) (W : World) : Prop where
  kp : Kp [bf] w0 W
  lo : bf < w0.heap.size
  rf : W.heap[bf]? = some (.cells #[.int .i64 vars, v] 24 (0, 0))
  own : W.ownsRow w0.heap.size 36 1 v xs.length (clV xs)
  owc : W.ownsRow w0.heap.size 3 1 cv c.length (ints c)
  far : ∀ k, v.ownBlock = some k → cv.ownBlock ≠ some k
  cl : ∀ x ∈ xs, ClAt3 (fun k => w0.heap.size ≤ k ∧ v.ownBlock ≠ some k ∧ cv.ownBlock ≠ some k) W x
section
variable {w0 W W1 W2 W3 W4 : World} {bf : Nat} {vars : Int} {xs : List Cl} {v v' cv cv' : Value} {c : List Int}
theorem PfQ.fresh (h : PfQ w0 bf vars xs v c cv W) (hg : W.grownBy W1 none) : PfQ w0 bf vars xs v c cv W1 :=
  ⟨h.kp.trans (Kp.of0 hg _), h.lo, (hg.block _ (gl h.rf) (by simp)).trans h.rf, h.own.kept hg (by cases v.ownBlock <;> simp), h.owc.kept hg (by cases cv.ownBlock <;> simp), h.far, fun x hx => (h.cl x hx).on (fun k hk _ => hg.block k hk (by simp))⟩
/-- one literal more -/
theorem PfQ.lit (h : PfQ w0 bf vars xs v c cv W) (hg : W.grownBy W1 none) {x : Int} (ho : W2.ownsRow w0.heap.size 3 1 cv' (c.length + 1) (ints c ++ [.int .i64 x])) (hg2 : W1.grownBy W2 cv.ownBlock) (hat : cv'.ownBlock = cv.ownBlock ∨ cv'.ownBlock = some W1.heap.size) : PfQ w0 bf vars xs v (c ++ [x]) cv' W2 := by
  have h1 := h.fresh hg
  have s0 := h.kp.size
  have s1 := hg.size
  have s2 := hg2.size
  have hl := h.lo
  have hob := fun k e => h1.own.lt k e
  have hoc := fun k e => h1.owc.lt k e
  have stay : ∀ k, k < W1.heap.size → cv.ownBlock ≠ some k → W2.heap[k]? = W1.heap[k]? := fun k hk e => hg2.block k hk (fun e2 => e e2.symm)
  refine ⟨⟨hg2.os.trans h1.kp.os, hg2.tape.trans h1.kp.tape, hg2.output.trans h1.kp.output, by omega, fun k hk hx => ?_⟩, h.lo, ?_, ?_, ?_, fun k e e2 => ?_, fun y hy => ?_⟩
  · exact (stay k (by omega) (fun e => by have := (hoc k e).1; omega)).trans (h1.kp.block k hk hx)
  · exact (stay bf (gl h1.rf) (fun e => by have := (hoc bf e).1; omega)).trans h1.rf
  · exact owns_on h1.own (fun k e => stay k (hob k e).2 (h.far k e))
  · rw [List.length_append, List.length_singleton]
    unfold ints at ho ⊢
    rw [List.map_append]
    exact ho
  · rcases hat with h2 | h2
    · exact h.far k e (h2.symm.trans e2)
    · have e3 := Option.some.inj (h2.symm.trans e2)
      have := (hob k e).2
      omega
  · refine ⟨?_, (h1.cl y hy).2⟩
    have h3 := (h1.cl y hy).1
    refine (h3.onLt (w' := W2) (fun k hk hp => stay k hk hp.2.2)).monoLt2 h3 (fun k hk hp => ⟨hp.1, hp.2.1, fun e => ?_⟩)
    rcases hat with h2 | h2
    · exact hp.2.2 (h2.symm.trans e)
    · have := Option.some.inj (h2.symm.trans e); omega
/-- a clause is closed -/
theorem PfQ.next (h : PfQ w0 bf vars xs v c cv W) {ca : Option Addr} {cc : Nat} (hcv : cv = .slice ca c.length cc) (hc2 : c.length ≤ 2000000) (h64 : ∀ y ∈ c, I64 y) (hg : W.grownBy W1 none)
    (ho3 : W3.ownsRow w0.heap.size 36 1 v' (xs.length + 1) (clV xs ++ [.slice ca c.length cc])) (hg3 : W1.grownBy W3 v.ownBlock) (hat : v'.ownBlock = v.ownBlock ∨ v'.ownBlock = some W1.heap.size)
    (hk4 : Kp [bf] W3 W4) (hr4 : W4.heap[bf]? = some (.cells #[.int .i64 vars, v'] 24 (0, 0))) : PfQ w0 bf vars (xs ++ [(ca, cc, c)]) v' [] (.slice none 0 0) W4 := by
  have h1 := h.fresh hg
  have s0 := h.kp.size
  have s1 := hg.size
  have s3 := hg3.size
  have s4 := hk4.size
  have hl := h.lo
  have hob := fun k e => h1.own.lt k e
  have hoc := fun k e => h1.owc.lt k e
  have stay1 : ∀ k, k < W1.heap.size → k ≠ bf → v.ownBlock ≠ some k → W4.heap[k]? = W1.heap[k]? := fun k hk e1 e3 =>
    (hk4.block k (by omega) (by simp; exact e1)).trans (hg3.block k hk (fun e => e3 e.symm))
  have hne4 : ∀ k, v'.ownBlock = some k → k ≠ bf := fun k e => by have := (ho3.lt k e).1; omega
  have hvk : ∀ k, v'.ownBlock = some k → k < W1.heap.size → v.ownBlock = some k := fun k e hk => by
    rcases hat with h2 | h2
    · exact h2.symm.trans e
    · have := Option.some.inj (h2.symm.trans e); omega
  refine ⟨⟨hk4.os.trans (hg3.os.trans h1.kp.os), hk4.tape.trans (hg3.tape.trans h1.kp.tape), hk4.output.trans (hg3.output.trans h1.kp.output), by omega, fun k hk hx => ?_⟩, h.lo, hr4, ?_, World.ownsRow_nil _ _ _ _, fun k _ e => (by cases e), fun z hz => ?_⟩
  · simp at hx
    exact (stay1 k (by omega) hx (fun e => by have := (hob k e).1; omega)).trans (h1.kp.block k hk (by simp; exact hx))
  · have ho4 : W4.ownsRow w0.heap.size 36 1 v' (xs.length + 1) (clV xs ++ [.slice ca c.length cc]) := owns_on ho3 (fun k e => hk4.block k (ho3.lt k e).2 (by simp; exact hne4 k e))
    rw [List.length_append, List.length_singleton]
    unfold clV at ho4 ⊢
    rw [List.map_append]
    exact ho4
  · rcases List.mem_append.1 hz with hz | hz
    · refine ⟨?_, (h1.cl z hz).2⟩
      have h3 := (h1.cl z hz).1
      exact (h3.onLt (w' := W4) (fun k hk hp => stay1 k hk (by omega) hp.2.1)).monoLt2 h3 (fun k hk hp => ⟨hp.1, fun e => hp.2.1 (hvk k e hk), fun e => by cases e⟩)
    · simp at hz
      subst hz
      have ho5 := h1.owc
      rw [hcv] at ho5 hoc
      rcases ho5.2 with ⟨e, h0⟩ | ⟨g, cap, cur, e, hb, hr, hc, _, _, _⟩
      · have hx : c = [] := List.eq_nil_of_length_eq_zero h0
        subst hx
        exact ⟨fun j y hj => by simp at hj, Nat.zero_le _, Nat.zero_le _, fun y hy => by cases hy⟩
      · cases e
        have hgb : v.ownBlock ≠ some g := fun e => h.far g e (by rw [hcv]; rfl)
        have hr4g := (stay1 g (hoc g rfl).2 (by omega) hgb).trans hr
        have hn0 : NumsIn (fun k => w0.heap.size ≤ k ∧ v'.ownBlock ≠ some k ∧ (Value.slice none 0 0).ownBlock ≠ some k) W4 (some ⟨g, 0, none⟩) c := fun j y hj => by
          have hce := ho5.cells (g := g) rfl j (.int .i64 y) (by unfold ints; rw [List.getElem?_map, hj]; rfl)
          rw [addr_at] at hce
          exact ⟨g, 0, rfl, ⟨hb, fun e => hgb (hvk g e (hoc g rfl).2), fun e => by cases e⟩, (cell_of_block (stay1 g (hoc g rfl).2 (by omega) hgb)).trans hce, frozen_of_row W4 g (0 + j) _ _ hr4g⟩
        exact ⟨hn0, hc, hc2, h64⟩
theorem PfQ.rows {a : Option Addr} {n cp : Nat} (h : PfQ w0 bf vars xs (.slice a n cp) c cv W) : n = xs.length ∧ xs.length ≤ cp ∧ RowsIn (fun k => w0.heap.size ≤ k) W a (clsOf xs) := by
  rcases h.own.2 with ⟨e, h0⟩ | ⟨g, cap, cur, e, hb, hg, hc, _, _, _⟩
  · have hx : xs = [] := List.eq_nil_of_length_eq_zero h0
    subst hx
    cases e
    exact ⟨rfl, Nat.zero_le _, RowsIn.nil _ _ _⟩
  · cases e
    refine ⟨rfl, hc, fun i l hi => ?_⟩
    unfold clsOf at hi
    rw [List.getElem?_map, Option.map_eq_some_iff] at hi
    obtain ⟨x, hx, rfl⟩ := hi
    have hcl := h.cl x (List.mem_of_getElem? hx)
    have hce := h.own.cells (g := g) rfl i (.slice x.1 x.2.2.length x.2.1) (by unfold clV; rw [List.getElem?_map, hx]; rfl)
    rw [addr_at] at hce
    exact ⟨g, 0, x.1, x.2.1, rfl, hb, hce, frozen_of_row W g (0 + i) _ _ hg, hcl.1.mono (fun k hk => hk.1), hcl.2.1, by have := hcl.2.2.1; omega, hcl.2.2.2⟩
end
theorem PfQ.res {w0 W : World} {b : Nat} {vars : Int} {xs : List Cl} {v cv : Value} {c : List Int} (h : PfQ w0 (b + 1) vars xs v c cv W) {o : Obj} (hr : w0.heap[b]? = some o) : W.heap[b]? = some o :=
  (h.kp.block b (gl hr) (by simp)).trans hr
/-- what the loop keeps -/
structure PfL (N : Nat) (s : List UInt8) (R : Option (List (List Int))) (w0 : World) (bf : Nat) (vars : Int) (i n : Nat) (c : List Int) (xs : List Cl) (v cv : Value) (W : World) : Prop where
  q : PfQ w0 bf vars xs v c cv W
  go : Cn.pfGo n (s.drop i) c (clsOf xs) = R
  fu : N + 2 ≤ n + i
  i1 : 1 ≤ i
  xl : xs.length ≤ i
  cl : c.length ≤ i
  c64 : ∀ y ∈ c, I64 y
namespace Cn
theorem pf_ok {s : List UInt8} {i k m : Nat} {c : List Int} {acc : List (List Int)} (hi : i < s.length) (hk : (rwd (s.drop i)).2.1 = s.drop k) : pfGo (m + 1) (s.drop i) c acc = if (rwd (s.drop i)).2.2 = true then (if (rwd (s.drop i)).1 = 0 then pfGo m (s.drop (k + 1)) [] (acc ++ [c]) else pfGo m (s.drop (k + 1)) (c ++ [(rwd (s.drop i)).1]) acc) else none := by
  have e : s.drop i = s[i] :: s.drop (i + 1) := List.drop_eq_getElem_cons hi
  have e2 : (rwd (s.drop i)).2.1.drop 1 = s.drop (k + 1) := by rw [hk, List.drop_drop]
  rw [← e2]
  generalize s.drop i = l at *
  subst e
  rfl
theorem pf_end {s : List UInt8} {i m : Nat} {c : List Int} {acc : List (List Int)} (hi : s.length ≤ i) : pfGo (m + 1) (s.drop i) c acc = some acc := by
  rw [List.drop_eq_nil_of_le hi]
  rfl
end Cn
/-- what the document's reading answers -/
def PfA (w : World) (p : Option Cn.Fm) (e : Ending) (w' : World) : Prop := match p with
  | some f => ∃ (va : Option Addr) (c : Nat), e = .returned (.tuple #[.agg #[.int .i64 f.vars, .slice va f.cl.length c], .int .i64 0]) ∧ RowsAt w' va f.cl ∧ w.grownBy w' none
  | none => e = .returned (.tuple #[.agg #[.int .i64 0, .slice none 0 0], .int .i64 40]) ∧ w.grownBy w' none
theorem res_set {w V : World} {x y : Value} (hg : w.grownBy V none) (hr : V.heap[w.heap.size]? = some (.cells #[x, y] 24 (0, 0))) (p q : Value) {Wf : World} (hWf : Wf = (V.setCell ⟨w.heap.size, 0, none⟩ p).setCell ⟨w.heap.size, 1, none⟩ q) :
    Wf.cell? ⟨w.heap.size, 0, none⟩ = some p ∧ Wf.cell? ⟨w.heap.size, 1, none⟩ = some q ∧ w.grownBy Wf none ∧ Kp [w.heap.size] V Wf := by
  have p1 : Wf.heap[w.heap.size]? = some (.cells #[p, q] 24 (0, 0)) := by
    rw [hWf]
    exact heap_setCell_same _ _ 1 _ _ _ (heap_setCell_same _ _ 0 _ _ _ hr)
  have hkf : Kp [w.heap.size] V Wf := by rw [hWf]; exact ((Kp.refl _ V).set (by simp) _).set (by simp) _
  exact ⟨cell_of_row _ _ 0 _ _ _ p1, cell_of_row _ _ 1 _ _ _ p1, Kp.grown hg hkf (fun k hk => by simp at hk; omega), hkf⟩
end Go.Proofs.YtdhgopcfjomjaaaDoor

/- cnf.Parse of a text that is none. -/
namespace Go.Proofs.YtdhgopcfjomjaaaDoor
open Go.RowKit Go.Maps Go.WideMaps
open Go.Lib hiding intOf run_convert_string_bytes
open Cn (I64)

namespace Cn
theorem csGo_wt : ∀ (n : Nat) (acc : List (List Int)) (r : List UInt8), (csGo n acc r false).2.2 = false → wt (csGo n acc r false).1 ≤ wt acc + r.length
  | 0, acc, r, _ => Nat.le_add_right _ _
  | n + 1, acc, r, h => by
    rw [csGo] at h ⊢
    by_cases hb : (clP r false).2.2 = true
    · rw [if_pos hb] at h; cases h
    · rw [if_neg hb] at h ⊢
      have h1 := csGo_wt n _ _ h
      have h2 := clP_len (r := r) (b := false) (by simpa using hb)
      rw [wt_app, wt_one] at h1
      omega
theorem csGo_true (n : Nat) (acc : List (List Int)) (r : List UInt8) : (csGo n acc r true).2.2 = true := by
  cases n with
  | zero => rfl
  | succ n =>
    rw [csGo]
    have hx : (clP r true).2.2 = true := by
      unfold clP
      rw [clGo_stop (.inl rfl)]
      rfl
    rw [if_pos hx]
theorem formP_len {s : List UInt8} (h : (formP s).2.2.2 = false) : (formP s).2.2.1 = [] ∧ wt (formP s).2.1 ≤ s.length := by
  unfold formP at h ⊢
  simp only at h ⊢
  generalize hp2 : ahP (ahP (trimPrefix s hd6) (false || !hasPrefix s hd6) [32]).2.1 (ahP (trimPrefix s hd6) (false || !hasPrefix s hd6) [32]).2.2 [10] = p2 at h ⊢
  have hl : p2.2.1.length ≤ s.length := by
    rw [← hp2]
    exact Nat.le_trans (ah_len _ _ _) (Nat.le_trans (ah_len _ _ _) (trimP_len _ _))
  by_cases hr : (csGo p2.1.toNat [] p2.2.1 p2.2.2).2.1 = []
  · rw [if_pos hr] at h
    refine ⟨hr, ?_⟩
    cases hb : p2.2.2 with
    | true => rw [hb, csGo_true] at h; cases h
    | false =>
      rw [hb] at h
      have := csGo_wt _ _ _ h
      have h0 : wt [] = 0 := rfl
      omega
  · rw [if_neg hr] at h
    cases h
end Cn
set_option maxRecDepth 100000 in
set_option maxHeartbeats 4000000 in
theorem parse_bad (w : World) (s : List UInt8) (hn : ¬ ((Cn.formP s).2.2 = ([], false) ∧ Cn.check ⟨(Cn.formP s).1, (Cn.formP s).2.1⟩ = 0)) (hl : s.length ≤ 2000000) (he : Errs w) (hlt : 1 < w.heap.size ∧ 2 < w.heap.size) :
    Calls Tryd.prog 23 #[.string ⟨s.toArray⟩] w fun e w' => e = .returned (.tuple #[.agg #[.int .i64 0, .slice none 0 0], .int .i64 0, .int .i64 40]) ∧ w.grownBy w' none := by
  obtain ⟨W2, hW2⟩ : ∃ W2, W2 = (w.alloc (.cells #[.int .i64 0, .slice none 0 0] 24)).alloc (.cells #[.string ⟨s.toArray⟩, .bool false] 70) := ⟨_, rfl⟩
  have hg2 : w.grownBy W2 none := by rw [hW2]; exact (World.grownBy_alloc _ _ none).trans (World.grownBy_alloc _ _ none)
  have ha := al2 w (.cells #[.int .i64 0, .slice none 0 0] 24) (.cells #[.string ⟨s.toArray⟩, .bool false] 70)
  rw [← hW2] at ha
  have hs2 : W2.heap.size = w.heap.size + 2 := by rw [hW2]; simp
  have hfm := formula_any W2 (w.heap.size + 1) s ha.2 hl (he.kp (Kp.of0 hg2 []) (fun k hk => by cases hk)) (by omega)
  have hlen := Cn.formP_len (s := s)
  obtain ⟨⟨vs, L, r4, b4⟩, hF⟩ : ∃ F, F = Cn.formP s := ⟨_, rfl⟩
  rw [← hF] at hfm hn hlen
  simp only at hfm hn hlen
  have e1 : decide ((2000000 : Int) < (s.length : Int)) = false := xF (by omega)
  have hs64 : s.length ≤ 9223372036854775807 := by omega
  have HA := Lib.hid (And.intro ha (And.intro hg2 (And.intro hs2 hfm)))
  have HN := Lib.hid (And.intro hn hlen)
  have HL := Lib.hid hl
  clear ha hg2 hs2 hfm he hlt hl hF hn hlen
  go_enter Tryd.func23, Tryd.ntmps23
  go_upto_region 4 with fail
  rw [← hW2]
  clear hW2
  go_upto_region 5 with (go_at_call 37; refine HA.out.2.2.2.mono ?_; rintro e w3 ⟨va, c, rfl, hc3, hr3, hd3, hk3⟩; have H3 := Lib.hid (And.intro hr3 (And.intro hd3 (And.intro hk3 hc3))); clear hr3 hd3 hk3 hc3)
  have hsz3 := H3.out.2.2.1.size
  have rs3 : w3.heap[w.heap.size]? = some (.cells #[.int .i64 0, .slice none 0 0] 24 (0, 0)) := (H3.out.2.2.1.block _ (by have := HA.out.2.2.1; omega) (by simp)).trans HA.out.1.1
  obtain ⟨W4, hW4⟩ : ∃ W4, W4 = w3.alloc (.cells #[.int .i64 vs, .slice va L.length c] 24) := ⟨_, rfl⟩
  have hg4 : w3.grownBy W4 none := by rw [hW4]; exact World.grownBy_alloc _ _ _
  have f4 : W4.heap[w3.heap.size]? = some (.cells #[.int .i64 vs, .slice va L.length c] 24 (0, 0)) := by rw [hW4]; exact heap_alloc_new _ _
  have rs := (hg4.block _ (gl rs3) (by simp)).trans rs3
  have b1 : W4.cell? ⟨w.heap.size + 1, 1, none⟩ = some (.bool b4) := (H3.out.2.1.on hg4).c1
  have hgw : w.grownBy W4 none := Kp.grown HA.out.2.1 (H3.out.2.2.1.trans (Kp.of0 hg4 _)) (fun k hk => by simp at hk; omega)
  rw [← hW4]
  cases b4 with
  | true =>
    have t0 : W4.cell? ⟨w.heap.size, 0, none⟩ = some (.int .i64 0) := cell_of_row _ _ 0 _ _ _ rs
    have t1 : W4.cell? ⟨w.heap.size, 1, none⟩ = some (.slice none 0 0) := cell_of_row _ _ 1 _ _ _ rs
    have d0 := frozen_of_row _ _ 0 _ _ rs
    have d1 := frozen_of_row _ _ 1 _ _ rs
    have HG := Lib.hid (And.intro hgw rs)
    clear hW4 hg4 rs f4 hsz3 rs3 hgw
    go_wp2
    obtain ⟨Wf, hWf⟩ : ∃ Wf, Wf = (W4.setCell ⟨w.heap.size, 0, none⟩ (.int .i64 0)).setCell ⟨w.heap.size, 1, none⟩ (.slice none 0 0) := ⟨_, rfl⟩
    have hf := res_set HG.out.1 HG.out.2 _ _ hWf
    have y0 := hf.1
    have y1 := hf.2.1
    rw [← hWf]
    clear hWf
    refine bodyPost_ret (v := .tuple #[.agg #[.int .i64 0, .slice none 0 0], .int .i64 0, .int .i64 40]) ?_ rfl ⟨rfl, hf.2.2.1⟩
    simp [results, Tryd.results23, go_sem, y0, y1]
  | false =>
    obtain ⟨hr4, hwt⟩ := HN.out.2 rfl
    subst hr4
    have hwl := Cn.wt_len L
    have hm : L.length ≤ 140737488351232 := by have := HL.out; omega
    have hch := check_any W4 ⟨vs, L⟩ va c (H3.out.1.to.on hg4) hm
    have hC0 : ¬ Cn.check ⟨vs, L⟩ = 0 := fun h => HN.out.1 ⟨rfl, h⟩
    obtain ⟨C, hC⟩ : ∃ C, C = Cn.check ⟨vs, L⟩ := ⟨_, rfl⟩
    rw [← hC] at hch hC0
    have e6 : (C != 0) = true := by simp [hC0]
    have e7 : (C == 0) = false := by simp [hC0]
    have c0 : W4.cell? ⟨w3.heap.size, 0, none⟩ = some (.int .i64 vs) := cell_of_row _ _ 0 _ _ _ f4
    have c1 : W4.cell? ⟨w3.heap.size, 1, none⟩ = some (.slice va L.length c) := cell_of_row _ _ 1 _ _ _ f4
    have HC := Lib.hid hch
    have HG := Lib.hid (And.intro hgw rs)
    clear hW4 hg4 rs f4 hsz3 rs3 hgw hch hC hC0 hwl hm hwt
    go_wp2_with (go_at_call 10; refine HC.out.mono ?_; rintro e w5 ⟨rfl, hg5⟩; have r5 := (hg5.block _ (gl HG.out.2) (by simp)).trans HG.out.2; have t0 : w5.cell? ⟨w.heap.size, 0, none⟩ = some (.int .i64 0) := cell_of_row _ _ 0 _ _ _ r5; have t1 : w5.cell? ⟨w.heap.size, 1, none⟩ = some (.slice none 0 0) := cell_of_row _ _ 1 _ _ _ r5; have d0 := frozen_of_row _ _ 0 _ _ r5; have d1 := frozen_of_row _ _ 1 _ _ r5; have H5 := Lib.hid (And.intro hg5 r5); clear hg5 r5 c0 c1 b1)
    obtain ⟨Wf, hWf⟩ : ∃ Wf, Wf = (w5.setCell ⟨w.heap.size, 0, none⟩ (.int .i64 0)).setCell ⟨w.heap.size, 1, none⟩ (.slice none 0 0) := ⟨_, rfl⟩
    have hf := res_set (HG.out.1.trans H5.out.1) H5.out.2 _ _ hWf
    have y0 := hf.1
    have y1 := hf.2.1
    rw [← hWf]
    clear hWf
    refine bodyPost_ret (v := .tuple #[.agg #[.int .i64 0, .slice none 0 0], .int .i64 0, .int .i64 40]) ?_ rfl ⟨rfl, hf.2.2.1⟩
    simp [results, Tryd.results23, go_sem, y0, y1]
end Go.Proofs.YtdhgopcfjomjaaaDoor
