/- cnf: the reader: clauses, one by one. -/
import Derived.Test.YtdhgopcfjomjaaaDoorCqI
namespace Go.Proofs.YtdhgopcfjomjaaaDoor
open Go.RowKit Go.Maps Go.WideMaps Go.Shelf
open Go.Lib hiding intOf run_convert_string_bytes
open Cn (I64)
attribute [local go_sem] Oper.semAt_some

structure LkC (Bc Br rb : Nat) (c : Int) (r : List UInt8) (b : Bool) (W : World) : Prop where
  hc : W.heap[Bc]? = some (.cells #[.int .i64 c] 3 (0, 0))
  hr : W.heap[Br]? = some (.cells #[.pointer (some ⟨rb, 0, none⟩)] 79 (0, 0))
  rd : Rd W rb r b
  er : Errs W
/-- a list that was laid by appends, its block named -/
theorem nums_own {w : World} {B : Nat} {v : Value} {l : List Int} (h : w.ownsRow B 3 1 v l.length (ints l)) : ∃ a c, ∃ X : List Nat, v = .slice a l.length c ∧ l.length ≤ c ∧ NumsIn (· ∈ X) w a l ∧ ∀ k ∈ X, B ≤ k ∧ k < w.heap.size := by
  rcases h.2 with ⟨rfl, h0⟩ | ⟨g, cap, cur, rfl, hB, hh, h1, h2, h3, h4⟩
  · have : l = [] := List.eq_nil_of_length_eq_zero h0
    subst this
    exact ⟨none, 0, [], rfl, Nat.le_refl _, fun i n h => by simp at h, fun k hk => by cases hk⟩
  · refine ⟨_, cap, [g], rfl, h1, fun i n hi => ⟨g, 0, rfl, by simp, ?_, frozen_of_row w g _ _ _ hh⟩, fun k hk => by rw [List.mem_singleton] at hk; subst hk; exact ⟨hB, gl hh⟩⟩
    have hl : i < l.length := (List.getElem?_eq_some_iff.1 hi).1
    rw [Nat.mul_one] at h4
    rw [Nat.zero_add, cell_of_row w g i _ _ _ hh, ← Array.getElem?_toList, get_of_take h4 hl, ints, List.getElem?_map, hi]
    rfl
theorem clP_bad (r : List UInt8) : (Cn.clP r true).2.2 = true := by
  unfold Cn.clP
  rw [Cn.clGo_stop (.inl rfl)]
  rfl
theorem clP_len2 (r : List UInt8) (b : Bool) (h : (Cn.clP r b).2.2 = false) : b = false := by
  cases b with
  | false => rfl
  | true => rw [clP_bad] at h; cases h

set_option maxRecDepth 100000 in
set_option maxHeartbeats 4000000 in
theorem clauses_seq (m0 : Nat) (Bc Br rb : Nat) (c : Int) (r0 : List UInt8) (b0 : Bool) (hl : r0.length ≤ 2000000) (hc64 : I64 c) (hne : 1 ≠ rb ∧ 2 ≠ rb) :
    SeqS m0 56 #[.pointer (some ⟨Bc, 0, none⟩), .pointer (some ⟨Br, 0, none⟩)] rb (LkC Bc Br rb c) r0 b0 (Cn.csGo c.toNat [] r0 b0) := by
  intro l0 J A0 W hJt hJd hJL hY h0
  have hdd : ∀ k : Nat, (Fence.wide.depth.isSome = true → 1 ≤ k) := fun k h => by cases h
  obtain ⟨N, hN⟩ : ∃ N, N = c.toNat := ⟨_, rfl⟩
  rw [← hN]
  obtain ⟨T, hT⟩ : ∃ T, T = Cn.csGo N [] r0 b0 := ⟨_, rfl⟩
  rw [← hT]
  have hlk := hJL _ _ _ _ _ h0
  have c0 := cell_of_row W Bc 0 _ _ _ hlk.hc
  obtain ⟨L0, hL0⟩ : ∃ L0, L0 = r0.length := ⟨_, rfl⟩
  have HJ := Lib.hid (And.intro hJt (And.intro hJd hJL))
  have HY := Lib.hid hY
  have H0 : Hid (∃ acc r1 b1, J A0 acc r1 b1 W ∧ Cn.csGo (N - 0) acc r1 b1 = T ∧ (b1 = false → Cn.wt acc + r1.length ≤ L0) ∧ r1.length ≤ L0) := Lib.hid ⟨[], r0, b0, h0, hT.symm, fun _ => by simp [Cn.wt, hL0], by omega⟩
  have HN := Lib.hid (And.intro hN (And.intro (show L0 ≤ 2000000 by omega) (And.intro hne hL0)))
  have hcN : c ≤ (N : Int) := by omega
  have hcN2 : (N : Int) ≤ c ∨ N = 0 := by omega
  have hN64 : N ≤ 9223372036854775807 := by unfold I64 at hc64; omega
  clear hJt hJd hJL hY h0 hN hT hlk hL0 hl hne hc64
  simp only [List.append_toArray, List.nil_append, List.cons_append]
  refine callsIn_of_wp Tryd.func56 rfl trivial ?_ rfl
  simp only [Tryd.ntmps56, List.size_toArray, List.length_cons, List.length_nil, Nat.reduceAdd, Nat.reduceSub, Array.replicate_succ, Array.replicate_zero, List.push_toArray, List.append_toArray, List.nil_append, List.cons_append]
  gi_wp2
  gi_loopw [6] (fun iv wr => ∃ t : Nat, t ≤ N ∧ iv = .int .i64 (t : Int) ∧ Hid (∃ acc r1 b1, J A0 acc r1 b1 wr ∧ Cn.csGo (N - t) acc r1 b1 = T ∧ (b1 = false → Cn.wt acc + r1.length ≤ L0) ∧ r1.length ≤ L0)) (fun iv _ => N - (intOf iv).toNat)
  case atStart => exact ⟨0, Nat.zero_le _, rfl, H0⟩
  case round =>
    obtain ⟨t, ht, rfl, HT⟩ := hrel
    obtain ⟨acc, r1, b1, hj, hgo, hwt, hrl⟩ := HT.out
    by_cases hlt : (t : Int) < c
    · have e1 : decide ((t : Int) < c) = true := xT hlt
      have hlk := HJ.out.2.2 _ _ _ _ _ hj
      have d0 : wr.cell? ⟨Br, 0, none⟩ = some (.pointer (some ⟨rb, 0, none⟩)) := cell_of_row wr Br 0 _ _ _ hlk.hr
      have hBr : Br ∉ [rb] := fun hx => by
        rw [List.mem_singleton] at hx
        have h1 := hlk.hr
        rw [hx, hlk.rd] at h1
        simp at h1
      have hcl := clause_any wr rb r1 b1 hlk.rd (by have := HN.out; omega) hlk.er HN.out.2.2.1
      obtain ⟨n', hn'⟩ : ∃ n', N - t = n' + 1 := ⟨N - t - 1, by omega⟩
      rw [hn', Cn.csGo] at hgo
      have hcl2 := Cn.clP_len (r := r1) (b := b1)
      have hci := Cn.clP_i64 r1 b1
      have hb2 := clP_len2 r1 b1
      obtain ⟨P, hP⟩ : ∃ P, P = Cn.clP r1 b1 := ⟨_, rfl⟩
      rw [← hP] at hgo hcl hcl2 hci hb2
      obtain ⟨l, r2, b2⟩ := P
      simp only at hgo hcl hcl2 hci hb2
      cases b2 with
      | true =>
        rw [if_pos rfl] at hgo
        have HX := Lib.hid (And.intro hj (And.intro hgo hcl))
        clear hj hgo hcl hlk hwt hrl hcl2 hci hb2 hP HT hn' hcN2
        gi_wp2_with (refine ⟨trivial, hdd _, ?_⟩; gi_at_call 57; refine (callsIn_wide.2 HX.out.2.2).mono ?_; rintro e w2 ⟨v, rfl, ho2, hr2, hk2⟩; have e0 := hr2.c1; have d2 := hk2.cell d0 hBr; have H2 := Lib.hid (And.intro hr2 hk2); clear hr2 hk2 ho2)
        refine ⟨fun _ h => (by cases h), ?_⟩
        gi_wp2
        refine bodyPost_ret (results_none rfl _ _ _) rfl ?_
        refine ⟨⟨_, rfl⟩, ?_⟩
        rw [← HX.out.2.1]
        exact HJ.out.1 [] A0 acc r1 b1 r2 true wr w2 HX.out.1 H2.out.2 H2.out.1 (fun k hk => by cases hk)
      | false =>
        rw [if_neg (by decide)] at hgo
        obtain rfl := hb2 rfl
        have hlen := hcl2 rfl
        have hw := hwt rfl
        have HX := Lib.hid (And.intro hj (And.intro hgo (And.intro hcl (And.intro hlen (And.intro hw hci)))))
        clear hj hgo hcl hlk hwt hrl hcl2 hci hP HT hlen hw hcN2
        gi_wp2_with (refine ⟨trivial, hdd _, ?_⟩; gi_at_call 57; refine (callsIn_wide.2 HX.out.2.2.1).mono ?_; rintro e w2 ⟨v, rfl, ho2, hr2, hk2⟩; have e0 := hr2.c1; have d2 := hk2.cell d0 hBr; have H2 := Lib.hid (And.intro hr2 (And.intro hk2 ho2)); clear hr2 hk2 ho2)
        obtain ⟨a, cc, X, rfl, hcap, hnum, hX⟩ := nums_own H2.out.2.2
        have hj2 : J (X ++ A0) acc r2 false w2 := HJ.out.1 X A0 acc r1 false r2 false wr w2 HX.out.1 H2.out.2.1 H2.out.1 hX
        have hwt1 : Cn.wt (acc ++ [l]) = Cn.wt acc + (l.length + 1) := by rw [Cn.wt_app, Cn.wt_one]
        have hl0 := HN.out.2.2.2
        have h1 := HX.out.2.2.2.1
        have h2 := HX.out.2.2.2.2.1
        obtain ⟨fn, tmps, assign, body, hy, hR⟩ := HY.out (X ++ A0) (m0 - 1) acc a cc l r2 w2 hj2 (by omega) (hnum.mono (fun k hk => List.mem_append.2 (.inl hk))) hcap HX.out.2.2.2.2.2
        have hwt2 : Cn.wt (acc ++ [l]) + r2.length ≤ L0 := by omega
        have hr2 : r2.length ≤ L0 := by omega
        have HW2 := Lib.hid (And.intro hwt2 hr2)
        obtain ⟨ll, hll⟩ : ∃ ll, ll = l.length := ⟨_, rfl⟩
        rw [← hll] at hy ⊢
        clear hj2 hwt1 hl0 h1 h2 hwt2 hr2 hnum hcap hX
        gi_wp2
        rw [hy]
        refine ⟨hdd _, hR.mono ?_⟩
        clear hR
        rintro e W3 ⟨rfl, hJ3, hk3⟩
        have HW3 := Lib.hid hJ3
        clear hJ3 hk3
        gi_wp2
        refine ⟨⟨t + 1, by omega, by go_num, Lib.hid ⟨acc ++ [l], r2, false, HJ.out.2.1 X A0 _ _ _ _ HW3.out, ?_, fun _ => HW2.out.1, HW2.out.2⟩⟩, by simp [intOf]; omega⟩
        rw [show N - (t + 1) = n' by omega]
        exact HX.out.2.1
    · have e1 : decide ((t : Int) < c) = false := xF hlt
      have h0 : N - t = 0 := by omega
      rw [h0] at hgo
      have HX := Lib.hid (And.intro hj hgo)
      clear hj hgo hwt hrl HT h0
      gi_wp2
      go_end0
      refine ⟨⟨_, rfl⟩, ?_⟩
      rw [← HX.out.2]
      exact HX.out.1
end Go.Proofs.YtdhgopcfjomjaaaDoor
