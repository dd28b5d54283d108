/- The value of a kind, as the statement wraps it; the program that a node with a literal is; the statement's own look at the example. -/
import Derived.Test.YtachmiajldeakaaGreatDoorShV
import Derived.Test.YtachmiajldeakaaGreatDoorShS
import Derived.Test.YtachmiajldeakaaGreatDoorMgK
namespace Go.Proofs.YtachmiajldeakaaGreatDoor
open Go.RowKit Go.Maps Go.WideMaps

theorem andm (j : Nat) (hj : j ≤ 62) (m : Int) (hb : (BitVec.ofInt 64 m).toNat = 2 ^ j - 1) (n : Int) : bits .and .i64 n m = n % ((2 ^ j : Nat) : Int) := by
  have key : (BitVec.ofInt 64 n &&& BitVec.ofInt 64 m).toNat = (n % ((2 ^ 64 : Nat) : Int)).toNat % 2 ^ j := by
    rw [BitVec.toNat_and, BitVec.toNat_ofInt, hb, Nat.and_two_pow_sub_one_eq_mod]
  show IntKind.i64.wrap ((BitVec.ofInt 64 n &&& BitVec.ofInt 64 m).toNat : Nat) = _
  rw [key]
  have hp : (2 : Nat) ^ j ≤ 2 ^ 62 := Nat.pow_le_pow_right (by decide) hj
  have hd : (2 : Nat) ^ j ∣ 2 ^ 64 := Nat.pow_dvd_pow 2 (by omega)
  have hlt : (n % ((2 ^ 64 : Nat) : Int)).toNat % 2 ^ j < 2 ^ j := Nat.mod_lt _ (Nat.pow_pos (by decide))
  have e1 : (((n % ((2 ^ 64 : Nat) : Int)).toNat % 2 ^ j : Nat) : Int) = n % ((2 ^ j : Nat) : Int) := by
    rw [Int.natCast_emod, Int.toNat_of_nonneg (Int.emod_nonneg _ (by decide))]
    exact Int.emod_emod_of_dvd n (Int.natCast_dvd_natCast.2 hd)
  rw [IntKind.wrap_i64]
  have h62 : (2 : Nat) ^ 62 = 4611686018427387904 := by decide
  rw [h62] at hp
  omega
theorem and255 (n : Int) : bits .and .i64 n 255 = n % 256 := andm 8 (by decide) 255 (by decide) n
theorem and65535 (n : Int) : bits .and .i64 n 65535 = n % 65536 := andm 16 (by decide) 65535 (by decide) n
theorem and32 (n : Int) : bits .and .i64 n 4294967295 = n % 4294967296 := andm 32 (by decide) 4294967295 (by decide) n

set_option maxHeartbeats 3200000 in
theorem lwrap_any (k n : Int) (h1 : 1 ≤ k) (h9 : k ≤ 9) (w : World) :
    Calls Tryz.prog 5 #[.int .i64 k, .int .i64 n] w fun e w' => e = .returned (.int .i64 (Bv.wrp k n)) ∧ w' = w := by
  have c1 := Bv.and1 n
  have c2 := Bv.wrap8 n
  have c3 := Bv.wrap16 n
  have c4 := Bv.wrap3264 n
  have c6 := and255 n
  have c7 := and65535 n
  have c8 := and32 n
  have C := Lib.hid (And.intro c1 (And.intro c2 (And.intro c3 (And.intro c4 (And.intro c6 (And.intro c7 c8))))))
  clear c1 c2 c3 c4 c6 c7 c8
  rcases (show k = 1 ∨ k = 2 ∨ k = 3 ∨ k = 4 ∨ k = 5 ∨ k = 6 ∨ k = 7 ∨ k = 8 ∨ k = 9 by omega) with rfl | rfl | rfl | rfl | rfl | rfl | rfl | rfl | rfl
  all_goals go_enter Tryz.func5, Tryz.ntmps5
  all_goals go_wp2
  all_goals go_ret
  all_goals refine ⟨?_, rfl⟩
  all_goals (obtain ⟨c1, c2, c3, c4, c6, c7, c8⟩ := C.out; unfold Bv.wrp; simp_all)

theorem wrp_lit (k n : Int) (h1 : 1 ≤ k) (h9 : k ≤ 9) : isLit k (Bv.wrp k n) := by
  by_cases h : k = 1
  · subst h
    refine .inl ⟨rfl, ?_⟩
    unfold Bv.wrp
    rw [if_pos rfl]
    omega
  · exact .inr ⟨by omega, h9⟩
theorem wrp_in (k n : Int) (h1 : 1 ≤ k) (h9 : k ≤ 9) (i1 : -9223372036854775808 ≤ n) (i2 : n ≤ 9223372036854775807) : -9223372036854775808 ≤ Bv.wrp k n ∧ Bv.wrp k n ≤ 9223372036854775807 := by
  rcases (show k = 1 ∨ k = 2 ∨ k = 3 ∨ k = 4 ∨ k = 5 ∨ k = 6 ∨ k = 7 ∨ k = 8 ∨ k = 9 by omega) with rfl | rfl | rfl | rfl | rfl | rfl | rfl | rfl | rfl <;> simp [Bv.wrp] <;> omega

/-- the whole text -/
def wholeL (k n : Int) : List UInt8 := Lex.headL ++ Lex.litL k n ++ [59, 32, 116, 101, 108]

theorem parse_of {s : List UInt8} {S : List Lex.Tk} {N : Gram.Node} {a f j : Nat} (hs : s.length ≤ 1000) (h : Lex.tks (s ++ [59, 32, 116, 101, 108]) 33 (20000 - 13) = Lex.preL S (.ok (Lex.telT a))) (hf : 20 * (Lex.headT ++ (S ++ Lex.telT a)).length + 100 = f) (hp : Gram.program (Lex.headT ++ (S ++ Lex.telT a)) f = .ok [N] j) : Gram.parse (Lex.headL ++ s ++ [59, 32, 116, 101, 108]) = .ok [N] := by
  have ht : Lex.tokens (Lex.headL ++ s ++ [59, 32, 116, 101, 108]) = .ok (Lex.headT ++ (S ++ Lex.telT a)) := by
    unfold Lex.tokens
    rw [if_neg (by simp [Lex.headL]; omega)]
    show Lex.tks (Lex.headL ++ s ++ [59, 32, 116, 101, 108]) 0 20000 = _
    rw [List.append_assoc, Lex.tks_head _ _ (by omega), h, Lex.preL_ok, Lex.preL_ok]
  unfold Gram.parse
  rw [ht]
  simp only
  rw [hf, hp]

theorem lit_parse (k n : Int) (h1 : 1 ≤ k) (h9 : k ≤ 9) (i1 : -9223372036854775808 ≤ n) (i2 : n ≤ 9223372036854775807) (hv : Bv.wrp k n = n) : ∃ a, Gram.parse (wholeL k n) = .ok [Gram.litN k n a] := by
  by_cases hk1 : k = 1
  · subst hk1
    have hn : n = 0 ∨ n = 1 := by unfold Bv.wrp at hv; rw [if_pos rfl] at hv; omega
    rcases hn with rfl | rfl
    · exact ⟨33, by kernel_rfl⟩
    · exact ⟨33, by kernel_rfl⟩
  · have h2 : 2 ≤ k := by omega
    unfold wholeL
    by_cases hb : 0 ≤ n ∨ k = 9
    · refine ⟨33, ?_⟩
      obtain ⟨u, hu⟩ : ∃ u : Nat, u = (if 0 ≤ n then n.toNat else (n + 18446744073709551616).toNat) := ⟨_, rfl⟩
      have hu64 : u < 18446744073709551616 := by rw [hu]; split <;> omega
      have hL : Lex.litL k n = Lib.decDigits u ++ Lex.kindS k := by
        rw [litL_bare k n hk1 hb]
        unfold digL
        by_cases hk9 : k = 9
        · rw [if_pos hk9, hu]
        · rw [if_neg hk9]
          have h0 : 0 ≤ n := hb.resolve_right hk9
          unfold Lib.itoa
          rw [if_neg (by omega), hu, if_pos h0]
      obtain ⟨d1, d2, d3⟩ := Lex.dec_facts u
      have d4 := Lex.dec_len20 u hu64
      have htop : ((Lex.numVal (Lib.decDigits u) : Nat) : Int) ≤ Lex.top k := by
        rw [d3, hu]
        rcases Lex.kinds_of k h2 h9 with rfl | rfl | rfl | rfl | rfl | rfl | rfl | rfl <;> simp [Bv.wrp] at hv <;> simp [Lex.top] <;> (try rw [if_pos (by omega)]) <;> (try split) <;> omega
      have hval : Bv.wrp k (wrap64 (Lex.numVal (Lib.decDigits u))) = n := by
        have e : wrap64 (u : Int) = n := by
          rw [hu]
          by_cases h0 : 0 ≤ n
          · rw [if_pos h0, Int.toNat_of_nonneg h0]; exact wof _ _ 0 (by omega) i1 i2
          · rw [if_neg h0, Int.toNat_of_nonneg (by omega)]; exact wof _ _ 1 (by omega) i1 i2
        rw [d3, e, hv]
      rw [hL]
      have hk := kindS_len k h2 h9
      cases hD : Lib.decDigits u with
      | nil => exact absurd hD d2
      | cons c q =>
        rw [hD] at d1 d2 d3 d4 htop hval
        have hc := d1 c (by simp)
        have ht := Lex.tks_lit k h2 h9 (c :: q) d1 d2 d4 htop (x := 59) (.inr rfl) [32, 116, 101, 108] 33 (20000 - 13) (by decide)
        rw [hval, Lex.tks_tel _ _ (by decide)] at ht
        by_cases h5 : k ≤ 5
        · have h0 : 0 ≤ n := hb.resolve_right (by omega)
          obtain ⟨m, hm⟩ : ∃ m : Nat, n = Int.ofNat m := ⟨n.toNat, by simp [Int.toNat_of_nonneg h0]⟩
          rw [hm] at ht ⊢
          exact parse_of (S := [⟨2, c :: q ++ Lex.kindS k, Int.ofNat m, k, 33⟩]) (by simp only [List.length_append]; omega) ht rfl (Gram.lit_pos k (by omega) hc (q ++ Lex.kindS k) m _)
        · exact parse_of (S := [⟨2, c :: q ++ Lex.kindS k, n, k, 33⟩]) (by simp only [List.length_append]; omega) ht rfl (Gram.lit_uns k (by omega) hc (q ++ Lex.kindS k) n _)
    · refine ⟨34, ?_⟩
      have h0 : n < 0 := by omega
      have hk9 : ¬ k = 9 := by omega
      have h5 : k ≤ 5 := by
        rcases Lex.kinds_of k h2 h9 with rfl | rfl | rfl | rfl | rfl | rfl | rfl | rfl <;> simp [Bv.wrp] at hv <;> omega
      obtain ⟨u, hu⟩ : ∃ u : Nat, u = n.natAbs := ⟨_, rfl⟩
      have hL : Lex.litL k n = 40 :: 45 :: (Lib.decDigits u ++ Lex.kindS k ++ [41]) := by
        rw [litL_neg k n hk1 hb]
        unfold digL
        rw [if_neg hk9]
        unfold Lib.itoa
        rw [if_pos h0, hu]
        rfl
      obtain ⟨d1, d2, d3⟩ := Lex.dec_facts u
      have d4 := Lex.dec_len20 u (by omega)
      have htop : ((Lex.numVal (Lib.decDigits u) : Nat) : Int) ≤ Lex.top k := by
        rw [d3, hu]
        rcases (show k = 2 ∨ k = 3 ∨ k = 4 ∨ k = 5 by omega) with rfl | rfl | rfl | rfl <;> simp [Bv.wrp] at hv <;> simp [Lex.top] <;> omega
      have hval : Bv.wrp k (wrap64 (-(Bv.wrp k (wrap64 (Lex.numVal (Lib.decDigits u)))))) = n := by
        rw [d3]
        have hun : (u : Int) = -n := by omega
        rw [hun]
        rcases (show k = 2 ∨ k = 3 ∨ k = 4 ∨ k = 5 by omega) with rfl | rfl | rfl | rfl <;> simp [Bv.wrp] at hv ⊢ <;> unfold wrap64 <;> omega
      rw [hL]
      have hk := kindS_len k h2 h9
      cases hD : Lib.decDigits u with
      | nil => exact absurd hD d2
      | cons c q =>
        rw [hD] at d1 d2 d3 d4 htop hval
        have hc := d1 c (by simp)
        have t3 := Lex.tks_lit k h2 h9 (c :: q) d1 d2 d4 htop (x := 41) (.inl rfl) [59, 32, 116, 101, 108] 35 (20000 - 13 - 1 - 1) (by decide)
        rw [Lex.tks_one 41 (.inr rfl) _ _ _ (by decide), Lex.tks_tel _ _ (by decide)] at t3
        have t2 := Lex.tks_minus hc (q ++ Lex.kindS k ++ 41 :: [59, 32, 116, 101, 108]) 34 (20000 - 13 - 1) (by decide)
        have t1 := Lex.tks_one 40 (.inl rfl) (45 :: c :: (q ++ Lex.kindS k ++ 41 :: [59, 32, 116, 101, 108])) 33 (20000 - 13) (by decide)
        have hp := Gram.lit_neg k (by omega) hc (q ++ Lex.kindS k) (Bv.wrp k (wrap64 (Lex.numVal (c :: q)))) (35 + (c :: q ++ Lex.kindS k).length) (35 + (c :: q ++ Lex.kindS k).length + 1)
        rw [hval] at hp
        refine parse_of (S := [⟨4, [40], 0, 0, 33⟩, ⟨4, [45], 0, 0, 34⟩, ⟨2, c :: (q ++ Lex.kindS k), Bv.wrp k (wrap64 (Lex.numVal (c :: q))), k, 35⟩, ⟨4, [41], 0, 0, 35 + (c :: q ++ Lex.kindS k).length⟩]) (by simp only [List.length_append, List.length_cons, List.length_nil]; simp only [List.length_cons] at d4; omega) ?_ rfl hp
        have e : 40 :: 45 :: (c :: q ++ Lex.kindS k ++ [41]) ++ [59, 32, 116, 101, 108] = 40 :: 45 :: c :: (q ++ Lex.kindS k ++ 41 :: [59, 32, 116, 101, 108]) := by simp
        rw [e, t1, t2]
        have e2 : c :: (q ++ Lex.kindS k ++ 41 :: [59, 32, 116, 101, 108]) = c :: q ++ Lex.kindS k ++ 41 :: [59, 32, 116, 101, 108] := by simp
        rw [e2, t3]
        rfl

end Go.Proofs.YtachmiajldeakaaGreatDoor
