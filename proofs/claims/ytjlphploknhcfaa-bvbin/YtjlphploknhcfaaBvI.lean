/- The walks of the document's own below and divide: the order of a kind; the quotient and the rest of two numbers of 64 bits without a sign, bit by bit. -/
import Derived.Test.YtjlphploknhcfaaChecked
import Derived.Test.YtjlphploknhcfaaBvY
import Derived.Test.YtjlphploknhcfaaBvC
namespace Go.Proofs.Ytjlphploknhcfaa
open Go.RowKit

theorem below9 (a b : Int) (ia : Bv.I64 a) (ib : Bv.I64 b) : Bv.lss 9 a b = if (decide (a < 0) != decide (b < 0)) then decide (b < 0) else decide (a < b) := by
  rw [Bv.lss_u (by omega), Bv.U_eq, Bv.U_eq]
  unfold Bv.I64 at ia ib
  by_cases ha : a < 0
  · by_cases hb : b < 0
    · simp only [ha, hb, decide_true, bne_self_eq_false, Bool.false_eq_true, if_false]
      rw [decide_eq_decide]; omega
    · simp [ha, hb]; omega
  · by_cases hb : b < 0
    · simp [ha, hb]; omega
    · simp only [ha, hb, decide_false, bne_self_eq_false, Bool.false_eq_true, if_false]
      rw [decide_eq_decide]; omega

theorem below_num (k a b : Int) (h : 6 ≤ k → 0 ≤ a ∧ 0 ≤ b) (ia : Bv.I64 a) (ib : Bv.I64 b) : Bv.lss k a b = decide (a < b) := by
  by_cases h6 : 6 ≤ k
  · rw [Bv.lss_u h6, Bv.U_eq, Bv.U_eq]
    unfold Bv.I64 at ia ib
    have := h h6
    rw [decide_eq_decide]; omega
  · exact Bv.lss_s (by omega) a b

set_option maxHeartbeats 400000 in
theorem below9_any (a b : Int) (ia : Bv.I64 a) (ib : Bv.I64 b) (w : World) :
    Calls Try.prog 37 #[.int .i64 9, .int .i64 a, .int .i64 b] w fun e w' => e = .returned (.bool (Bv.lss 9 a b)) ∧ w' = w := by
  rw [below9 a b ia ib]
  clear ia ib
  by_cases ha : a < 0
  · by_cases hb : b < 0
    · go_enter Try.func37, Try.ntmps37
      go_wp2
      all_goals go_ret
      all_goals exact ⟨ret_bool (by first | rfl | (simp; done) | (simp; omega)), rfl⟩
    · go_enter Try.func37, Try.ntmps37
      go_wp2
      all_goals go_ret
      all_goals exact ⟨ret_bool (by first | rfl | (simp; done) | (simp; omega)), rfl⟩
  · by_cases hb : b < 0
    · go_enter Try.func37, Try.ntmps37
      go_wp2
      all_goals go_ret
      all_goals exact ⟨ret_bool (by first | rfl | (simp; done) | (simp; omega)), rfl⟩
    · go_enter Try.func37, Try.ntmps37
      go_wp2
      all_goals go_ret
      all_goals exact ⟨ret_bool (by first | rfl | (simp; done) | (simp; omega)), rfl⟩

set_option maxHeartbeats 400000 in
theorem below_any (k a b : Int) (h1 : k ≤ 8) (h : 6 ≤ k → 0 ≤ a ∧ 0 ≤ b) (ia : Bv.I64 a) (ib : Bv.I64 b) (w : World) :
    Calls Try.prog 37 #[.int .i64 k, .int .i64 a, .int .i64 b] w fun e w' => e = .returned (.bool (Bv.lss k a b)) ∧ w' = w := by
  rw [below_num k a b h ia ib]
  have hk : (k == 9) = false := by rw [beq_eq_false_iff_ne]; omega
  clear ia ib h h1
  go_enter Try.func37, Try.ntmps37
  go_wp2
  all_goals go_ret
  all_goals exact ⟨rfl, rfl⟩

theorem half (A t : Nat) : A / 2 ^ t = 2 * (A / 2 ^ (t + 1)) + (if A.testBit t then 1 else 0) := by
  have e : A / 2 ^ (t + 1) = A / 2 ^ t / 2 := by rw [Nat.pow_succ, Nat.div_div_eq_div_mul]
  rw [e, Nat.testBit_eq_decide_div_mod_eq]
  by_cases h : A / 2 ^ t % 2 = 1
  · simp [h]; omega
  · simp [h]; omega

theorem div_next (P1 B x : Nat) (hB : 0 < B) (hx : x ≤ 1) : (2 * P1 + x) % B = (if 2 * (P1 % B) + x < B then 2 * (P1 % B) + x else 2 * (P1 % B) + x - B) ∧ (2 * P1 + x) / B = (if 2 * (P1 % B) + x < B then 2 * (P1 / B) else 2 * (P1 / B) + 1) := by
  have h1 := Nat.div_add_mod P1 B
  have h2 := Nat.mod_lt P1 hB
  generalize P1 % B = R at *
  generalize P1 / B = Q at *
  have e : 2 * P1 + x = B * (2 * Q) + (2 * R + x) := by
    rw [← h1, Nat.mul_add, ← Nat.mul_assoc, ← Nat.mul_assoc, Nat.mul_comm 2 B]; omega
  split
  · rename_i h
    rw [e, Nat.mul_add_mod, Nat.mod_eq_of_lt h, Nat.mul_add_div hB, Nat.div_eq_of_lt h]
    simp
  · rename_i h
    have e2 : B * (2 * Q) + (2 * R + x) = B * (2 * Q + 1) + (2 * R + x - B) := by rw [Nat.mul_add]; omega
    have h3 : 2 * R + x - B < B := by omega
    rw [e, e2, Nat.mul_add_mod, Nat.mod_eq_of_lt h3, Nat.mul_add_div hB, Nat.div_eq_of_lt h3]
    simp

theorem wa (y x : Int) : wrap64 (wrap64 y + x) = wrap64 (y + x) := by unfold wrap64; omega
theorem wm (z : Int) : wrap64 (2 * wrap64 z) = wrap64 (2 * z) := by unfold wrap64; omega
theorem ws (y z : Int) : wrap64 (wrap64 y - wrap64 z) = wrap64 (y - z) := by unfold wrap64; omega
theorem wneg (N : Nat) (h : N < 18446744073709551616) : wrap64 (N : Int) < 0 ↔ 9223372036854775808 ≤ N := by unfold wrap64; omega
theorem wmod (y : Int) : wrap64 y % 18446744073709551616 = y % 18446744073709551616 := by unfold wrap64; omega
theorem wtop (y : Int) : wrap64 (y + -9223372036854775808) = wrap64 (y + 9223372036854775808) := by unfold wrap64; omega

theorem div_step (a b : Int) (t : Nat) (ib : Bv.I64 b) (hb : 0 < Bv.low 64 b) (r q : Int)
    (hr : r = wrap64 ((Bv.low 64 a / 2 ^ (t + 1) % Bv.low 64 b : Nat) : Int)) (hq : q = wrap64 ((Bv.low 64 a / 2 ^ (t + 1) / Bv.low 64 b * 2 ^ (t + 1) : Nat) : Int)) :
    ∃ r1, wrap64 (wrap64 (2 * r) + Bv.one (Bv.bt a t)) = r1 ∧ Bv.I64 r1 ∧
      ((r < 0 ∨ Bv.lss 9 r1 b = false) → wrap64 (r1 - b) = wrap64 ((Bv.low 64 a / 2 ^ t % Bv.low 64 b : Nat) : Int) ∧ wrap64 (q + 2 ^ t) = wrap64 ((Bv.low 64 a / 2 ^ t / Bv.low 64 b * 2 ^ t : Nat) : Int) ∧ (t = 63 → wrap64 (q + -9223372036854775808) = wrap64 ((Bv.low 64 a / 2 ^ t / Bv.low 64 b * 2 ^ t : Nat) : Int))) ∧
      (¬ r < 0 → Bv.lss 9 r1 b = true → r1 = wrap64 ((Bv.low 64 a / 2 ^ t % Bv.low 64 b : Nat) : Int) ∧ q = wrap64 ((Bv.low 64 a / 2 ^ t / Bv.low 64 b * 2 ^ t : Nat) : Int)) := by
  have hB64 := Bv.low_lt 64 b
  have e64 : (2 : Nat) ^ 64 = 18446744073709551616 := by decide
  rw [e64] at hB64
  have hbw : b = wrap64 (Bv.low 64 b : Int) := by
    unfold Bv.low wrap64
    unfold Bv.I64 at ib
    omega
  have hone : Bv.one (Bv.bt a t) = ((if (Bv.low 64 a).testBit t then 1 else 0 : Nat) : Int) := by
    unfold Bv.bt
    cases (Bv.low 64 a).testBit t <;> rfl
  have hh := half (Bv.low 64 a) t
  have hx : (if (Bv.low 64 a).testBit t then 1 else 0 : Nat) ≤ 1 := by split <;> omega
  generalize (if (Bv.low 64 a).testBit t then 1 else 0 : Nat) = x at *
  obtain ⟨m1, m2⟩ := div_next (Bv.low 64 a / 2 ^ (t + 1)) (Bv.low 64 b) x hb hx
  rw [← hh] at m1 m2
  have hR := Nat.mod_lt (Bv.low 64 a / 2 ^ (t + 1)) hb
  have hl : ∀ y : Int, Bv.lss 9 (wrap64 y) b = decide (y % 18446744073709551616 < (Bv.low 64 b : Int)) := by
    intro y
    rw [Bv.lss_u (by omega), Bv.U_eq, Bv.U_eq, wmod, decide_eq_decide]
    have : b % 18446744073709551616 = (Bv.low 64 b : Int) := by unfold Bv.low; omega
    rw [this]
  clear hh
  rw [hone]
  generalize Bv.low 64 b = B at *
  generalize Bv.low 64 a / 2 ^ (t + 1) % B = R at *
  generalize Bv.low 64 a / 2 ^ (t + 1) / B = Q at *
  generalize Bv.low 64 a / 2 ^ t % B = R' at *
  generalize Bv.low 64 a / 2 ^ t / B = Q' at *
  have ep : Q * 2 ^ (t + 1) = 2 * (Q * 2 ^ t) := by rw [Nat.pow_succ, ← Nat.mul_assoc, Nat.mul_comm]
  have epi : ((2 : Int) ^ t) = ((2 ^ t : Nat) : Int) := by simp
  have ep63 : t = 63 → 2 ^ t = 9223372036854775808 := by intro h; subst h; decide
  rw [ep] at hq
  have er1 : wrap64 (wrap64 (2 * r) + (x : Int)) = wrap64 ((2 * R + x : Nat) : Int) := by
    rw [hr, wm, wa]; congr 1
  rw [er1]
  have hneg : r < 0 ↔ 9223372036854775808 ≤ R := by rw [hr]; exact wneg R (by omega)
  have hlr := hl ((2 * R + x : Nat) : Int)
  clear hl er1 hone ib
  refine ⟨_, rfl, Bv.i64_wrap64 _, fun h => ?_, fun h1 h2 => ?_⟩
  · have hge : ¬ 2 * R + x < B := by
      rcases h with h | h
      · have := hneg.1 h; omega
      · rw [hlr] at h
        have h' := of_decide_eq_false h
        by_cases hn : 9223372036854775808 ≤ R
        · omega
        · omega
    rw [if_neg hge] at m1 m2
    have eq' : Q' * 2 ^ t = 2 * (Q * 2 ^ t) + 2 ^ t := by rw [m2, Nat.add_mul, Nat.one_mul, Nat.mul_assoc]
    rw [eq', epi]
    clear hlr h hneg
    refine ⟨?_, ?_, fun h63 => ?_⟩
    · rw [hbw, ws, m1]
      congr 1
      omega
    · rw [hq, wa]
      congr 1
    · rw [hq, wtop, wa, ep63 h63]
      congr 1
  · have hlt : 2 * R + x < B := by
      rw [hlr] at h2
      have h' := of_decide_eq_true h2
      have hn : ¬ 9223372036854775808 ≤ R := fun h => h1 (hneg.2 h)
      omega
    rw [if_pos hlt] at m1 m2
    refine ⟨?_, ?_⟩
    · rw [m1]
    · rw [hq, m2, Nat.mul_assoc]
end Go.Proofs.Ytjlphploknhcfaa
