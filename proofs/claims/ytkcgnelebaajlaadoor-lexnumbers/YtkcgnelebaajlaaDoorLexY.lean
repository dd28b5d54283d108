/- The document's own digits, on: Unsigned, Number, KindName. -/
import Derived.Test.YtkcgnelebaajlaaDoorLexX
namespace Go.Proofs.YtkcgnelebaajlaaDoor
open Go.RowKit Go.Maps Go.WideMaps

namespace Lex
/-- l is v's digits -/
def isNum (v : Nat) (l : List UInt8) : Prop := digits l ∧ l ≠ [] ∧ numVal l = v ∧ l.length ≤ 20
theorem isDec.num {v : Nat} {l : List UInt8} (h : isDec v l) : isNum v l := ⟨h.1, h.2.1, h.2.2.1, by have := h.2.2.2.1; omega⟩
end Lex

theorem and63 (z : Int) : bits .and .i64 z 9223372036854775807 = z % 9223372036854775808 := by
  have h1 : (BitVec.ofInt 64 9223372036854775807).toNat = 2 ^ 63 - 1 := by decide
  have key : (BitVec.ofInt 64 z &&& BitVec.ofInt 64 9223372036854775807).toNat = (z % ((2 ^ 64 : Nat) : Int)).toNat % 2 ^ 63 := by
    rw [BitVec.toNat_and, BitVec.toNat_ofInt, h1, Nat.and_two_pow_sub_one_eq_mod]
  show IntKind.i64.wrap ((BitVec.ofInt 64 z &&& BitVec.ofInt 64 9223372036854775807).toNat : Nat) = z % 9223372036854775808
  rw [key, IntKind.wrap_i64]
  omega

theorem wrap_spec (z : Int) : ∃ k, z = wrap64 z + 18446744073709551616 * k := ⟨(z + 9223372036854775808) / 18446744073709551616, by unfold wrap64; omega⟩
theorem wrap_of (z r k : Int) (h : z = r + 18446744073709551616 * k) (h1 : -9223372036854775808 ≤ r) (h2 : r ≤ 9223372036854775807) : wrap64 z = r := by
  subst h
  unfold wrap64
  rw [show r + 18446744073709551616 * k + 9223372036854775808 = r + 9223372036854775808 + 18446744073709551616 * k by omega, Int.add_mul_emod_self_left]
  omega

theorem half_of (n : Int) (U : Nat) (hU : (U : Int) = n + 18446744073709551616) (h : U < 18446744073709551616) : (n / 2) % 9223372036854775808 = ((U / 2 : Nat) : Int) := by
  have e : n = (U : Int) + (-9223372036854775808) * 2 := by omega
  rw [e, Int.add_mul_ediv_right _ _ (by decide)]
  have e2 : (U : Int) / 2 + -9223372036854775808 = (U : Int) / 2 + 9223372036854775808 * (-1) := by omega
  rw [e2, Int.add_mul_emod_self_left, Int.emod_eq_of_lt (by omega) (by omega)]
  omega

theorem tenth_of (U : Nat) : (((U / 2 : Nat) : Int)).tdiv 5 = ((U / 10 : Nat) : Int) := by
  have h : U / 2 / 5 = U / 10 := Nat.div_div_eq_div_mul U 2 5
  rw [show (5 : Int) = ((5 : Nat) : Int) from rfl, ← Int.ofNat_tdiv, h]
theorem rest_of (n : Int) (U q r : Nat) (hU : (U : Int) = n + 18446744073709551616) (hqr : U = 10 * q + r) (hr : r < 10) : wrap64 (n - wrap64 (10 * (q : Int))) = (r : Int) := by
  obtain ⟨k, hk⟩ := wrap_spec (10 * (q : Int))
  generalize wrap64 (10 * (q : Int)) = z at hk
  exact wrap_of _ _ (k - 1) (by omega) (by omega) (by omega)

set_option maxHeartbeats 1600000 in
theorem runsigned_any (n : Int) (h1 : -9223372036854775808 ≤ n) (h2 : n ≤ 9223372036854775807) (w : World) :
    Calls Tryd.prog 14 #[.int .i64 n] w fun e w' => (∃ x : ByteArray, e = .returned (.string x) ∧ Lex.isNum (if 0 ≤ n then n.toNat else (n + 18446744073709551616).toNat) x.data.toList) ∧ w' = w := by
  by_cases h0 : 0 ≤ n
  · rw [if_pos h0]
    obtain ⟨m, rfl⟩ : ∃ m : Nat, n = (m : Int) := ⟨n.toNat, by omega⟩
    have hD := fun wx => rdigits_any m (by omega) wx
    have hd : decide ((0 : Int) ≤ m) = true := by rw [decide_eq_true_iff]; omega
    go_enter Tryd.func14, Tryd.ntmps14
    go_wp2_with (go_at_call 25; refine (hD _).mono ?_; rintro e w' ⟨⟨x, rfl, hx⟩, rfl⟩)
    go_ret
    exact ⟨⟨_, rfl, by simpa using hx.num⟩, rfl⟩
  · rw [if_neg h0]
    obtain ⟨U, hU⟩ : ∃ U : Nat, (U : Int) = n + 18446744073709551616 := ⟨(n + 18446744073709551616).toNat, by omega⟩
    rw [← hU, Int.toNat_natCast]
    have hd : decide ((0 : Int) ≤ n) = false := by rw [decide_eq_false_iff_not]; omega
    obtain ⟨q, hq⟩ : ∃ q, q = U / 10 := ⟨_, rfl⟩
    obtain ⟨r, hr⟩ : ∃ r, r = U % 10 := ⟨_, rfl⟩
    have e1 := and63 (n / 2)
    have e2 : (n / 2) % 9223372036854775808 = ((U / 2 : Nat) : Int) := half_of n U hU (by omega)
    rw [e2] at e1
    have e3 : (((U / 2 : Nat) : Int)).tdiv 5 = (q : Int) := by rw [hq]; exact tenth_of U
    have hqr : U = 10 * q + r := by omega
    have hr9 : r < 10 := by omega
    have hq63 : q < 9223372036854775808 := by omega
    have e4 : wrap64 (q : Int) = q := wrap_of _ _ 0 (by omega) (by omega) (by omega)
    have e6 : wrap64 (n - wrap64 (10 * (q : Int))) = (r : Int) := rest_of n U q r hU hqr hr9
    have hD1 := fun wx => rdigits_any q hq63 wx
    have hD2 := fun wx => rdigits_any r (by omega) wx
    have HF : Hid (q * 10 + r = U ∧ r < 10) := ⟨by omega, hr9⟩
    clear hU e2 hq hr hqr hr9 hq63
    generalize U / 2 = u2 at e1 e3
    go_enter Tryd.func14, Tryd.ntmps14
    go_wp2_with (go_at_call 25; refine (hD1 _).mono ?_; rintro e w' ⟨⟨x, rfl, hx⟩, hw'⟩; subst hw'; refine Hid.out ?_)
    refine Lib.hid ?_
    have hxs : x.size ≤ 19 := by
      have h3 : x.data.toList.length = x.size := Array.length_toList
      have := hx.2.2.2.1
      omega
    go_wp2_with (go_at_call 25; refine (hD2 _).mono ?_; rintro e w2 ⟨⟨y, rfl, hy⟩, hw2⟩; subst hw2; refine Hid.out ?_)
    have hys : y.size = 1 := by
      have h3 : y.data.toList.length = y.size := Array.length_toList
      have := hy.2.2.2.2 HF.out.2
      omega
    refine Lib.hid ?_
    go_wp2
    go_ret
    refine ⟨⟨_, rfl, ?_⟩, rfl⟩
    have h3 : y.data.toList.length = y.size := Array.length_toList
    rw [ByteArray.data_append, Array.toList_append]
    refine ⟨fun c hc => ?_, ?_, ?_, ?_⟩
    · rcases List.mem_append.1 hc with hc | hc
      · exact hx.1 c hc
      · exact hy.1 c hc
    · intro hh
      exact hx.2.1 (List.append_eq_nil_iff.1 hh).1
    · rw [Lex.numVal_append, hx.2.2.1, hy.2.2.1, h3, hys, Nat.pow_one]
      exact HF.out.1
    · rw [List.length_append, h3, hys]
      have := hx.2.2.2.1
      omega

theorem digits_of {l : List UInt8} (h : (l.all Lex.digit) = true) : Lex.digits l := fun c hc => (digit_iff c).1 (List.all_eq_true.1 h c hc)
theorem min_val : Lex.numVal [57, 50, 50, 51, 51, 55, 50, 48, 51, 54, 56, 53, 52, 55, 55, 53, 56, 48, 56] = (-(-9223372036854775808 : Int)).toNat := by kernel_rfl
theorem min_num : Lex.isNum (-(-9223372036854775808 : Int)).toNat [57, 50, 50, 51, 51, 55, 50, 48, 51, 54, 56, 53, 52, 55, 55, 53, 56, 48, 56] := ⟨digits_of (by kernel_rfl), by simp, min_val, by simp⟩

set_option maxHeartbeats 1600000 in
theorem rnumber_neg (n : Int) (h1 : -9223372036854775808 ≤ n) (h2 : n < 0) (w : World) :
    Calls Tryd.prog 15 #[.int .i64 n] w fun e w' => (∃ x : ByteArray, e = .returned (.string x) ∧ ∃ l, x.data.toList = 45 :: l ∧ Lex.isNum (-n).toNat l) ∧ w' = w := by
  have hd : decide ((0 : Int) ≤ n) = false := by rw [decide_eq_false_iff_not]; omega
  by_cases hm : n = -9223372036854775808
  · subst hm
    go_enter Tryd.func15, Tryd.ntmps15
    go_wp2
    go_ret
    refine ⟨⟨_, rfl, _, rfl, ?_⟩, rfl⟩
    exact min_num
  · obtain ⟨m, hmn⟩ : ∃ m : Nat, (m : Int) = -n := ⟨(-n).toNat, by omega⟩
    have e0 : (n == -9223372036854775808) = false := by rw [beq_eq_false_iff_ne]; exact hm
    have e1 : wrap64 (-n) = (m : Int) := wrap_of _ _ 0 (by omega) (by omega) (by omega)
    have e2 : (-n).toNat = m := by omega
    rw [e2]
    have hD := fun wx => rdigits_any m (by omega) wx
    clear hmn e2 hm
    go_enter Tryd.func15, Tryd.ntmps15
    go_wp2_with (go_at_call 25; refine (hD _).mono ?_; rintro e w' ⟨⟨x, rfl, hx⟩, hw'⟩; subst hw'; refine Hid.out ?_)
    have hxs : x.size ≤ 19 := by
      have h3 : x.data.toList.length = x.size := Array.length_toList
      have := hx.2.2.2.1
      omega
    refine Lib.hid ?_
    go_wp2
    go_ret
    refine ⟨⟨_, rfl, x.data.toList, ?_, hx.num⟩, rfl⟩
    rw [ByteArray.data_append, Array.toList_append]
    rfl

namespace Lex
/-- the words of the kinds -/
def kindL (k : Int) : List UInt8 := if k = 2 then [105, 56] else if k = 3 then [105, 49, 54] else if k = 4 then [105, 51, 50] else if k = 5 then [105, 54, 52] else if k = 6 then [117, 56] else if k = 7 then [117, 49, 54] else if k = 8 then [117, 51, 50] else [117, 54, 52]
end Lex

set_option maxHeartbeats 1600000 in
theorem rkindName_any (k : Int) (h2 : 2 ≤ k) (h9 : k ≤ 9) (w : World) :
    Calls Tryd.prog 16 #[.int .i64 k] w fun e w' => e = .returned (.string ⟨(Lex.kindL k).toArray⟩) ∧ w.grownBy w' none := by
  rcases top_wid k h2 h9 with rfl | rfl | rfl | rfl | rfl | rfl | rfl | rfl
  all_goals
    go_enter Tryd.func16, Tryd.ntmps16
    go_wp2
    go_ret
    exact ⟨rfl, World.grownBy_alloc w _ none⟩

end Go.Proofs.YtkcgnelebaajlaaDoor
