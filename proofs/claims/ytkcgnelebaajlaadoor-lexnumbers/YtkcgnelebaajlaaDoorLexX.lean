/- The document's own digits of a number: Digits, Unsigned, Number, KindName. -/
import Derived.Test.YtkcgnelebaajlaaDoorLexR
import Derived.Test.YtkcgnelebaajlaaDoorLexK
namespace Go.Proofs.YtkcgnelebaajlaaDoor
open Go.RowKit Go.Maps Go.WideMaps

namespace Lex
theorem fv_acc : ∀ (l : List UInt8) (a : Nat), fv a l = a * 10 ^ l.length + fv 0 l
  | [], a => by simp [fv_nil]
  | c :: r, a => by
    rw [fv_cons, fv_cons, fv_acc r, fv_acc r (0 * 10 + (c.toNat - 48)), List.length_cons, Nat.pow_succ]
    have e : (a * 10 + (c.toNat - 48)) * 10 ^ r.length = a * (10 ^ r.length * 10) + (c.toNat - 48) * 10 ^ r.length := by
      rw [Nat.add_mul, Nat.mul_assoc, Nat.mul_comm 10]
    rw [e, Nat.zero_mul, Nat.zero_add]
    omega
theorem numVal_cons (c : UInt8) (r : List UInt8) : numVal (c :: r) = (c.toNat - 48) * 10 ^ r.length + numVal r := by
  rw [numVal_eq, numVal_eq, fv_cons, fv_acc, Nat.zero_mul, Nat.zero_add]
theorem numVal_append (l m : List UInt8) : numVal (l ++ m) = numVal l * 10 ^ m.length + numVal m := by
  rw [numVal_eq, numVal_eq, numVal_eq]
  unfold fv
  rw [List.foldl_append]
  exact fv_acc m _
/-- l is v's digits, no nought ahead -/
def isDec (v : Nat) (l : List UInt8) : Prop := digits l ∧ l ≠ [] ∧ numVal l = v ∧ l.length ≤ 19 ∧ (v < 10 → l.length = 1)
end Lex

theorem digit_at (r : Nat) (h : r < 10) : ((⟨#[48, 49, 50, 51, 52, 53, 54, 55, 56, 57]⟩ : ByteArray).extract r (r + 1)).data.toList = [UInt8.ofNat (48 + r)] := by
  rcases (show r = 0 ∨ r = 1 ∨ r = 2 ∨ r = 3 ∨ r = 4 ∨ r = 5 ∨ r = 6 ∨ r = 7 ∨ r = 8 ∨ r = 9 by omega) with rfl | rfl | rfl | rfl | rfl | rfl | rfl | rfl | rfl | rfl <;> decide
theorem digit_nat (r : Nat) (h : r < 10) : (UInt8.ofNat (48 + r)).toNat = 48 + r := by
  rcases (show r = 0 ∨ r = 1 ∨ r = 2 ∨ r = 3 ∨ r = 4 ∨ r = 5 ∨ r = 6 ∨ r = 7 ∨ r = 8 ∨ r = 9 by omega) with rfl | rfl | rfl | rfl | rfl | rfl | rfl | rfl | rfl | rfl <;> decide

def decInv (v n : Nat) (l : List UInt8) : Prop := Lex.digits l ∧ n * 10 ^ l.length + Lex.numVal l = v ∧ (l = [] ∨ (¬ n = 0 ∧ 10 ≤ v))
theorem dec_start (v : Nat) : Hid (decInv v v []) := by
  refine ⟨fun c hc => absurd hc (by simp), ?_, .inl rfl⟩
  show v * 10 ^ 0 + 0 = v
  omega
theorem dec_step {v n : Nat} {l : List UInt8} (h : decInv v n l) : Lex.digits (UInt8.ofNat (48 + n % 10) :: l) ∧ (n / 10) * 10 ^ (l.length + 1) + Lex.numVal (UInt8.ofNat (48 + n % 10) :: l) = v := by
  have hd := digit_nat (n % 10) (by omega)
  refine ⟨fun c hc => ?_, ?_⟩
  · rcases List.mem_cons.1 hc with rfl | hc
    · rw [hd]; omega
    · exact h.1 c hc
  · rw [Lex.numVal_cons, hd, Nat.pow_succ]
    have e1 : 48 + n % 10 - 48 = n % 10 := by omega
    have e2 : n * 10 ^ l.length = (n / 10) * (10 ^ l.length * 10) + n % 10 * 10 ^ l.length := by
      have : n = n / 10 * 10 + n % 10 := by omega
      conv => lhs; rw [this]
      rw [Nat.add_mul, Nat.mul_assoc, Nat.mul_comm 10]
    rw [e1]
    have := h.2.1
    omega
theorem dec_len {v n : Nat} {l : List UInt8} (hv : v < 9223372036854775808) (h : n * 10 ^ l.length + Lex.numVal l = v) (hn : ¬ n = 0) : l.length ≤ 18 := by
  by_cases hl : l.length ≤ 18
  · exact hl
  · exfalso
    have h1 : 10 ^ 19 ≤ 10 ^ l.length := Nat.pow_le_pow_right (by decide) (by omega)
    have h2 : 1 * 10 ^ l.length ≤ n * 10 ^ l.length := Nat.mul_le_mul_right _ (by omega)
    have h3 : (10 : Nat) ^ 19 = 10000000000000000000 := by decide
    omega

set_option maxHeartbeats 1600000 in
theorem rdigits_any (v : Nat) (hv : v < 9223372036854775808) (w : World) :
    Calls Tryd.prog 25 #[.int .i64 (v : Int)] w fun e w' => (∃ x : ByteArray, e = .returned (.string x) ∧ Lex.isDec v x.data.toList) ∧ w' = w := by
  go_enter Tryd.func25, Tryd.ntmps25
  go_wp2
  go_loop [0, 3] (fun a b => ∃ (n : Nat) (x : ByteArray), a = .int .i64 (n : Int) ∧ b = .string x ∧ n ≤ v ∧ x.size ≤ 18 ∧ Hid (decInv v n x.data.toList)) (fun a _ => (intOf a).toNat)
  case atStart => exact ⟨v, ⟨#[]⟩, rfl, rfl, Nat.le_refl _, by decide, dec_start v⟩
  case round =>
    obtain ⟨n, x, rfl, rfl, hn, hx, H⟩ := hrel
    have m1 : ((n : Int).tmod 10) = ((n % 10 : Nat) : Int) := (Int.ofNat_tmod n 10).symm
    have q1 : ((n : Int).tdiv 10) = ((n / 10 : Nat) : Int) := (Int.ofNat_tdiv n 10).symm
    have q2 : wrap64 ((n / 10 : Nat) : Int) = ((n / 10 : Nat) : Int) := by unfold wrap64; omega
    have hstep := dec_step H.out
    have hxl : x.data.toList.length = x.size := by simp
    have hadd : ((⟨#[48, 49, 50, 51, 52, 53, 54, 55, 56, 57]⟩ : ByteArray).extract (n % 10) (n % 10 + 1) ++ x).data.toList = UInt8.ofNat (48 + n % 10) :: x.data.toList := by
      rw [ByteArray.data_append, Array.toList_append, digit_at (n % 10) (by omega)]; rfl
    obtain ⟨r, hrr⟩ : ∃ r, r = n % 10 := ⟨_, rfl⟩
    obtain ⟨q, hqq⟩ : ∃ q, q = n / 10 := ⟨_, rfl⟩
    rw [← hrr] at m1 hadd hstep
    rw [← hqq] at q1 q2 hstep
    have r9 : r ≤ 9 := by omega
    have HQ : Hid (q = n / 10) := hqq
    clear hqq hrr
    have HS : Hid _ := hstep
    have HA : Hid _ := hadd
    have HQ2 : Hid _ := q2
    clear hstep hadd
    by_cases hq0 : q = 0
    · have hq1 : ((q : Int) == 0) = true := by rw [beq_iff_eq]; omega
      go_wp2
      go_ret
      refine ⟨⟨_, rfl, ?_⟩, rfl⟩
      rw [HA.out]
      have hs := HS.out
      rw [hq0, Nat.zero_mul, Nat.zero_add] at hs
      refine ⟨hs.1, by simp, hs.2, by rw [List.length_cons, hxl]; omega, fun h10 => ?_⟩
      rcases H.out.2.2 with he | he
      · rw [he]; rfl
      · omega
    · have hq1 : ((q : Int) == 0) = false := by rw [beq_eq_false_iff_ne]; omega
      have hlen : x.size + 1 ≤ 18 := by
        have hs := HS.out.2
        have := dec_len (v := v) (n := q) (l := UInt8.ofNat (48 + r) :: x.data.toList) hv (by rw [List.length_cons]; exact hs) hq0
        rw [List.length_cons, hxl] at this
        exact this
      go_wp2
      have hsize : ((⟨#[48, 49, 50, 51, 52, 53, 54, 55, 56, 57]⟩ : ByteArray).extract r (r + 1) ++ x).size = x.size + 1 := by
        have h1 : ((⟨#[48, 49, 50, 51, 52, 53, 54, 55, 56, 57]⟩ : ByteArray).extract r (r + 1) ++ x).data.toList.length = ((⟨#[48, 49, 50, 51, 52, 53, 54, 55, 56, 57]⟩ : ByteArray).extract r (r + 1) ++ x).size := Array.length_toList
        rw [HA.out, List.length_cons, hxl] at h1
        exact h1.symm
      have hqn := HQ.out
      refine ⟨⟨q, _, by rw [HQ2.out], rfl, by omega, by rw [hsize]; exact hlen, ?_⟩, ?_⟩
      · show decInv _ _ _
        rw [HA.out]
        refine ⟨HS.out.1, by rw [List.length_cons]; exact HS.out.2, .inr ⟨hq0, by omega⟩⟩
      · rw [HQ2.out]
        simp only [intOf, Int.toNat_natCast]
        omega

end Go.Proofs.YtkcgnelebaajlaaDoor
