/- The document's own digits of a number below 100, and names of kinds. -/
import Derived.Test.YtjcdkgjfecnkgabGreatDoorGxA
namespace Go.Proofs.YtjcdkgjfecnkgabGreatDoor
open Go.RowKit Go.Maps Go.WideMaps

theorem digit_one (r : Nat) (h : r < 10) : ((⟨#[48, 49, 50, 51, 52, 53, 54, 55, 56, 57]⟩ : ByteArray).extract r (r + 1)).data.toList = [UInt8.ofNat (48 + r)] := by
  rcases (show r = 0 ∨ r = 1 ∨ r = 2 ∨ r = 3 ∨ r = 4 ∨ r = 5 ∨ r = 6 ∨ r = 7 ∨ r = 8 ∨ r = 9 by omega) with rfl | rfl | rfl | rfl | rfl | rfl | rfl | rfl | rfl | rfl <;> decide
/-- how far the digits are made -/
def digInv (v n : Nat) (l : List UInt8) : Prop := (n = v ∧ l = []) ∨ (10 ≤ v ∧ n = v / 10 ∧ l = [UInt8.ofNat (48 + v % 10)])

set_option maxHeartbeats 1600000 in
theorem rdig_any (v : Nat) (hv : v < 100) (w : World) :
    Calls Tryz.prog 10 #[.int .i64 (v : Int)] w fun e w' => (∃ x : ByteArray, e = .returned (.string x) ∧ x.data.toList = Lex.dig v) ∧ w' = w := by
  go_enter Tryz.func10, Tryz.ntmps10
  go_wp2
  go_loop [0, 3] (fun a b => ∃ (n : Nat) (x : ByteArray), a = .int .i64 (n : Int) ∧ b = .string x ∧ n ≤ 99 ∧ x.size ≤ 18 ∧ Hid (digInv v n x.data.toList)) (fun a _ => (intOf a).toNat)
  case atStart => exact ⟨v, ⟨#[]⟩, rfl, rfl, by omega, by decide, .inl ⟨rfl, rfl⟩⟩
  case round =>
    obtain ⟨n, x, rfl, rfl, hn, hx, H⟩ := hrel
    have m1 : ((n : Int).tmod 10) = ((n % 10 : Nat) : Int) := (Int.ofNat_tmod n 10).symm
    have q1 : ((n : Int).tdiv 10) = ((n / 10 : Nat) : Int) := (Int.ofNat_tdiv n 10).symm
    have q2 : wrap64 ((n / 10 : Nat) : Int) = ((n / 10 : Nat) : Int) := by unfold wrap64; omega
    have hxl : x.data.toList.length = x.size := by simp
    have hadd : ((⟨#[48, 49, 50, 51, 52, 53, 54, 55, 56, 57]⟩ : ByteArray).extract (n % 10) (n % 10 + 1) ++ x).data.toList = UInt8.ofNat (48 + n % 10) :: x.data.toList := by
      rw [ByteArray.data_append, Array.toList_append, digit_one (n % 10) (by omega)]; rfl
    have hx2 : x.size ≤ 1 := by
      rw [← hxl]
      rcases H.out with ⟨_, e⟩ | ⟨_, _, e⟩ <;> rw [e] <;> simp
    have HE : Hid (n / 10 = 0 → UInt8.ofNat (48 + n % 10) :: x.data.toList = Lex.dig v) := by
      intro h0
      unfold Lex.dig
      rcases H.out with ⟨rfl, e⟩ | ⟨h1, rfl, e⟩
      · rw [e, if_pos (by omega), Nat.mod_eq_of_lt (by omega)]
      · rw [e, if_neg (by omega), Nat.mod_eq_of_lt (show v / 10 < 10 by omega)]
    have HN : Hid (n / 10 ≠ 0 → digInv v (n / 10) (UInt8.ofNat (48 + n % 10) :: x.data.toList)) := by
      intro h0
      rcases H.out with ⟨rfl, e⟩ | ⟨h1, rfl, e⟩
      · exact .inr ⟨by omega, rfl, by rw [e]⟩
      · exfalso; omega
    obtain ⟨r, hrr⟩ : ∃ r, r = n % 10 := ⟨_, rfl⟩
    obtain ⟨q, hqq⟩ : ∃ q, q = n / 10 := ⟨_, rfl⟩
    rw [← hrr] at m1 hadd HE HN
    rw [← hqq] at q1 q2 HE HN
    have r9 : r ≤ 9 := by omega
    have HQ : Hid (q = n / 10) := hqq
    clear hqq hrr
    have HA : Hid _ := hadd
    have HQ2 : Hid _ := q2
    clear hadd H
    by_cases hq0 : q = 0
    · have hq1 : ((q : Int) == 0) = true := by rw [beq_iff_eq]; omega
      go_wp2
      go_ret
      exact ⟨⟨_, rfl, by rw [HA.out]; exact HE.out hq0⟩, rfl⟩
    · have hq1 : ((q : Int) == 0) = false := by rw [beq_eq_false_iff_ne]; omega
      go_wp2
      have hsize : ((⟨#[48, 49, 50, 51, 52, 53, 54, 55, 56, 57]⟩ : ByteArray).extract r (r + 1) ++ x).size = x.size + 1 := by
        have h1 : ((⟨#[48, 49, 50, 51, 52, 53, 54, 55, 56, 57]⟩ : ByteArray).extract r (r + 1) ++ x).data.toList.length = ((⟨#[48, 49, 50, 51, 52, 53, 54, 55, 56, 57]⟩ : ByteArray).extract r (r + 1) ++ x).size := Array.length_toList
        rw [HA.out, List.length_cons, hxl] at h1
        exact h1.symm
      have hqn := HQ.out
      refine ⟨⟨q, _, by rw [HQ2.out], rfl, by omega, by rw [hsize]; omega, ?_⟩, ?_⟩
      · show digInv _ _ _
        rw [HA.out]
        exact HN.out hq0
      · rw [HQ2.out]
        simp only [intOf, Int.toNat_natCast]
        omega

set_option maxHeartbeats 1600000 in
theorem rkind_any (k : Nat) (h1 : 1 ≤ k) (h9 : k ≤ 9) (w : World) :
    Calls Tryz.prog 11 #[.int .i64 (k : Int)] w fun e w' => e = .returned (.string ⟨(Lex.kindN k).toArray⟩) ∧ w.grownBy w' none := by
  rcases (show k = 1 ∨ k = 2 ∨ k = 3 ∨ k = 4 ∨ k = 5 ∨ k = 6 ∨ k = 7 ∨ k = 8 ∨ k = 9 by omega) with rfl | rfl | rfl | rfl | rfl | rfl | rfl | rfl | rfl
  all_goals
    go_enter Tryz.func11, Tryz.ntmps11
    go_wp2
    go_ret
    exact ⟨rfl, World.grownBy_alloc w _ none⟩

end Go.Proofs.YtjcdkgjfecnkgabGreatDoor
