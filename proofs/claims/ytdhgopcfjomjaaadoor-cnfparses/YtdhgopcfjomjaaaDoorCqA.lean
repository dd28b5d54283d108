/- metronomeref22.number. -/
import Derived.Test.YtdhgopcfjomjaaaDoorCpD
import Derived.Lib.ItoaNum
namespace Go.Proofs.YtdhgopcfjomjaaaDoor
open Go.RowKit Go.Maps Go.WideMaps
open Go.Lib hiding intOf
open Cn (I64)

theorem bs_app (a b : List UInt8) : (⟨a.toArray⟩ : ByteArray) ++ ⟨b.toArray⟩ = ⟨(a ++ b).toArray⟩ := by apply ByteArray.ext; simp
theorem dg_fin : ∀ i : Fin 10, (⟨#[48, 49, 50, 51, 52, 53, 54, 55, 56, 57]⟩ : ByteArray).extract i.val (i.val + 1) = ⟨#[UInt8.ofNat (48 + i.val)]⟩ := by decide +kernel
theorem dg_one {r : Nat} (h : r < 10) : (⟨#[48, 49, 50, 51, 52, 53, 54, 55, 56, 57]⟩ : ByteArray).extract r (r + 1) = ⟨#[UInt8.ofNat (48 + r)]⟩ := dg_fin ⟨r, h⟩
theorem run_dig {r : Nat} (h : r < 10) (w : World) : (Instr.slice 9 (.string ⟨#[48, 49, 50, 51, 52, 53, 54, 55, 56, 57]⟩) (some (.int .i64 (r : Int))) (some (.int .i64 ((r : Int) + 1))) none).run Tryd.prog w = .ok (.string ⟨#[UInt8.ofNat (48 + r)]⟩) w := by
  obtain rfl | rfl | rfl | rfl | rfl | rfl | rfl | rfl | rfl | rfl : r = 0 ∨ r = 1 ∨ r = 2 ∨ r = 3 ∨ r = 4 ∨ r = 5 ∨ r = 6 ∨ r = 7 ∨ r = 8 ∨ r = 9 := by omega
  all_goals kernel_rfl
set_option maxRecDepth 100000 in
set_option maxHeartbeats 1000000 in
theorem rdigits_any : ∀ (k n : Nat), n ≤ k → n ≤ 9223372036854775807 → ∀ w, Calls Tryd.prog 36 #[.int .i64 (n : Int)] w fun e w' => e = .returned (.string ⟨(decDigits n).toArray⟩) ∧ w' = w := by
  intro k
  induction k with
  | zero =>
    intro n hn _ w
    obtain rfl : n = 0 := by omega
    go_enter Tryd.func36, Tryd.ntmps36
    go_wp2
    go_ret
    refine ⟨?_, rfl⟩
    rw [decDigits_one (by decide)]
    exact congrArg (fun z => Ending.returned (Value.string z)) (dg_one (r := 0) (by decide))
  | succ k ih =>
    intro n hn h64 w
    have e1 : decide ((n : Int) < 0) = false := xF (by omega)
    have m1 : Int.tmod (n : Int) 10 = ((n % 10 : Nat) : Int) := (Int.ofNat_tmod n 10).symm
    have m2 : Int.tdiv (n : Int) 10 = ((n / 10 : Nat) : Int) := (Int.ofNat_tdiv n 10).symm
    obtain ⟨r, hr⟩ : ∃ r, r = n % 10 := ⟨_, rfl⟩
    obtain ⟨q, hq⟩ : ∃ q, q = n / 10 := ⟨_, rfl⟩
    have hr10 : r < 10 := by omega
    have hih := ih q (by omega) (by omega)
    obtain ⟨d, hd⟩ : ∃ d, d = UInt8.ofNat (48 + r) := ⟨_, rfl⟩
    have hrn := run_dig hr10 w
    rw [← hd] at hrn
    rw [← hr] at m1
    rw [← hq] at m2
    by_cases h : n < 10
    · have e2 : decide ((9 : Int) < (n : Int)) = false := xF (by omega)
      have w1 : wrap64 (r : Int) = (r : Int) := by unfold wrap64; omega
      have HD : Hid (decDigits n = [d]) := Lib.hid (by rw [decDigits_one h, hd, hr, Nat.mod_eq_of_lt h])
      clear h hr hq hd
      go_enter Tryd.func36, Tryd.ntmps36
      go_wp2
      go_ret
      refine ⟨?_, rfl⟩
      rw [HD.out]
      rfl
    · have e2 : decide ((9 : Int) < (n : Int)) = true := xT (by omega)
      have w1 : wrap64 (r : Int) = (r : Int) := by unfold wrap64; omega
      have w2 : wrap64 (q : Int) = (q : Int) := by unfold wrap64; omega
      have HIH := Lib.hid hih
      have hlen : (decDigits q).length ≤ 20 := by rw [decDigits_length]; exact nDigits_le20 q (by omega)
      have HD : Hid (decDigits n = decDigits q ++ [d]) := Lib.hid (by rw [decDigits, dif_neg h, hd, hr, hq])
      clear h hr hq hd hih ih
      go_enter Tryd.func36, Tryd.ntmps36
      go_wp2_with (go_at_call 36; refine (HIH.out _).mono ?_; rintro e w8 ⟨rfl, hw8⟩; obtain rfl := hw8.symm)
      go_ret
      refine ⟨?_, rfl⟩
      rw [HD.out, ← bs_app]
      rfl
/-- a number in the reference's digits -/
theorem rnumber_any (x : Int) (hx : -9000000000000000000 ≤ x ∧ x ≤ 9000000000000000000) (w : World) : Calls Tryd.prog 36 #[.int .i64 x] w fun e w' => e = .returned (.string ⟨(itoa x).toArray⟩) ∧ w' = w := by
  unfold itoa
  by_cases h : x < 0
  · rw [if_pos h]
    obtain ⟨n, hn⟩ : ∃ n : Nat, n = x.natAbs := ⟨_, rfl⟩
    have e1 : decide (x < 0) = true := xT h
    have w1 : wrap64 (-x) = (n : Int) := by unfold wrap64; omega
    have HD := Lib.hid (rdigits_any n n (Nat.le_refl _) (by omega) w)
    have hlen : (decDigits n).length ≤ 20 := by rw [decDigits_length]; exact nDigits_le20 n (by omega)
    rw [← hn]
    clear h hn hx
    go_enter Tryd.func36, Tryd.ntmps36
    go_wp2_with (go_at_call 36; refine HD.out.mono ?_; rintro e w8 ⟨rfl, hw8⟩; obtain rfl := hw8.symm)
    go_ret
    refine ⟨?_, rfl⟩
    exact congrArg (fun z => Ending.returned (Value.string z)) (bs_app [45] (decDigits n))
  · rw [if_neg h]
    obtain ⟨n, rfl⟩ : ∃ n : Nat, x = (n : Int) := ⟨x.toNat, by omega⟩
    rw [Int.toNat_natCast]
    exact rdigits_any n n (Nat.le_refl _) (by omega) w
end Go.Proofs.YtdhgopcfjomjaaaDoor
