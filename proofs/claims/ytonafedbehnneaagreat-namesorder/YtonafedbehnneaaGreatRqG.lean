/- NamesOrder's walk. -/
import Derived.Test.YtonafedbehnneaaGreatMhN
import Derived.Test.YtonafedbehnneaaGreatRqF
namespace Go.Proofs.YtonafedbehnneaaGreat
open Go.RowKit Go.Maps Go.WideMaps

theorem law_suf (n fr to : Nat) (h1 : 1 ≤ n) (h9 : n ≤ 9) (hf : fr < n) (ht : to < 10) : Nam.law (Ord.suf fr to 0 n) = some (if to < fr then (0, 0) else (((46 * fr + 39 : Nat) : Int), 21)) := by
 unfold Nam.law
 rw [Ord.parse_suf n fr to h1 h9 hf ht]
 exact Ord.check_suf fr to n h1 h9 hf ht
theorem digit_at (t : Nat) (h : t < 10) : (⟨#[48, 49, 50, 51, 52, 53, 54, 55, 56, 57]⟩ : ByteArray).extract t (t + 1) = ⟨#[Ord.dg t]⟩ := by
 revert t
 exact Ord.dig (by decide +kernel) (by decide +kernel) (by decide +kernel) (by decide +kernel) (by decide +kernel) (by decide +kernel) (by decide +kernel) (by decide +kernel) (by decide +kernel) (by decide +kernel)
theorem digit_run (t : Nat) (h : t < 10) : ∃ D : ByteArray, D.size = 1 ∧ Hid (D.data.toList = [Ord.dg t]) ∧ ∀ wx, (Instr.slice 9 (.string ⟨#[48, 49, 50, 51, 52, 53, 54, 55, 56, 57]⟩) (some (.int .i64 (t : Int))) (some (.int .i64 ((t : Int) + 1))) none).run Tryz.prog wx = .ok (.string D) wx := by
 refine ⟨⟨#[Ord.dg t]⟩, rfl, Lib.hid rfl, fun wx => ?_⟩
 rw [← digit_at t h]
 exact slc_str ⟨#[48, 49, 50, 51, 52, 53, 54, 55, 56, 57]⟩ t (t + 1) (by omega) (by show t + 1 ≤ 10; omega) wx
theorem suf_size (fr to t : Nat) (h : t ≤ fr) : (Ord.suf fr to 0 t).length = 46 * t := by
 induction t with
 | zero => rfl
 | succ t ih =>
  rw [Ord.suf_snoc, List.length_append, ih (by omega), List.length_append, Ord.body_len]
  have hc : Ord.cc fr to (0 + t) = none := by unfold Ord.cc; rw [if_neg (by omega)]
  rw [hc]
  simp [Ord.wd]
  omega

set_option maxHeartbeats 3200000 in
set_option maxRecDepth 100000 in
theorem no_out (n fr to : Int) (w : World) (hn : n < 1 ∨ 9 < n ∨ fr < 0 ∨ n ≤ fr ∨ to < 0 ∨ n < to) : Calls Tryz.prog 5 #[.int .i64 n, .int .i64 fr, .int .i64 to] w fun e w' => e = .returned (.bool true) ∧ w.grownBy w' none := by
 have hal := alive5_any w
 go_enter Tryz.func5, Tryz.ntmps5
 go_wp2_with (go_at_call 8; refine hal.mono ?_; rintro e w1 ⟨rfl, hg1⟩; refine Hid.out ?_)
 clear hal
 have HG := Lib.hid hg1
 clear hg1
 refine Lib.hid ?_
 by_cases c1 : n < 1
 ·have d1 : decide (n < 1) = true := decide_eq_true c1
  clear hn
  go_wp2
  go_ret
  exact ⟨rfl, HG.out⟩
 have d1 : decide (n < 1) = false := decide_eq_false c1
 by_cases c2 : 9 < n
 ·have d2 : decide (9 < n) = true := decide_eq_true c2
  clear hn
  go_wp2
  go_ret
  exact ⟨rfl, HG.out⟩
 have d2 : decide (9 < n) = false := decide_eq_false c2
 by_cases c3 : fr < 0
 ·have d3 : decide (fr < 0) = true := decide_eq_true c3
  clear hn
  go_wp2
  go_ret
  exact ⟨rfl, HG.out⟩
 have d3 : decide (fr < 0) = false := decide_eq_false c3
 by_cases c4 : n ≤ fr
 ·have d4 : decide (n ≤ fr) = true := decide_eq_true c4
  clear hn
  go_wp2
  go_ret
  exact ⟨rfl, HG.out⟩
 have d4 : decide (n ≤ fr) = false := decide_eq_false c4
 by_cases c5 : to < 0
 ·have d5 : decide (to < 0) = true := decide_eq_true c5
  clear hn
  go_wp2
  go_ret
  exact ⟨rfl, HG.out⟩
 have d5 : decide (to < 0) = false := decide_eq_false c5
 have c6 : n < to := by omega
 have d6 : decide (n < to) = true := decide_eq_true c6
 clear hn
 go_wp2
 go_ret
 exact ⟨rfl, HG.out⟩

set_option maxHeartbeats 6400000 in
set_option maxRecDepth 100000 in
theorem no_in (n fr to : Nat) (w : World) (h1 : 1 ≤ n) (h9 : n ≤ 9) (hf : fr < n) (ht : to ≤ n) : Calls Tryz.prog 5 #[.int .i64 (n : Int), .int .i64 (fr : Int), .int .i64 (to : Int)] w fun e w' => e = .returned (.bool true) ∧ w.grownBy w' none := by
 have hal := alive5_any w
 have hlaw := law_suf n fr to h1 h9 hf (by omega)
 have HL := Lib.hid hlaw
 clear hlaw
 have d1 : decide ((n : Int) < 1) = false := by rw [decide_eq_false_iff_not]; omega
 have d2 : decide ((9 : Int) < n) = false := by rw [decide_eq_false_iff_not]; omega
 have d3 : decide ((fr : Int) < 0) = false := by rw [decide_eq_false_iff_not]; omega
 have d4 : decide ((n : Int) ≤ fr) = false := by rw [decide_eq_false_iff_not]; omega
 have d5 : decide ((to : Int) < 0) = false := by rw [decide_eq_false_iff_not]; omega
 have d6 : decide ((n : Int) < to) = false := by rw [decide_eq_false_iff_not]; omega
 go_enter Tryz.func5, Tryz.ntmps5
 go_wp2_with (go_at_call 8; refine hal.mono ?_; rintro e w1 ⟨rfl, hg1⟩; refine Hid.out ?_)
 clear hal
 have HG := Lib.hid hg1
 clear hg1
 refine Lib.hid ?_
 go_wp2
 clear d1 d2 d3 d4 d5 d6
 go_loop [8, 9, 10] (fun sv av iv => ∃ (t : Nat) (S : ByteArray) (z : Int), t ≤ n ∧ iv = .int .i64 (t : Int) ∧ sv = .string S ∧ av = .int .i64 z ∧ Hid (S.data.toList = Ord.suf fr to 0 t ∧ (fr < t → z = ((46 * fr + 39 : Nat) : Int)))) (fun _ _ i => n - (intOf i).toNat)
 case atStart => exact ⟨0, ⟨#[]⟩, 0, Nat.zero_le _, rfl, rfl, rfl, Lib.hid ⟨rfl, fun h => absurd h (by omega)⟩⟩
 case round =>
  obtain ⟨t, S, z, htn, rfl, rfl, rfl, HA⟩ := hrel
  have e1 : S.data.toList.length = S.size := by simp
  have hS : S.size ≤ 500 := by
   have e2 := (Ord.suf_len fr to t 0).1
   rw [HA.out.1] at e1
   omega
  by_cases hlt : t < n
  ·obtain ⟨D, hD, HD, hsl⟩ := digit_run t (by omega)
   by_cases hft : t = fr
   ·subst hft
    obtain ⟨D2, hD2, HD2, hsl2⟩ := digit_run to (by omega)
    have hb : ((t : Int) == (t : Int)) = true := by simp
    have hsz : S.size = 46 * t := by rw [← e1, HA.out.1, suf_size t to t (Nat.le_refl _)]
    have HT : Hid ((S ++ (⟨#[110, 111, 100, 101, 32, 110]⟩ ++ D ++ ⟨#[40, 120, 58, 32, 105, 56, 41, 32, 114, 101, 116, 117, 114, 110, 115, 32, 40, 121, 58, 32, 105, 56, 41, 32, 108, 101, 116, 32, 121, 32, 61, 32]⟩) ++ ⟨#[110]⟩ ++ D2 ++ ⟨#[40, 120, 41, 59, 32, 116, 101, 108, 10]⟩ : ByteArray).data.toList = Ord.suf t to 0 (t + 1)) := Lib.hid (by
     rw [Ord.suf_snoc, Nat.zero_add]
     simp only [ByteArray.data_append, Array.toList_append, HA.out.1, HD.out, HD2.out]
     unfold Ord.body Ord.cc
     rw [if_pos rfl]
     simp [Ord.val, Ord.bh])
    clear e1
    go_wp2
    exact ⟨⟨t + 1, _, _, by omega, by go_num, rfl, rfl, Lib.hid ⟨HT.out, fun _ => by omega⟩⟩, by simp [intOf]; omega⟩
   ·have hb : ((t : Int) == (fr : Int)) = false := by rw [beq_eq_false_iff_ne]; omega
    have HT : Hid ((S ++ (⟨#[110, 111, 100, 101, 32, 110]⟩ ++ D ++ ⟨#[40, 120, 58, 32, 105, 56, 41, 32, 114, 101, 116, 117, 114, 110, 115, 32, 40, 121, 58, 32, 105, 56, 41, 32, 108, 101, 116, 32, 121, 32, 61, 32]⟩) ++ ⟨#[120, 59, 32, 116, 101, 108, 10]⟩ : ByteArray).data.toList = Ord.suf fr to 0 (t + 1)) := Lib.hid (by
     rw [Ord.suf_snoc, Nat.zero_add]
     simp only [ByteArray.data_append, Array.toList_append, HA.out.1, HD.out]
     unfold Ord.body Ord.cc
     rw [if_neg hft]
     simp [Ord.val, Ord.bh])
    clear e1
    go_wp2
    exact ⟨⟨t + 1, _, _, by omega, by go_num, rfl, rfl, Lib.hid ⟨HT.out, fun h => HA.out.2 (by omega)⟩⟩, by simp [intOf]; omega⟩
  ·have e : t = n := by omega
   subst e
   have hz := HA.out.2 hf
   have hlw := HL.out
   rw [← HA.out.1] at hlw
   clear e1 HA HL
   by_cases hj : to < fr
   ·rw [if_pos hj] at hlw
    have HX := Lib.hid hlw
    have dj : decide ((to : Int) < fr) = true := by rw [decide_eq_true_iff]; omega
    clear hlw hz
    go_wp2_with (go_at_call 9; refine (prog5_law (x := (0, 0)) (by omega) HX.out _).mono ?_; rintro e w2 ⟨l, a, L, c, rfl, hx, hk, hg2⟩; refine Hid.out ?_)
    have hga := World.grownBy_alloc w2 (.cells #[.slice a L c] 25 (0, 0)) none
    have q1 := cell_of_row _ _ 0 _ _ _ (heap_alloc_new w2 (.cells #[.slice a L c] 25 (0, 0)))
    have HG2 := Lib.hid (And.intro (RepC.kept hga (fun k e => by cases e) hk) (HG.out.trans (hg2.trans hga)))
    clear hg2 hga hk
    refine Lib.hid ?_
    go_wp2_with (go_at_call 18; refine (ncheck_any _ l a L c HG2.out.1 _ _ hx).mono ?_; rintro e w3 ⟨rfl, hg3⟩; refine Hid.out ?_)
    have HG3 := Lib.hid (HG2.out.2.trans hg3)
    clear hg3 q1 HG2
    refine Lib.hid ?_
    go_wp2_with (go_at_call 19; refine (num5_any _ _).mono ?_; rintro e w' ⟨rfl, rfl⟩)
    go_ret
    exact ⟨rfl, HG3.out⟩
   ·rw [if_neg hj, ← hz] at hlw
    have HX := Lib.hid hlw
    have dj : decide ((to : Int) < fr) = false := by rw [decide_eq_false_iff_not]; omega
    have dz : (z == z) = true := by simp
    clear hlw hz
    go_wp2_with (go_at_call 9; refine (prog5_law (x := (z, 21)) (by omega) HX.out _).mono ?_; rintro e w2 ⟨l, a, L, c, rfl, hx, hk, hg2⟩; refine Hid.out ?_)
    have hga := World.grownBy_alloc w2 (.cells #[.slice a L c] 25 (0, 0)) none
    have q1 := cell_of_row _ _ 0 _ _ _ (heap_alloc_new w2 (.cells #[.slice a L c] 25 (0, 0)))
    have HG2 := Lib.hid (And.intro (RepC.kept hga (fun k e => by cases e) hk) (HG.out.trans (hg2.trans hga)))
    clear hg2 hga hk
    refine Lib.hid ?_
    go_wp2_with (go_at_call 18; refine (ncheck_any _ l a L c HG2.out.1 _ _ hx).mono ?_; rintro e w3 ⟨rfl, hg3⟩; refine Hid.out ?_)
    have HG3 := Lib.hid (HG2.out.2.trans hg3)
    clear hg3 q1 HG2
    refine Lib.hid ?_
    go_wp2_with (go_at_call 19; refine (num5_any _ _).mono ?_; rintro e w' ⟨rfl, rfl⟩)
    go_ret
    exact ⟨rfl, HG3.out⟩

theorem no_walk (n fr to : Int) (w : World) : Calls Tryz.prog 5 #[.int .i64 n, .int .i64 fr, .int .i64 to] w fun e w' => e = .returned (.bool true) ∧ w.grownBy w' none := by
 by_cases hn : n < 1 ∨ 9 < n ∨ fr < 0 ∨ n ≤ fr ∨ to < 0 ∨ n < to
 ·exact no_out n fr to w hn
 ·have h := no_in n.toNat fr.toNat to.toNat w (by omega) (by omega) (by omega) (by omega)
  rwa [Int.toNat_of_nonneg (by omega), Int.toNat_of_nonneg (by omega), Int.toNat_of_nonneg (by omega)] at h
end Go.Proofs.YtonafedbehnneaaGreat
