/- TypesArrays' walk. (Written by mktlr.py.) -/
import Derived.Test.YtbbamgjdnibldaaGreatMhN
import Derived.Test.YtbbamgjdnibldaaGreatTlGe
import Derived.Test.YtbbamgjdnibldaaGreatTlGf
import Derived.Test.YtbbamgjdnibldaaGreatTlGg
namespace Go.Proofs.YtbbamgjdnibldaaGreat
open Go.RowKit Go.Maps Go.WideMaps

set_option linter.unusedSimpArgs false
theorem okAr_any (n : Nat) (h : n < 20) : Fam.okAr n = true := by
 rcases (show n = 0 ∨ n = 1 ∨ n = 2 ∨ n = 3 ∨ n = 4 ∨ n = 5 ∨ n = 6 ∨ n = 7 ∨ n = 8 ∨ n = 9 ∨ n = 10 ∨ n = 11 ∨ n = 12 ∨ n = 13 ∨ n = 14 ∨ n = 15 ∨ n = 16 ∨ n = 17 ∨ n = 18 ∨ n = 19 by omega) with rfl | rfl | rfl | rfl | rfl | rfl | rfl | rfl | rfl | rfl | rfl | rfl | rfl | rfl | rfl | rfl | rfl | rfl | rfl | rfl
 ·exact Fam.ar0
 ·exact Fam.ar1
 ·exact Fam.ar2
 ·exact Fam.ar3
 ·exact Fam.ar4
 ·exact Fam.ar5
 ·exact Fam.ar6
 ·exact Fam.ar7
 ·exact Fam.ar8
 ·exact Fam.ar9
 ·exact Fam.ar10
 ·exact Fam.ar11
 ·exact Fam.ar12
 ·exact Fam.ar13
 ·exact Fam.ar14
 ·exact Fam.ar15
 ·exact Fam.ar16
 ·exact Fam.ar17
 ·exact Fam.ar18
 ·exact Fam.ar19
theorem okMa_any (n : Nat) (h : n < 20) : Fam.okMa n = true := by
 rcases (show n = 0 ∨ n = 1 ∨ n = 2 ∨ n = 3 ∨ n = 4 ∨ n = 5 ∨ n = 6 ∨ n = 7 ∨ n = 8 ∨ n = 9 ∨ n = 10 ∨ n = 11 ∨ n = 12 ∨ n = 13 ∨ n = 14 ∨ n = 15 ∨ n = 16 ∨ n = 17 ∨ n = 18 ∨ n = 19 by omega) with rfl | rfl | rfl | rfl | rfl | rfl | rfl | rfl | rfl | rfl | rfl | rfl | rfl | rfl | rfl | rfl | rfl | rfl | rfl | rfl
 ·exact Fam.ma0
 ·exact Fam.ma1
 ·exact Fam.ma2
 ·exact Fam.ma3
 ·exact Fam.ma4
 ·exact Fam.ma5
 ·exact Fam.ma6
 ·exact Fam.ma7
 ·exact Fam.ma8
 ·exact Fam.ma9
 ·exact Fam.ma10
 ·exact Fam.ma11
 ·exact Fam.ma12
 ·exact Fam.ma13
 ·exact Fam.ma14
 ·exact Fam.ma15
 ·exact Fam.ma16
 ·exact Fam.ma17
 ·exact Fam.ma18
 ·exact Fam.ma19
theorem okIn_any (n : Nat) (h : n < 20) : Fam.okIn n = true := by
 rcases (show n = 0 ∨ n = 1 ∨ n = 2 ∨ n = 3 ∨ n = 4 ∨ n = 5 ∨ n = 6 ∨ n = 7 ∨ n = 8 ∨ n = 9 ∨ n = 10 ∨ n = 11 ∨ n = 12 ∨ n = 13 ∨ n = 14 ∨ n = 15 ∨ n = 16 ∨ n = 17 ∨ n = 18 ∨ n = 19 by omega) with rfl | rfl | rfl | rfl | rfl | rfl | rfl | rfl | rfl | rfl | rfl | rfl | rfl | rfl | rfl | rfl | rfl | rfl | rfl | rfl
 ·exact Fam.in0
 ·exact Fam.in1
 ·exact Fam.in2
 ·exact Fam.in3
 ·exact Fam.in4
 ·exact Fam.in5
 ·exact Fam.in6
 ·exact Fam.in7
 ·exact Fam.in8
 ·exact Fam.in9
 ·exact Fam.in10
 ·exact Fam.in11
 ·exact Fam.in12
 ·exact Fam.in13
 ·exact Fam.in14
 ·exact Fam.in15
 ·exact Fam.in16
 ·exact Fam.in17
 ·exact Fam.in18
 ·exact Fam.in19
theorem okAr_at (n a : Nat) (h1 : 1 ≤ n) (h2 : n ≤ 20) (h3 : a ≤ 20) : Ty.okT (Fam.arText n a) (Fam.arE n a) = true := by
 obtain ⟨k, rfl⟩ : ∃ k, n = k + 1 := ⟨n - 1, by omega⟩
 exact Fam.rg (okAr_any k (by omega)) a (by omega)
theorem okMa_at (n m : Nat) (h1 : 1 ≤ n) (h2 : n ≤ 20) (h3 : 1 ≤ m) (h4 : m ≤ 20) : Ty.okT (Fam.maText n m) (Fam.maE n m) = true := by
 obtain ⟨k, rfl⟩ : ∃ k, n = k + 1 := ⟨n - 1, by omega⟩
 obtain ⟨j, rfl⟩ : ∃ j, m = j + 1 := ⟨m - 1, by omega⟩
 exact Fam.rg (okMa_any k (by omega)) j (by omega)
theorem okIn_at (n : Nat) (h1 : 1 ≤ n) (h2 : n ≤ 20) : Ty.okT (Fam.inText n) (Fam.inE n) = true := by
 obtain ⟨k, rfl⟩ : ∃ k, n = k + 1 := ⟨n - 1, by omega⟩
 exact okIn_any k (by omega)

set_option maxHeartbeats 3200000 in
set_option maxRecDepth 100000 in
theorem ta_out (n a m : Int) (w : World) (hn : n < 1 ∨ 20 < n ∨ a < 0 ∨ 20 < a ∨ m < 1 ∨ 20 < m) : Calls Tryz.prog 4 #[.int .i64 n, .int .i64 a, .int .i64 m] w fun e w' => e = .returned (.bool true) ∧ w.grownBy w' none := by
 have hal := alive6_any w
 go_enter Tryz.func4, Tryz.ntmps4
 go_wp2_with (go_at_call 7; refine hal.mono ?_; rintro e w1 ⟨rfl, hg1⟩; refine Hid.out ?_)
 clear hal
 have HG := Lib.hid hg1
 clear hg1
 refine Lib.hid ?_
 by_cases c0 : n < 1
 ·have d0 : decide (n < 1) = true := decide_eq_true c0
  clear hn
  go_wp2
  go_ret
  exact ⟨rfl, HG.out⟩
 have d0 : decide (n < 1) = false := decide_eq_false c0
 by_cases c1 : 20 < n
 ·have d1 : decide (20 < n) = true := decide_eq_true c1
  clear hn
  go_wp2
  go_ret
  exact ⟨rfl, HG.out⟩
 have d1 : decide (20 < n) = false := decide_eq_false c1
 by_cases c2 : a < 0
 ·have d2 : decide (a < 0) = true := decide_eq_true c2
  clear hn
  go_wp2
  go_ret
  exact ⟨rfl, HG.out⟩
 have d2 : decide (a < 0) = false := decide_eq_false c2
 by_cases c3 : 20 < a
 ·have d3 : decide (20 < a) = true := decide_eq_true c3
  clear hn
  go_wp2
  go_ret
  exact ⟨rfl, HG.out⟩
 have d3 : decide (20 < a) = false := decide_eq_false c3
 by_cases c4 : m < 1
 ·have d4 : decide (m < 1) = true := decide_eq_true c4
  clear hn
  go_wp2
  go_ret
  exact ⟨rfl, HG.out⟩
 have d4 : decide (m < 1) = false := decide_eq_false c4
 have c5 : 20 < m := by omega
 have d5 : decide (20 < m) = true := decide_eq_true c5
 clear hn
 go_wp2
 go_ret
 exact ⟨rfl, HG.out⟩

set_option maxHeartbeats 12800000 in
set_option maxRecDepth 100000 in
theorem ta_in (n a m : Nat) (w : World) (h1 : 1 ≤ n) (h2 : n ≤ 20) (h3 : a ≤ 20) (h4 : 1 ≤ m) (h5 : m ≤ 20) : Calls Tryz.prog 4 #[.int .i64 (n : Int), .int .i64 (a : Int), .int .i64 (m : Int)] w fun e w' => e = .returned (.bool true) ∧ w.grownBy w' none := by
 have hal := alive6_any w
 obtain ⟨E1, hE1⟩ : ∃ E, E = Fam.arE n a := ⟨_, rfl⟩
 obtain ⟨E2, hE2⟩ : ∃ E, E = Fam.maE n m := ⟨_, rfl⟩
 obtain ⟨E3, hE3⟩ : ∃ E, E = Fam.inE n := ⟨_, rfl⟩
 have k1 := okAr_at n a h1 h2 h3
 have k2 := okMa_at n m h1 h2 h4 h5
 have k3 := okIn_at n h1 h2
 rw [← hE1] at k1
 rw [← hE2] at k2
 rw [← hE3] at k3
 have HO := Lib.hid (And.intro k1 (And.intro k2 k3))
 have HE := Lib.hid (And.intro hE1 (And.intro hE2 hE3))
 clear k1 k2 k3 hE1 hE2 hE3
 obtain ⟨X, hX, HN, hdn⟩ := rdigX n (by omega)
 obtain ⟨Y, hY, HA, hda⟩ := rdigX a (by omega)
 obtain ⟨Z, hZ, HM, hdm⟩ := rdigX m (by omega)
 have d1 : decide ((n : Int) < 1) = false := by rw [decide_eq_false_iff_not]; omega
 have d2 : decide ((20 : Int) < n) = false := by rw [decide_eq_false_iff_not]; omega
 have d3 : decide ((a : Int) < 0) = false := by rw [decide_eq_false_iff_not]; omega
 have d4 : decide ((20 : Int) < a) = false := by rw [decide_eq_false_iff_not]; omega
 have d5 : decide ((m : Int) < 1) = false := by rw [decide_eq_false_iff_not]; omega
 have d6 : decide ((20 : Int) < m) = false := by rw [decide_eq_false_iff_not]; omega
 go_enter Tryz.func4, Tryz.ntmps4
 go_wp2_with (go_at_call 7; refine hal.mono ?_; rintro e w1 ⟨rfl, hg1⟩; refine Hid.out ?_)
 clear hal
 have HG := Lib.hid hg1
 clear hg1
 refine Lib.hid ?_
 go_wp2_with (first | (go_at_call 12; with_reducible refine (hdn _).mono ?_; rintro e wd ⟨rfl, hw⟩; obtain rfl := hw.symm) | (go_at_call 12; with_reducible refine (hda _).mono ?_; rintro e wd ⟨rfl, hw⟩; obtain rfl := hw.symm) | (go_at_call 12; with_reducible refine (hdm _).mono ?_; rintro e wd ⟨rfl, hw⟩; obtain rfl := hw.symm) | (go_at_call 9; refine (named_ok (t := Fam.arText n a) (by simp only [ByteArray.data_append, Array.toList_append, HN.out, HA.out, HM.out]; rfl) HO.out.1 _).mono ?_; rintro e w2 ⟨pa2, pL2, pc2, rfl, hN, hg2⟩; refine Hid.out ?_))
 clear d1 d2 d3 d4 d5 d6
 have hga := World.grownBy_alloc w2 (.cells #[.slice pa2 pL2 pc2] 27 (0, 0)) none
 have q2 := cell_of_row _ _ 0 _ _ _ (heap_alloc_new w2 (.cells #[.slice pa2 pL2 pc2] 27 (0, 0)))
 have HG2 := Lib.hid (And.intro (hN.kept hga) (HG.out.trans (hg2.trans hga)))
 clear hN hg2 hga
 refine Lib.hid ?_
 go_wp2_with (first | (go_at_call 12; with_reducible refine (hdn _).mono ?_; rintro e wd ⟨rfl, hw⟩; obtain rfl := hw.symm) | (go_at_call 12; with_reducible refine (hda _).mono ?_; rintro e wd ⟨rfl, hw⟩; obtain rfl := hw.symm) | (go_at_call 12; with_reducible refine (hdm _).mono ?_; rintro e wd ⟨rfl, hw⟩; obtain rfl := hw.symm) | (go_at_call 9; refine (named_ok (t := Fam.maText n m) (by simp only [ByteArray.data_append, Array.toList_append, HN.out, HA.out, HM.out]; rfl) HO.out.2.1 _).mono ?_; rintro e w3 ⟨pa3, pL3, pc3, rfl, hN, hg3⟩; refine Hid.out ?_))
 have hga := World.grownBy_alloc w3 (.cells #[.slice pa3 pL3 pc3] 27 (0, 0)) none
 have q3 := cell_of_row _ _ 0 _ _ _ (heap_alloc_new w3 (.cells #[.slice pa3 pL3 pc3] 27 (0, 0)))
 have q2' := (hg3.trans hga).cell q2 (by simp)
 have HG3 := Lib.hid (And.intro (HG2.out.1.kept (hg3.trans hga)) (And.intro (hN.kept hga) (HG2.out.2.trans (hg3.trans hga))))
 clear hN hg3 hga q2
 refine Lib.hid ?_
 go_wp2_with (first | (go_at_call 12; with_reducible refine (hdn _).mono ?_; rintro e wd ⟨rfl, hw⟩; obtain rfl := hw.symm) | (go_at_call 12; with_reducible refine (hda _).mono ?_; rintro e wd ⟨rfl, hw⟩; obtain rfl := hw.symm) | (go_at_call 12; with_reducible refine (hdm _).mono ?_; rintro e wd ⟨rfl, hw⟩; obtain rfl := hw.symm) | (go_at_call 9; refine (named_ok (t := Fam.inText n) (by simp only [ByteArray.data_append, Array.toList_append, HN.out, HA.out, HM.out]; rfl) HO.out.2.2 _).mono ?_; rintro e w4 ⟨pa4, pL4, pc4, rfl, hN, hg4⟩; refine Hid.out ?_))
 have hga := World.grownBy_alloc w4 (.cells #[.slice pa4 pL4 pc4] 27 (0, 0)) none
 have q4 := cell_of_row _ _ 0 _ _ _ (heap_alloc_new w4 (.cells #[.slice pa4 pL4 pc4] 27 (0, 0)))
 have q2 := (hg4.trans hga).cell q2' (by simp)
 have q3' := (hg4.trans hga).cell q3 (by simp)
 have HG4 := Lib.hid (And.intro (HG3.out.1.kept (hg4.trans hga)) (And.intro (HG3.out.2.1.kept (hg4.trans hga)) (And.intro (hN.kept hga) (HG3.out.2.2.trans (hg4.trans hga)))))
 clear hN hg4 hga q2' q3 hdn hda hdm hX hY hZ
 refine Lib.hid ?_
 go_wp2_with (go_at_call 10; refine (tc_ok HO.out.1 HG4.out.1).mono ?_; rintro e w5 ⟨⟨at5, rfl⟩, hg5⟩; refine Hid.out ?_)
 have q3 := hg5.cell q3' (by simp)
 have q4' := hg5.cell q4 (by simp)
 have HG5 := Lib.hid (And.intro (HG4.out.2.1.kept hg5) (And.intro (HG4.out.2.2.1.kept hg5) (HG4.out.2.2.2.trans hg5)))
 clear hg5 q2 q3' q4
 refine Lib.hid ?_
 go_wp2_with (go_at_call 10; refine (tc_ok HO.out.2.1 HG5.out.1).mono ?_; rintro e w6 ⟨⟨at6, rfl⟩, hg6⟩; refine Hid.out ?_)
 have q4 := hg6.cell q4' (by simp)
 have HG6 := Lib.hid (And.intro (HG5.out.2.1.kept hg6) (HG5.out.2.2.trans hg6))
 clear hg6 q3 q4'
 refine Lib.hid ?_
 go_wp2_with (go_at_call 10; refine (tc_ok HO.out.2.2 HG6.out.1).mono ?_; rintro e w7 ⟨⟨at7, rfl⟩, hg7⟩; refine Hid.out ?_)
 have HG7 := Lib.hid (HG6.out.2.trans hg7)
 clear hg7 q4
 refine Lib.hid ?_
 obtain ⟨hE1, hE2, hE3⟩ := HE.out
 unfold Fam.arE at hE1
 unfold Fam.maE at hE2
 unfold Fam.inE at hE3
 rcases ltx 16 n with ⟨g1, g2, x1⟩ | ⟨g1, g2, x1⟩ <;> rcases Nat.lt_or_ge a n with x2 | x2 <;> rcases ltx 16 m with ⟨g5, g6, x3⟩ | ⟨g5, g6, x3⟩ <;> rcases eqx n m with ⟨g7, g8, x4⟩ | ⟨g7, g8, x4⟩ <;> try omega
 all_goals
  (first | rw [if_pos (by omega)] at hE1 | rw [if_neg (by omega)] at hE1)
  (first | (rw [if_pos (by omega)] at hE2; first | rw [if_pos (by omega)] at hE2 | rw [if_neg (by omega)] at hE2) | rw [if_neg (by omega)] at hE2)
  (first | rw [if_pos (by omega)] at hE3 | rw [if_neg (by omega)] at hE3)
  subst hE1 hE2 hE3
  clear x1 x3 x4 h1 h2 h3 h4 h5
  go_wp2_with (go_at_call 11; refine (num6_any _ _).mono ?_; rintro e w' ⟨rfl, rfl⟩)
  go_ret
  exact ⟨rfl, HG7.out⟩

theorem typesArrays_run (n a m : Int) (w : World) : Calls Tryz.prog 4 #[.int .i64 n, .int .i64 a, .int .i64 m] w fun e w' => e = .returned (.bool true) ∧ w.grownBy w' none := by
 by_cases h : n < 1 ∨ 20 < n ∨ a < 0 ∨ 20 < a ∨ m < 1 ∨ 20 < m
 ·exact ta_out n a m w h
 ·obtain ⟨o, rfl⟩ : ∃ o : Nat, n = (o : Int) := ⟨n.toNat, by omega⟩
  obtain ⟨x, rfl⟩ : ∃ o : Nat, a = (o : Int) := ⟨a.toNat, by omega⟩
  obtain ⟨y, rfl⟩ : ∃ o : Nat, m = (o : Int) := ⟨m.toNat, by omega⟩
  exact ta_in o x y w (by omega) (by omega) (by omega) (by omega) (by omega)
end Go.Proofs.YtbbamgjdnibldaaGreat
