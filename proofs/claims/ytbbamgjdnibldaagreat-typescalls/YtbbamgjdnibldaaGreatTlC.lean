/- TypesCalls' walk. (Written by mktlr.py.) -/
import Derived.Test.YtbbamgjdnibldaaGreatMhN
import Derived.Test.YtbbamgjdnibldaaGreatTlGh
import Derived.Test.YtbbamgjdnibldaaGreatTlGi
import Derived.Test.YtbbamgjdnibldaaGreatTlGj
import Derived.Test.YtbbamgjdnibldaaGreatTlGk
namespace Go.Proofs.YtbbamgjdnibldaaGreat
open Go.RowKit Go.Maps Go.WideMaps

theorem okCa_any (n m : Nat) (h1 : n < 9) (h2 : m < 9) : Fam.okCa n m = true := by
 rcases (show n = 0 ∨ n = 1 ∨ n = 2 ∨ n = 3 ∨ n = 4 ∨ n = 5 ∨ n = 6 ∨ n = 7 ∨ n = 8 by omega) with rfl | rfl | rfl | rfl | rfl | rfl | rfl | rfl | rfl
 ·rcases (show m = 0 ∨ m = 1 ∨ m = 2 ∨ m = 3 ∨ m = 4 ∨ m = 5 ∨ m = 6 ∨ m = 7 ∨ m = 8 by omega) with rfl | rfl | rfl | rfl | rfl | rfl | rfl | rfl | rfl
  ·exact Fam.ca00
  ·exact Fam.ca01
  ·exact Fam.ca02
  ·exact Fam.ca03
  ·exact Fam.ca04
  ·exact Fam.ca05
  ·exact Fam.ca06
  ·exact Fam.ca07
  ·exact Fam.ca08
 ·rcases (show m = 0 ∨ m = 1 ∨ m = 2 ∨ m = 3 ∨ m = 4 ∨ m = 5 ∨ m = 6 ∨ m = 7 ∨ m = 8 by omega) with rfl | rfl | rfl | rfl | rfl | rfl | rfl | rfl | rfl
  ·exact Fam.ca10
  ·exact Fam.ca11
  ·exact Fam.ca12
  ·exact Fam.ca13
  ·exact Fam.ca14
  ·exact Fam.ca15
  ·exact Fam.ca16
  ·exact Fam.ca17
  ·exact Fam.ca18
 ·rcases (show m = 0 ∨ m = 1 ∨ m = 2 ∨ m = 3 ∨ m = 4 ∨ m = 5 ∨ m = 6 ∨ m = 7 ∨ m = 8 by omega) with rfl | rfl | rfl | rfl | rfl | rfl | rfl | rfl | rfl
  ·exact Fam.ca20
  ·exact Fam.ca21
  ·exact Fam.ca22
  ·exact Fam.ca23
  ·exact Fam.ca24
  ·exact Fam.ca25
  ·exact Fam.ca26
  ·exact Fam.ca27
  ·exact Fam.ca28
 ·rcases (show m = 0 ∨ m = 1 ∨ m = 2 ∨ m = 3 ∨ m = 4 ∨ m = 5 ∨ m = 6 ∨ m = 7 ∨ m = 8 by omega) with rfl | rfl | rfl | rfl | rfl | rfl | rfl | rfl | rfl
  ·exact Fam.ca30
  ·exact Fam.ca31
  ·exact Fam.ca32
  ·exact Fam.ca33
  ·exact Fam.ca34
  ·exact Fam.ca35
  ·exact Fam.ca36
  ·exact Fam.ca37
  ·exact Fam.ca38
 ·rcases (show m = 0 ∨ m = 1 ∨ m = 2 ∨ m = 3 ∨ m = 4 ∨ m = 5 ∨ m = 6 ∨ m = 7 ∨ m = 8 by omega) with rfl | rfl | rfl | rfl | rfl | rfl | rfl | rfl | rfl
  ·exact Fam.ca40
  ·exact Fam.ca41
  ·exact Fam.ca42
  ·exact Fam.ca43
  ·exact Fam.ca44
  ·exact Fam.ca45
  ·exact Fam.ca46
  ·exact Fam.ca47
  ·exact Fam.ca48
 ·rcases (show m = 0 ∨ m = 1 ∨ m = 2 ∨ m = 3 ∨ m = 4 ∨ m = 5 ∨ m = 6 ∨ m = 7 ∨ m = 8 by omega) with rfl | rfl | rfl | rfl | rfl | rfl | rfl | rfl | rfl
  ·exact Fam.ca50
  ·exact Fam.ca51
  ·exact Fam.ca52
  ·exact Fam.ca53
  ·exact Fam.ca54
  ·exact Fam.ca55
  ·exact Fam.ca56
  ·exact Fam.ca57
  ·exact Fam.ca58
 ·rcases (show m = 0 ∨ m = 1 ∨ m = 2 ∨ m = 3 ∨ m = 4 ∨ m = 5 ∨ m = 6 ∨ m = 7 ∨ m = 8 by omega) with rfl | rfl | rfl | rfl | rfl | rfl | rfl | rfl | rfl
  ·exact Fam.ca60
  ·exact Fam.ca61
  ·exact Fam.ca62
  ·exact Fam.ca63
  ·exact Fam.ca64
  ·exact Fam.ca65
  ·exact Fam.ca66
  ·exact Fam.ca67
  ·exact Fam.ca68
 ·rcases (show m = 0 ∨ m = 1 ∨ m = 2 ∨ m = 3 ∨ m = 4 ∨ m = 5 ∨ m = 6 ∨ m = 7 ∨ m = 8 by omega) with rfl | rfl | rfl | rfl | rfl | rfl | rfl | rfl | rfl
  ·exact Fam.ca70
  ·exact Fam.ca71
  ·exact Fam.ca72
  ·exact Fam.ca73
  ·exact Fam.ca74
  ·exact Fam.ca75
  ·exact Fam.ca76
  ·exact Fam.ca77
  ·exact Fam.ca78
 ·rcases (show m = 0 ∨ m = 1 ∨ m = 2 ∨ m = 3 ∨ m = 4 ∨ m = 5 ∨ m = 6 ∨ m = 7 ∨ m = 8 by omega) with rfl | rfl | rfl | rfl | rfl | rfl | rfl | rfl | rfl
  ·exact Fam.ca80
  ·exact Fam.ca81
  ·exact Fam.ca82
  ·exact Fam.ca83
  ·exact Fam.ca84
  ·exact Fam.ca85
  ·exact Fam.ca86
  ·exact Fam.ca87
  ·exact Fam.ca88
theorem okCa_at (n m x : Nat) (h1 : 1 ≤ n) (h2 : n ≤ 9) (h3 : 1 ≤ m) (h4 : m ≤ 9) : Ty.okT (Fam.caText n m x) (Fam.caE n m x) = true := by
 obtain ⟨k, rfl⟩ : ∃ k, n = k + 1 := ⟨n - 1, by omega⟩
 obtain ⟨j, rfl⟩ : ∃ j, m = j + 1 := ⟨m - 1, by omega⟩
 have h := okCa_any k j (by omega) (by omega)
 by_cases hx : x < j + 1
 ·exact Fam.rg h x (by omega)
 ·have h6 := Fam.rg h (j + 1) (by omega)
  have e1 : Fam.caText (k + 1) (j + 1) x = Fam.caText (k + 1) (j + 1) (j + 1) := by
   unfold Fam.caText
   rw [Fam.vars_far x (j + 1) (j + 1) (by omega) (by omega)]
  have e2 : Fam.caE (k + 1) (j + 1) x = Fam.caE (k + 1) (j + 1) (j + 1) := by
   simp only [Fam.caE]
   rw [if_neg (show ¬ x < j + 1 by omega), if_neg (show ¬ j + 1 < j + 1 by omega)]
  rw [e1, e2]
  exact h6
theorem digitX (t : Nat) (h : t < 10) : ∃ D : ByteArray, D.size = 1 ∧ Hid (D.data.toList = [Fam.dg t]) ∧ ∀ wx, (Instr.slice 9 (.string ⟨#[48, 49, 50, 51, 52, 53, 54, 55, 56, 57]⟩) (some (.int .i64 (t : Int))) (some (.int .i64 ((t : Int) + 1))) none).run Tryz.prog wx = .ok (.string D) wx := by
 refine ⟨_, ?_, ?_, fun wx => slc_str ⟨#[48, 49, 50, 51, 52, 53, 54, 55, 56, 57]⟩ t (t + 1) (by omega) (by show t + 1 ≤ 10; omega) wx⟩
 ·have := digit_one t h
  have h2 := congrArg List.length this
  rw [Array.length_toList] at h2
  exact h2
 ·exact Lib.hid (digit_one t h)
theorem outs_len : ∀ t, (Fam.outs t).length ≤ 8 * t
 | 0 => by simp [Fam.outs]
 | t + 1 => by
  have := outs_len t
  simp only [Fam.outs, List.length_append]
  split <;> simp <;> omega
theorem body_len6 : ∀ t, (Fam.body t).length ≤ 10 * t
 | 0 => by simp [Fam.body]
 | t + 1 => by
  have := body_len6 t
  simp only [Fam.body, List.length_append]
  simp
  omega
theorem vars_len (b : Nat) : ∀ t, (Fam.vars b t).length ≤ 8 * t
 | 0 => by simp [Fam.vars]
 | t + 1 => by
  have := vars_len b t
  simp only [Fam.vars, List.length_append]
  split <;> simp <;> omega
theorem lhs_len6 : ∀ t, (Fam.lhs t).length ≤ 4 * t
 | 0 => by simp [Fam.lhs]
 | t + 1 => by
  have := lhs_len6 t
  simp only [Fam.lhs, List.length_append]
  split <;> simp <;> omega
theorem sz_of {S : ByteArray} {l : List UInt8} (h : S.data.toList = l) : S.size = l.length := by rw [← h, Array.length_toList]; rfl

set_option maxHeartbeats 3200000 in
set_option maxRecDepth 100000 in
theorem tk_out (n m x : Int) (w : World) (hn : n < 1 ∨ 9 < n ∨ m < 1 ∨ 9 < m ∨ x < 0 ∨ 20 < x) : Calls Tryz.prog 6 #[.int .i64 n, .int .i64 m, .int .i64 x] w fun e w' => e = .returned (.bool true) ∧ w.grownBy w' none := by
 have hal := alive6_any w
 go_enter Tryz.func6, Tryz.ntmps6
 go_wp2_with (go_at_call 7; refine hal.mono ?_; rintro e w1 ⟨rfl, hg1⟩; refine Hid.out ?_)
 clear hal
 have HG := Lib.hid hg1
 clear hg1
 refine Lib.hid ?_
 by_cases c0 : n < 1
 ·have d0 : decide (n < 1) = true := decide_eq_true c0
  clear hn
  go_wp2
  go_ret
  exact ⟨rfl, HG.out⟩
 have d0 : decide (n < 1) = false := decide_eq_false c0
 by_cases c1 : 9 < n
 ·have d1 : decide (9 < n) = true := decide_eq_true c1
  clear hn
  go_wp2
  go_ret
  exact ⟨rfl, HG.out⟩
 have d1 : decide (9 < n) = false := decide_eq_false c1
 by_cases c2 : m < 1
 ·have d2 : decide (m < 1) = true := decide_eq_true c2
  clear hn
  go_wp2
  go_ret
  exact ⟨rfl, HG.out⟩
 have d2 : decide (m < 1) = false := decide_eq_false c2
 by_cases c3 : 9 < m
 ·have d3 : decide (9 < m) = true := decide_eq_true c3
  clear hn
  go_wp2
  go_ret
  exact ⟨rfl, HG.out⟩
 have d3 : decide (9 < m) = false := decide_eq_false c3
 by_cases c4 : x < 0
 ·have d4 : decide (x < 0) = true := decide_eq_true c4
  clear hn
  go_wp2
  go_ret
  exact ⟨rfl, HG.out⟩
 have d4 : decide (x < 0) = false := decide_eq_false c4
 have c5 : 20 < x := by omega
 have d5 : decide (20 < x) = true := decide_eq_true c5
 clear hn
 go_wp2
 go_ret
 exact ⟨rfl, HG.out⟩

set_option maxHeartbeats 12800000 in
set_option maxRecDepth 100000 in
theorem tk_in (n m x : Nat) (w : World) (h1 : 1 ≤ n) (h2 : n ≤ 9) (h3 : 1 ≤ m) (h4 : m ≤ 9) (h5 : x ≤ 20) : Calls Tryz.prog 6 #[.int .i64 (n : Int), .int .i64 (m : Int), .int .i64 (x : Int)] w fun e w' => e = .returned (.bool true) ∧ w.grownBy w' none := by
 have hal := alive6_any w
 obtain ⟨E, hE⟩ : ∃ E, E = Fam.caE n m x := ⟨_, rfl⟩
 have k1 := okCa_at n m x h1 h2 h3 h4
 rw [← hE] at k1
 have HO := Lib.hid (And.intro k1 hE)
 clear k1 hE
 have d1 : decide ((n : Int) < 1) = false := by rw [decide_eq_false_iff_not]; omega
 have d2 : decide ((9 : Int) < n) = false := by rw [decide_eq_false_iff_not]; omega
 have d3 : decide ((m : Int) < 1) = false := by rw [decide_eq_false_iff_not]; omega
 have d4 : decide ((9 : Int) < m) = false := by rw [decide_eq_false_iff_not]; omega
 have d5 : decide ((x : Int) < 0) = false := by rw [decide_eq_false_iff_not]; omega
 have d6 : decide ((20 : Int) < x) = false := by rw [decide_eq_false_iff_not]; omega
 go_enter Tryz.func6, Tryz.ntmps6
 go_wp2_with (go_at_call 7; refine hal.mono ?_; rintro e w1 ⟨rfl, hg1⟩; refine Hid.out ?_)
 clear hal
 have HG := Lib.hid hg1
 clear hg1
 refine Lib.hid ?_
 go_wp2
 clear d1 d2 d3 d4 d5 d6
 go_loop [9, 10, 11] (fun ov bv iv => ∃ (t : Nat) (O B : ByteArray), t ≤ n ∧ iv = .int .i64 (t : Int) ∧ ov = .string O ∧ bv = .string B ∧ Hid (O.data.toList = Fam.outs t ∧ B.data.toList = Fam.body t)) (fun _ _ i => n - (intOf i).toNat)
 case atStart => exact ⟨0, ⟨#[]⟩, ⟨#[]⟩, Nat.zero_le _, rfl, rfl, rfl, Lib.hid ⟨rfl, rfl⟩⟩
 case round =>
  obtain ⟨t, O, B, htn, rfl, rfl, rfl, HA⟩ := hrel
  have hO : O.size ≤ 100 := by have := sz_of HA.out.1; have := outs_len t; omega
  have hB : B.size ≤ 100 := by have := sz_of HA.out.2; have := body_len6 t; omega
  by_cases hlt : t < n
  ·obtain ⟨D, hD, HD, hsl⟩ := digitX t (by omega)
   by_cases h0 : t = 0
   all_goals
    have H0 := Lib.hid h0
    (first | have g0 : ¬ 0 < t := by omega | have g0 : 0 < t := by omega)
    clear h0
    go_wp2
    exact ⟨⟨t + 1, _, _, by omega, by go_num, rfl, rfl, Lib.hid ⟨by (simp only [ByteArray.data_append, Array.toList_append, HA.out.1, HD.out, Fam.outs]; have := H0.out; split <;> first | (exfalso; omega) | simp), by (simp only [ByteArray.data_append, Array.toList_append, HA.out.2, HD.out, Fam.body]; simp)⟩⟩, by simp [intOf]; omega⟩
  ·have e : t = n := by omega
   subst e
   obtain ⟨HO1, HB1⟩ : Hid (O.data.toList = Fam.outs t) ∧ Hid (B.data.toList = Fam.body t) := ⟨Lib.hid HA.out.1, Lib.hid HA.out.2⟩
   clear HA hlt htn
   obtain ⟨n, rfl⟩ : ∃ n, n = t := ⟨_, rfl⟩
   go_wp2
   go_loop [12, 13, 14] (fun vv hv iv => ∃ (t : Nat) (V H : ByteArray), t ≤ m ∧ iv = .int .i64 (t : Int) ∧ vv = .string V ∧ hv = .string H ∧ Hid (V.data.toList = Fam.vars x t ∧ H.data.toList = Fam.lhs t)) (fun _ _ i => m - (intOf i).toNat)
   case atStart => exact ⟨0, ⟨#[]⟩, ⟨#[]⟩, Nat.zero_le _, rfl, rfl, rfl, Lib.hid ⟨rfl, rfl⟩⟩
   case round =>
    obtain ⟨t, V, H, htm, rfl, rfl, rfl, HA⟩ := hrel
    have hV : V.size ≤ 100 := by have := sz_of HA.out.1; have := vars_len x t; omega
    have hH : H.size ≤ 100 := by have := sz_of HA.out.2; have := lhs_len6 t; omega
    by_cases hlt : t < m
    ·obtain ⟨D, hD, HD, hsl⟩ := digitX t (by omega)
     rcases eqx t x with ⟨g1, g9, hb⟩ | ⟨g1, g9, hb⟩ <;> by_cases h0 : t = 0
     all_goals
      have H0 := Lib.hid (And.intro h0 hb)
      (first | have g0 : ¬ 0 < t := by omega | have g0 : 0 < t := by omega)
      clear h0 hb g9
      go_wp2
      exact ⟨⟨t + 1, _, _, by omega, by go_num, rfl, rfl, Lib.hid ⟨by (simp only [ByteArray.data_append, Array.toList_append, HA.out.1, HD.out, Fam.vars]; have := H0.out; split <;> split <;> first | (exfalso; omega) | simp), by (simp only [ByteArray.data_append, Array.toList_append, HA.out.2, HD.out, Fam.lhs]; have := H0.out; split <;> first | (exfalso; omega) | simp)⟩⟩, by simp [intOf]; omega⟩
    ·have e : t = m := by omega
     subst e
     obtain ⟨HV1, HH1⟩ : Hid (V.data.toList = Fam.vars x t) ∧ Hid (H.data.toList = Fam.lhs t) := ⟨Lib.hid HA.out.1, Lib.hid HA.out.2⟩
     clear HA hlt htm
     go_wp2_with (go_at_call 9; refine (named_ok (t := Fam.caText n t x) (by simp only [ByteArray.data_append, Array.toList_append, HO1.out, HB1.out, HV1.out, HH1.out]; rfl) HO.out.1 _).mono ?_; rintro e w2 ⟨pa2, pL2, pc2, rfl, hN, hg2⟩; refine Hid.out ?_)
     have hga := World.grownBy_alloc w2 (.cells #[.slice pa2 pL2 pc2] 27 (0, 0)) none
     have q2 := cell_of_row _ _ 0 _ _ _ (heap_alloc_new w2 (.cells #[.slice pa2 pL2 pc2] 27 (0, 0)))
     have HG2 := Lib.hid (And.intro (hN.kept hga) (HG.out.trans (hg2.trans hga)))
     clear hN hg2 hga
     refine Lib.hid ?_
     go_wp2_with (go_at_call 10; refine (tc_ok HO.out.1 HG2.out.1).mono ?_; rintro e w3 ⟨⟨at3, rfl⟩, hg3⟩; refine Hid.out ?_)
     have HG3 := Lib.hid (HG2.out.2.trans hg3)
     clear hg3 q2 HG2 hO hB hV hH
     refine Lib.hid ?_
     have hE := HO.out.2
     unfold Fam.caE at hE
     rcases eqx n t with ⟨g1, g2, x1⟩ | ⟨g1, g2, x1⟩ <;> rcases Nat.lt_or_ge x t with x2 | x2
     all_goals
      (first | (rw [if_pos (by omega)] at hE; first | rw [if_pos (by omega)] at hE | rw [if_neg (by omega)] at hE) | rw [if_neg (by omega)] at hE)
      subst hE
      clear x1 h1 h2 h3 h4 h5
      go_wp2_with (go_at_call 11; refine (num6_any _ _).mono ?_; rintro e w' ⟨rfl, rfl⟩)
      go_ret
      exact ⟨rfl, HG3.out⟩

theorem typesCalls_run (n m x : Int) (w : World) : Calls Tryz.prog 6 #[.int .i64 n, .int .i64 m, .int .i64 x] w fun e w' => e = .returned (.bool true) ∧ w.grownBy w' none := by
 by_cases h : n < 1 ∨ 9 < n ∨ m < 1 ∨ 9 < m ∨ x < 0 ∨ 20 < x
 ·exact tk_out n m x w h
 ·obtain ⟨o, rfl⟩ : ∃ o : Nat, n = (o : Int) := ⟨n.toNat, by omega⟩
  obtain ⟨y, rfl⟩ : ∃ o : Nat, m = (o : Int) := ⟨m.toNat, by omega⟩
  obtain ⟨z, rfl⟩ : ∃ o : Nat, x = (o : Int) := ⟨x.toNat, by omega⟩
  exact tk_in o y z w (by omega) (by omega) (by omega) (by omega) (by omega)
end Go.Proofs.YtbbamgjdnibldaaGreat
