/- TypesOps' walk. (Written by mktlo.py.) -/
import Derived.Test.YtbbamgjdnibldaaGreatMhN
import Derived.Test.YtbbamgjdnibldaaGreatTlGa
import Derived.Test.YtbbamgjdnibldaaGreatTlGb
import Derived.Test.YtbbamgjdnibldaaGreatTlGc
import Derived.Test.YtbbamgjdnibldaaGreatTlGd
namespace Go.Proofs.YtbbamgjdnibldaaGreat
open Go.RowKit Go.Maps Go.WideMaps

theorem okOp_any (op a c : Nat) (ho : op < 17) (ha : a < 9) (hc : c < 9) : Fam.okOp op a c = true := by
  have h : Fam.okOps op = true := by
    rcases (show op = 0 ∨ op = 1 ∨ op = 2 ∨ op = 3 ∨ op = 4 ∨ op = 5 ∨ op = 6 ∨ op = 7 ∨ op = 8 ∨ op = 9 ∨ op = 10 ∨ op = 11 ∨ op = 12 ∨ op = 13 ∨ op = 14 ∨ op = 15 ∨ op = 16 by omega) with rfl | rfl | rfl | rfl | rfl | rfl | rfl | rfl | rfl | rfl | rfl | rfl | rfl | rfl | rfl | rfl | rfl
    · exact Fam.op0
    · exact Fam.op1
    · exact Fam.op2
    · exact Fam.op3
    · exact Fam.op4
    · exact Fam.op5
    · exact Fam.op6
    · exact Fam.op7
    · exact Fam.op8
    · exact Fam.op9
    · exact Fam.op10
    · exact Fam.op11
    · exact Fam.op12
    · exact Fam.op13
    · exact Fam.op14
    · exact Fam.op15
    · exact Fam.op16
  exact Fam.rg (Fam.rg h a ha) c hc

set_option maxHeartbeats 3200000 in
set_option maxRecDepth 100000 in
theorem to_out (op a b : Int) (w : World) (hn : op < 0 ∨ 17 ≤ op ∨ a < 1 ∨ 9 < a ∨ b < 1 ∨ 9 < b) : Calls Tryz.prog 3 #[.int .i64 op, .int .i64 a, .int .i64 b] w fun e w' => e = .returned (.bool true) ∧ w.grownBy w' none := by
  have hal := alive6_any w
  go_enter Tryz.func3, Tryz.ntmps3
  go_wp2_with (go_at_call 7; refine hal.mono ?_; rintro e w1 ⟨rfl, hg1⟩; refine Hid.out ?_)
  clear hal
  have HG := Lib.hid hg1
  clear hg1
  refine Lib.hid ?_
  by_cases c0 : op < 0
  · have d0 : decide (op < 0) = true := decide_eq_true c0
    clear hn
    go_wp2
    go_ret
    exact ⟨rfl, galloc HG.out _⟩
  have d0 : decide (op < 0) = false := decide_eq_false c0
  by_cases c1 : 17 ≤ op
  · have d1 : decide (17 ≤ op) = true := decide_eq_true c1
    clear hn
    go_wp2
    go_ret
    exact ⟨rfl, galloc HG.out _⟩
  have d1 : decide (17 ≤ op) = false := decide_eq_false c1
  by_cases c2 : a < 1
  · have d2 : decide (a < 1) = true := decide_eq_true c2
    clear hn
    go_wp2
    go_ret
    exact ⟨rfl, galloc HG.out _⟩
  have d2 : decide (a < 1) = false := decide_eq_false c2
  by_cases c3 : 9 < a
  · have d3 : decide (9 < a) = true := decide_eq_true c3
    clear hn
    go_wp2
    go_ret
    exact ⟨rfl, galloc HG.out _⟩
  have d3 : decide (9 < a) = false := decide_eq_false c3
  by_cases c4 : b < 1
  · have d4 : decide (b < 1) = true := decide_eq_true c4
    clear hn
    go_wp2
    go_ret
    exact ⟨rfl, galloc HG.out _⟩
  have d4 : decide (b < 1) = false := decide_eq_false c4
  have c5 : 9 < b := by omega
  have d5 : decide (9 < b) = true := decide_eq_true c5
  clear hn
  go_wp2
  go_ret
  exact ⟨rfl, galloc HG.out _⟩

theorem fits_t {op a c : Nat} (h : Fam.fits op a c = true) : a = c ∧ (a = 0 → (5 ≤ op ∧ op ≤ 8) ∨ op = 11 ∨ op = 12) ∧ (a ≠ 0 → op ≠ 8) := by
  unfold Fam.fits at h
  rw [Bool.and_eq_true, beq_iff_eq] at h
  refine ⟨h.1, fun h0 => ?_, fun h0 => ?_⟩
  · have h2 := h.2; rw [if_pos h0] at h2; simp at h2; omega
  · have h2 := h.2; rw [if_neg h0] at h2; simpa using h2
theorem fits_f {op a : Nat} (h : Fam.fits op a a = false) : (a = 0 → ¬ ((5 ≤ op ∧ op ≤ 8) ∨ op = 11 ∨ op = 12)) ∧ (a ≠ 0 → op = 8) := by
  unfold Fam.fits at h
  rw [beq_self_eq_true, Bool.true_and] at h
  refine ⟨fun h0 => ?_, fun h0 => ?_⟩
  · rw [if_pos h0] at h; simp at h; omega
  · rw [if_neg h0] at h; simpa using h
theorem dex (m n : Int) : (decide (m ≤ n) = true ∧ m ≤ n) ∨ (decide (m ≤ n) = false ∧ n < m) := by
  by_cases h : m ≤ n
  · exact .inl ⟨decide_eq_true h, h⟩
  · exact .inr ⟨decide_eq_false h, by omega⟩
theorem bex (m n : Int) : ((m == n) = true ∧ (m != n) = false ∧ m = n) ∨ ((m == n) = false ∧ (m != n) = true ∧ m ≠ n) := by
  by_cases h : m = n
  · exact .inl ⟨by simp [h], by simp [h], h⟩
  · exact .inr ⟨by simp [h], by simp [h], h⟩

set_option maxHeartbeats 12800000 in
set_option maxRecDepth 100000 in
theorem to_in (op a b : Nat) (w : World) (ho : op < 17) (ha1 : 1 ≤ a) (ha : a ≤ 9) (hb1 : 1 ≤ b) (hb : b ≤ 9) : Calls Tryz.prog 3 #[.int .i64 (op : Int), .int .i64 (a : Int), .int .i64 (b : Int)] w fun e w' => e = .returned (.bool true) ∧ w.grownBy w' none := by
  have hal := alive6_any w
  have hok := okOp_any op (a - 1) (b - 1) ho (by omega) (by omega)
  unfold Fam.okOp at hok
  obtain ⟨x, hx⟩ : ∃ x, Fam.fits op (a - 1) (b - 1) = x := ⟨_, rfl⟩
  rw [hx] at hok
  obtain ⟨E, hE⟩ : ∃ E : Int, E = (if x = true then 0 else 22) := ⟨_, rfl⟩
  rw [← hE] at hok
  have HOK := Lib.hid hok
  have HX := Lib.hid (And.intro hx hE)
  clear hok hx hE
  have d1 : decide ((op : Int) < 0) = false := by rw [decide_eq_false_iff_not]; omega
  have d2 : decide ((17 : Int) ≤ op) = false := by rw [decide_eq_false_iff_not]; omega
  have d3 : decide ((a : Int) < 1) = false := by rw [decide_eq_false_iff_not]; omega
  have d4 : decide ((9 : Int) < a) = false := by rw [decide_eq_false_iff_not]; omega
  have d5 : decide ((b : Int) < 1) = false := by rw [decide_eq_false_iff_not]; omega
  have d6 : decide ((9 : Int) < b) = false := by rw [decide_eq_false_iff_not]; omega
  go_enter Tryz.func3, Tryz.ntmps3
  go_wp2_with (go_at_call 7; refine hal.mono ?_; rintro e w1 ⟨rfl, hg1⟩; refine Hid.out ?_)
  clear hal
  have HG := Lib.hid hg1
  clear hg1
  refine Lib.hid ?_
  go_wp2_with (go_at_call 8; refine (rkindN_any a ha1 ha _).mono ?_; rintro e w2 ⟨K, rfl, hK, HK, hg2⟩; refine Hid.out ?_)
  clear d1 d2 d3 d4 d5 d6
  have hc := hg2.cell (row_strings w1 Fam.ops 9 op ho) (by simp)
  obtain ⟨OP, hOP, hOP3⟩ : ∃ OP : ByteArray, OP = ⟨(Fam.ops.getD op []).toArray⟩ ∧ OP.size ≤ 3 := ⟨_, rfl, by
    rcases (show op = 0 ∨ op = 1 ∨ op = 2 ∨ op = 3 ∨ op = 4 ∨ op = 5 ∨ op = 6 ∨ op = 7 ∨ op = 8 ∨ op = 9 ∨ op = 10 ∨ op = 11 ∨ op = 12 ∨ op = 13 ∨ op = 14 ∨ op = 15 ∨ op = 16 by omega) with rfl | rfl | rfl | rfl | rfl | rfl | rfl | rfl | rfl | rfl | rfl | rfl | rfl | rfl | rfl | rfl | rfl <;> decide⟩
  rw [← hOP] at hc
  have HOP : Hid (OP.data.toList = Fam.ops.getD op []) := Lib.hid (by rw [hOP])
  clear hOP
  have HG2 := Lib.hid ((galloc HG.out _).trans hg2)
  clear hg2
  refine Lib.hid ?_
  go_wp2_with (go_at_call 8; refine (rkindN_any b hb1 hb _).mono ?_; rintro e w3 ⟨M, rfl, hM, HM, hg3⟩; refine Hid.out ?_)
  have hc3 := hg3.cell hc (by simp)
  have HG3 := Lib.hid (HG2.out.trans hg3)
  clear hg3 hc
  refine Lib.hid ?_
  have HOB := Lib.hid (And.intro ha1 hb1)
  rcases dex 11 op with ⟨g1, k1⟩ | ⟨g1, k1⟩ <;> rcases bex op 8 with ⟨g2, g7, k2⟩ | ⟨g2, g7, k2⟩ <;> try omega
  all_goals rcases dex 5 op with ⟨g3, k3⟩ | ⟨g3, k3⟩ <;> rcases dex op 8 with ⟨g4, k4⟩ | ⟨g4, k4⟩ <;> try omega
  all_goals rcases bex op 11 with ⟨g5, g8, k5⟩ | ⟨g5, g8, k5⟩ <;> rcases bex op 12 with ⟨g6, g9, k6⟩ | ⟨g6, g9, k6⟩ <;> try omega
  all_goals
    have HCL := Lib.hid (And.intro k1 (And.intro k2 (And.intro k3 (And.intro k4 (And.intro k5 k6)))))
    clear k1 k2 k3 k4 k5 k6 g8 g9
    go_wp2_with (go_at_call 9; refine (named_ok (t := Fam.opText op (a - 1) (b - 1)) (by unfold Fam.opText; first | (rw [if_pos (by have := HCL.out; omega)]; simp only [ByteArray.data_append, Array.toList_append, HK.out, HM.out, HOP.out]; done) | (rw [if_pos (by have := HCL.out; omega)]; simp only [ByteArray.data_append, Array.toList_append, HK.out, HM.out, HOP.out]; rfl) | (rw [if_neg (by have := HCL.out; omega)]; simp only [ByteArray.data_append, Array.toList_append, HK.out, HM.out, HOP.out])) HOK.out _).mono ?_; rintro e w4 ⟨pa, pL, pc, rfl, hN, hg4⟩; refine Hid.out ?_)
    have hga := World.grownBy_alloc w4 (.cells #[.slice pa pL pc] 27 (0, 0)) none
    have q1 := cell_of_row _ _ 0 _ _ _ (heap_alloc_new w4 (.cells #[.slice pa pL pc] 27 (0, 0)))
    have HG4 := Lib.hid (And.intro (hN.kept hga) (HG3.out.trans (hg4.trans hga)))
    clear hN hg4 hga hc3
    refine Lib.hid ?_
    go_wp2_with (go_at_call 10; refine (tc_ok HOK.out HG4.out.1).mono ?_; rintro e w5 ⟨⟨at5, rfl⟩, hg5⟩; refine Hid.out ?_)
    have HG5 := Lib.hid (HG4.out.2.trans hg5)
    clear hg5 q1 HG4 hK hM hOP3
    refine Lib.hid ?_
    obtain ⟨hx, hE⟩ := HX.out
    clear ho
    rcases bex a b with ⟨e1, e3, hab⟩ | ⟨e1, e3, hab⟩ <;> rcases bex a 1 with ⟨e2, e4, h1⟩ | ⟨e2, e4, h1⟩ <;> cases x
    all_goals
      first
      | (exfalso
         have h := fits_t hx
         have := HCL.out
         have := HOB.out
         omega)
      | (exfalso
         have := HOB.out
         rw [show b - 1 = a - 1 by omega] at hx
         have h := fits_f hx
         have := HCL.out
         omega)
      | (first
         | rw [if_pos rfl] at hE
         | rw [if_neg (by decide)] at hE
         subst hE
         clear hx h1 hab e3 e4 ha1 ha hb1 hb
         go_wp2_with (go_at_call 11; refine (num6_any _ _).mono ?_; rintro e w' ⟨rfl, rfl⟩)
         go_ret
         exact ⟨rfl, HG5.out⟩)

theorem typesOps_run (op a b : Int) (w : World) : Calls Tryz.prog 3 #[.int .i64 op, .int .i64 a, .int .i64 b] w fun e w' => e = .returned (.bool true) ∧ w.grownBy w' none := by
  by_cases h : op < 0 ∨ 17 ≤ op ∨ a < 1 ∨ 9 < a ∨ b < 1 ∨ 9 < b
  · exact to_out op a b w h
  · obtain ⟨o, rfl⟩ : ∃ o : Nat, op = (o : Int) := ⟨op.toNat, by omega⟩
    obtain ⟨x, rfl⟩ : ∃ o : Nat, a = (o : Int) := ⟨a.toNat, by omega⟩
    obtain ⟨y, rfl⟩ : ∃ o : Nat, b = (o : Int) := ⟨b.toNat, by omega⟩
    exact to_in o x y w (by omega) (by omega) (by omega) (by omega) (by omega)
end Go.Proofs.YtbbamgjdnibldaaGreat
