/- Stage 21: ExecTicks: the walk (written by mkexx.py). -/
import Derived.Test.YtlppifnepckpiaaGreatExW
import Derived.Deep.CutRange
namespace Go.Proofs.YtlppifnepckpiaaGreat
open Go.RowKit Go.Maps Go.WideMaps

set_option maxHeartbeats 8000000 in
set_option maxRecDepth 100000 in
theorem xtic_e0 (w : World) (c : Cd.Code) (ka : Option Addr) (kc : Nat) (ia : Option Addr) (ic : Nat) (ba : Option Addr) (bc : Nat) (a1 : Option Addr) (L1 : List (List Int)) (c1 : Nat) (hc : CodeAt w c ka ia ba) (hs : I64s c) (hkc : c.kinds.length ≤ kc) (h1 : RowsAt w a1 L1) (m1 : L1.length ≤ maxLen) (hq0 : bigB21 c = true) : Calls Tryz.prog 3 #[.agg (codeV c ka kc ia ic ba bc), .slice a1 L1.length c1] w fun e w' => e = .returned (.bool true) ∧ w.grownBy w' none := by
  have hal := fun V => alive21_any V
  have hbig := fun V => xbig19_any V c ka kc ia ic ba bc ⟨hs.2.2.2.2.2.2.2.1, hs.2.2.2.2.2.2.2.2.1, hs.2.2.2.2.2.2.2.2.2⟩
  have HB1 := Lib.hid (fun V (hg : w.grownBy V none) => big11_any V a1 L1 c1 (h1.on hg) m1)
  have HCK := Lib.hid (fun V (hg : w.grownBy V none) => rcheck_any V c ka kc ia ic ba bc (hc.on hg) hs)
  have HNW := Lib.hid (fun V (hg : w.grownBy V none) => new_any V c ka kc ia ic ba bc (hc.on hg) hs hkc)
  have HRN := Lib.hid (fun W V (hg : w.grownBy W none) (hg2 : W.grownBy V none) (hok : Cd.check c = 0) => rnew_any W V hg2 c ka kc ia ic ba bc (hc.on hg) hs hok)
  have hnum := fun k V => num21_any k V
  have hg0 := World.grownBy_alloc w (.cells (codeV c ka kc ia ic ba bc) 25) none
  have hr0 := heap_alloc_new w (.cells (codeV c ka kc ia ic ba bc) 25)
  have H0 : Hid (Bw w w.heap.size (codeV c ka kc ia ic ba bc) (w.alloc (.cells (codeV c ka kc ia ic ba bc) 25))) := Lib.hid ⟨hg0, hr0⟩
  clear hg0 hr0
  have HA := Lib.hid (And.intro hs (And.intro h1 (And.intro m1 hc)))
  have n1 : L1.length ≤ 9223372036854775807 := by simpa [maxLen] using m1
  clear hc hs hkc h1 m1
  obtain ⟨nk, hnk⟩ : ∃ n, c.kinds.length = n := ⟨_, rfl⟩
  obtain ⟨ni, hni⟩ : ∃ n, c.init.length = n := ⟨_, rfl⟩
  obtain ⟨nb, hnb⟩ : ∃ n, c.body.length = n := ⟨_, rfl⟩
  obtain ⟨x1, hx1⟩ : ∃ n, c.ins = n := ⟨_, rfl⟩
  obtain ⟨x2, hx2⟩ : ∃ n, c.outs = n := ⟨_, rfl⟩
  obtain ⟨x3, hx3⟩ : ∃ n, c.cells = n := ⟨_, rfl⟩
  obtain ⟨x4, hx4⟩ : ∃ n, c.stack = n := ⟨_, rfl⟩
  obtain ⟨N1, hN1⟩ : ∃ n, L1.length = n := ⟨_, rfl⟩
  obtain ⟨R, hR⟩ : ∃ n, Cd.check c = n := ⟨_, rfl⟩
  obtain ⟨B0, hB0⟩ : ∃ n, bigB21 c = n := ⟨_, rfl⟩
  obtain ⟨B1, hB1⟩ : ∃ n, bigR L1 = n := ⟨_, rfl⟩
  unfold codeV at hbig HCK HNW HRN H0 ⊢
  simp only [hnk, hni, hnb, hx1, hx2, hx3, hx4, hB0] at hbig
  simp only [hnk, hni, hnb, hx1, hx2, hx3, hx4, hR] at HCK
  simp only [hnk, hni, hnb, hx1, hx2, hx3, hx4] at H0 HNW HRN
  simp only [hN1, hB1] at HB1
  simp only [hnk, hni, hnb, hx1, hx2, hx3, hx4, hN1]
  rw [hN1] at n1
  have HM := Lib.hid (And.intro hN1 (And.intro hR hni))
  have HQ := Lib.hid (And.intro hB0 hB1)
  clear hnk hni hnb hx1 hx2 hx3 hx4 hN1 hR hB0 hB1
  have hB0 : B0 = true := HQ.out.1.symm.trans hq0
  subst hB0
  clear hq0
  go_enter Tryz.func3, Tryz.ntmps3
  go_wp2_with (first
      | (go_at_call 7; refine (hal _).mono ?_; rintro e w1 ⟨rfl, hg1⟩; have H1 := Lib.hid (H0.out.on hg1); clear hg1; have u0 := cell_of_row w1 _ 0 _ _ _ H1.out.2; have u1 := cell_of_row w1 _ 1 _ _ _ H1.out.2; have u2 := cell_of_row w1 _ 2 _ _ _ H1.out.2; have u3 := cell_of_row w1 _ 3 _ _ _ H1.out.2; have u4 := cell_of_row w1 _ 4 _ _ _ H1.out.2; have u5 := cell_of_row w1 _ 5 _ _ _ H1.out.2; have u6 := cell_of_row w1 _ 6 _ _ _ H1.out.2)
      | (go_at_call 8; refine (hbig _).mono ?_; rintro e w2 ⟨rfl, hg2⟩; have H2 := Lib.hid (H1.out.on hg2); clear hg2; clear u0 u1 u2 u3 u4 u5 u6; have u0 := cell_of_row w2 _ 0 _ _ _ H2.out.2; have u1 := cell_of_row w2 _ 1 _ _ _ H2.out.2; have u2 := cell_of_row w2 _ 2 _ _ _ H2.out.2; have u3 := cell_of_row w2 _ 3 _ _ _ H2.out.2; have u4 := cell_of_row w2 _ 4 _ _ _ H2.out.2; have u5 := cell_of_row w2 _ 5 _ _ _ H2.out.2; have u6 := cell_of_row w2 _ 6 _ _ _ H2.out.2)
      | (go_at_call 9; refine (HB1.out _ H2.out.1).mono ?_; rintro e w9 ⟨rfl, hw9⟩; obtain rfl := hw9.symm))
  go_ret
  exact ⟨rfl, H2.out.1⟩

set_option maxHeartbeats 8000000 in
set_option maxRecDepth 100000 in
theorem xtic_e1 (w : World) (c : Cd.Code) (ka : Option Addr) (kc : Nat) (ia : Option Addr) (ic : Nat) (ba : Option Addr) (bc : Nat) (a1 : Option Addr) (L1 : List (List Int)) (c1 : Nat) (hc : CodeAt w c ka ia ba) (hs : I64s c) (hkc : c.kinds.length ≤ kc) (h1 : RowsAt w a1 L1) (m1 : L1.length ≤ maxLen) (hq0 : bigB21 c = false) (hq1 : bigR L1 = true) : Calls Tryz.prog 3 #[.agg (codeV c ka kc ia ic ba bc), .slice a1 L1.length c1] w fun e w' => e = .returned (.bool true) ∧ w.grownBy w' none := by
  have hal := fun V => alive21_any V
  have hbig := fun V => xbig19_any V c ka kc ia ic ba bc ⟨hs.2.2.2.2.2.2.2.1, hs.2.2.2.2.2.2.2.2.1, hs.2.2.2.2.2.2.2.2.2⟩
  have HB1 := Lib.hid (fun V (hg : w.grownBy V none) => big11_any V a1 L1 c1 (h1.on hg) m1)
  have HCK := Lib.hid (fun V (hg : w.grownBy V none) => rcheck_any V c ka kc ia ic ba bc (hc.on hg) hs)
  have HNW := Lib.hid (fun V (hg : w.grownBy V none) => new_any V c ka kc ia ic ba bc (hc.on hg) hs hkc)
  have HRN := Lib.hid (fun W V (hg : w.grownBy W none) (hg2 : W.grownBy V none) (hok : Cd.check c = 0) => rnew_any W V hg2 c ka kc ia ic ba bc (hc.on hg) hs hok)
  have hnum := fun k V => num21_any k V
  have hg0 := World.grownBy_alloc w (.cells (codeV c ka kc ia ic ba bc) 25) none
  have hr0 := heap_alloc_new w (.cells (codeV c ka kc ia ic ba bc) 25)
  have H0 : Hid (Bw w w.heap.size (codeV c ka kc ia ic ba bc) (w.alloc (.cells (codeV c ka kc ia ic ba bc) 25))) := Lib.hid ⟨hg0, hr0⟩
  clear hg0 hr0
  have HA := Lib.hid (And.intro hs (And.intro h1 (And.intro m1 hc)))
  have n1 : L1.length ≤ 9223372036854775807 := by simpa [maxLen] using m1
  clear hc hs hkc h1 m1
  obtain ⟨nk, hnk⟩ : ∃ n, c.kinds.length = n := ⟨_, rfl⟩
  obtain ⟨ni, hni⟩ : ∃ n, c.init.length = n := ⟨_, rfl⟩
  obtain ⟨nb, hnb⟩ : ∃ n, c.body.length = n := ⟨_, rfl⟩
  obtain ⟨x1, hx1⟩ : ∃ n, c.ins = n := ⟨_, rfl⟩
  obtain ⟨x2, hx2⟩ : ∃ n, c.outs = n := ⟨_, rfl⟩
  obtain ⟨x3, hx3⟩ : ∃ n, c.cells = n := ⟨_, rfl⟩
  obtain ⟨x4, hx4⟩ : ∃ n, c.stack = n := ⟨_, rfl⟩
  obtain ⟨N1, hN1⟩ : ∃ n, L1.length = n := ⟨_, rfl⟩
  obtain ⟨R, hR⟩ : ∃ n, Cd.check c = n := ⟨_, rfl⟩
  obtain ⟨B0, hB0⟩ : ∃ n, bigB21 c = n := ⟨_, rfl⟩
  obtain ⟨B1, hB1⟩ : ∃ n, bigR L1 = n := ⟨_, rfl⟩
  unfold codeV at hbig HCK HNW HRN H0 ⊢
  simp only [hnk, hni, hnb, hx1, hx2, hx3, hx4, hB0] at hbig
  simp only [hnk, hni, hnb, hx1, hx2, hx3, hx4, hR] at HCK
  simp only [hnk, hni, hnb, hx1, hx2, hx3, hx4] at H0 HNW HRN
  simp only [hN1, hB1] at HB1
  simp only [hnk, hni, hnb, hx1, hx2, hx3, hx4, hN1]
  rw [hN1] at n1
  have HM := Lib.hid (And.intro hN1 (And.intro hR hni))
  have HQ := Lib.hid (And.intro hB0 hB1)
  clear hnk hni hnb hx1 hx2 hx3 hx4 hN1 hR hB0 hB1
  have hB0 : B0 = false := HQ.out.1.symm.trans hq0
  have hB1 : B1 = true := HQ.out.2.symm.trans hq1
  subst hB0 hB1
  clear hq0 hq1
  go_enter Tryz.func3, Tryz.ntmps3
  go_wp2_with (first
      | (go_at_call 7; refine (hal _).mono ?_; rintro e w1 ⟨rfl, hg1⟩; have H1 := Lib.hid (H0.out.on hg1); clear hg1; have u0 := cell_of_row w1 _ 0 _ _ _ H1.out.2; have u1 := cell_of_row w1 _ 1 _ _ _ H1.out.2; have u2 := cell_of_row w1 _ 2 _ _ _ H1.out.2; have u3 := cell_of_row w1 _ 3 _ _ _ H1.out.2; have u4 := cell_of_row w1 _ 4 _ _ _ H1.out.2; have u5 := cell_of_row w1 _ 5 _ _ _ H1.out.2; have u6 := cell_of_row w1 _ 6 _ _ _ H1.out.2)
      | (go_at_call 8; refine (hbig _).mono ?_; rintro e w2 ⟨rfl, hg2⟩; have H2 := Lib.hid (H1.out.on hg2); clear hg2; clear u0 u1 u2 u3 u4 u5 u6; have u0 := cell_of_row w2 _ 0 _ _ _ H2.out.2; have u1 := cell_of_row w2 _ 1 _ _ _ H2.out.2; have u2 := cell_of_row w2 _ 2 _ _ _ H2.out.2; have u3 := cell_of_row w2 _ 3 _ _ _ H2.out.2; have u4 := cell_of_row w2 _ 4 _ _ _ H2.out.2; have u5 := cell_of_row w2 _ 5 _ _ _ H2.out.2; have u6 := cell_of_row w2 _ 6 _ _ _ H2.out.2)
      | (go_at_call 9; refine (HB1.out _ H2.out.1).mono ?_; rintro e w9 ⟨rfl, hw9⟩; obtain rfl := hw9.symm))
  go_ret
  exact ⟨rfl, H2.out.1⟩

set_option maxHeartbeats 8000000 in
set_option maxRecDepth 100000 in
theorem xtic_e2 (w : World) (c : Cd.Code) (ka : Option Addr) (kc : Nat) (ia : Option Addr) (ic : Nat) (ba : Option Addr) (bc : Nat) (a1 : Option Addr) (L1 : List (List Int)) (c1 : Nat) (hc : CodeAt w c ka ia ba) (hs : I64s c) (hkc : c.kinds.length ≤ kc) (h1 : RowsAt w a1 L1) (m1 : L1.length ≤ maxLen) (hq0 : bigB21 c = false) (hq1 : bigR L1 = false) (hl : 30 < L1.length) : Calls Tryz.prog 3 #[.agg (codeV c ka kc ia ic ba bc), .slice a1 L1.length c1] w fun e w' => e = .returned (.bool true) ∧ w.grownBy w' none := by
  have hal := fun V => alive21_any V
  have hbig := fun V => xbig19_any V c ka kc ia ic ba bc ⟨hs.2.2.2.2.2.2.2.1, hs.2.2.2.2.2.2.2.2.1, hs.2.2.2.2.2.2.2.2.2⟩
  have HB1 := Lib.hid (fun V (hg : w.grownBy V none) => big11_any V a1 L1 c1 (h1.on hg) m1)
  have HCK := Lib.hid (fun V (hg : w.grownBy V none) => rcheck_any V c ka kc ia ic ba bc (hc.on hg) hs)
  have HNW := Lib.hid (fun V (hg : w.grownBy V none) => new_any V c ka kc ia ic ba bc (hc.on hg) hs hkc)
  have HRN := Lib.hid (fun W V (hg : w.grownBy W none) (hg2 : W.grownBy V none) (hok : Cd.check c = 0) => rnew_any W V hg2 c ka kc ia ic ba bc (hc.on hg) hs hok)
  have hnum := fun k V => num21_any k V
  have hg0 := World.grownBy_alloc w (.cells (codeV c ka kc ia ic ba bc) 25) none
  have hr0 := heap_alloc_new w (.cells (codeV c ka kc ia ic ba bc) 25)
  have H0 : Hid (Bw w w.heap.size (codeV c ka kc ia ic ba bc) (w.alloc (.cells (codeV c ka kc ia ic ba bc) 25))) := Lib.hid ⟨hg0, hr0⟩
  clear hg0 hr0
  have HA := Lib.hid (And.intro hs (And.intro h1 (And.intro m1 hc)))
  have n1 : L1.length ≤ 9223372036854775807 := by simpa [maxLen] using m1
  clear hc hs hkc h1 m1
  obtain ⟨nk, hnk⟩ : ∃ n, c.kinds.length = n := ⟨_, rfl⟩
  obtain ⟨ni, hni⟩ : ∃ n, c.init.length = n := ⟨_, rfl⟩
  obtain ⟨nb, hnb⟩ : ∃ n, c.body.length = n := ⟨_, rfl⟩
  obtain ⟨x1, hx1⟩ : ∃ n, c.ins = n := ⟨_, rfl⟩
  obtain ⟨x2, hx2⟩ : ∃ n, c.outs = n := ⟨_, rfl⟩
  obtain ⟨x3, hx3⟩ : ∃ n, c.cells = n := ⟨_, rfl⟩
  obtain ⟨x4, hx4⟩ : ∃ n, c.stack = n := ⟨_, rfl⟩
  obtain ⟨N1, hN1⟩ : ∃ n, L1.length = n := ⟨_, rfl⟩
  obtain ⟨R, hR⟩ : ∃ n, Cd.check c = n := ⟨_, rfl⟩
  obtain ⟨B0, hB0⟩ : ∃ n, bigB21 c = n := ⟨_, rfl⟩
  obtain ⟨B1, hB1⟩ : ∃ n, bigR L1 = n := ⟨_, rfl⟩
  unfold codeV at hbig HCK HNW HRN H0 ⊢
  simp only [hnk, hni, hnb, hx1, hx2, hx3, hx4, hB0] at hbig
  simp only [hnk, hni, hnb, hx1, hx2, hx3, hx4, hR] at HCK
  simp only [hnk, hni, hnb, hx1, hx2, hx3, hx4] at H0 HNW HRN
  simp only [hN1, hB1] at HB1
  simp only [hnk, hni, hnb, hx1, hx2, hx3, hx4, hN1]
  rw [hN1] at n1
  have HM := Lib.hid (And.intro hN1 (And.intro hR hni))
  have HQ := Lib.hid (And.intro hB0 hB1)
  clear hnk hni hnb hx1 hx2 hx3 hx4 hN1 hR hB0 hB1
  have hB0 : B0 = false := HQ.out.1.symm.trans hq0
  have hB1 : B1 = false := HQ.out.2.symm.trans hq1
  subst hB0 hB1
  clear hq0 hq1
  have e3 : decide ((30 : Int) < (N1 : Int)) = true := decide_eq_true (by have := HM.out.1; omega)
  clear hl
  go_enter Tryz.func3, Tryz.ntmps3
  go_wp2_with (first
      | (go_at_call 7; refine (hal _).mono ?_; rintro e w1 ⟨rfl, hg1⟩; have H1 := Lib.hid (H0.out.on hg1); clear hg1; have u0 := cell_of_row w1 _ 0 _ _ _ H1.out.2; have u1 := cell_of_row w1 _ 1 _ _ _ H1.out.2; have u2 := cell_of_row w1 _ 2 _ _ _ H1.out.2; have u3 := cell_of_row w1 _ 3 _ _ _ H1.out.2; have u4 := cell_of_row w1 _ 4 _ _ _ H1.out.2; have u5 := cell_of_row w1 _ 5 _ _ _ H1.out.2; have u6 := cell_of_row w1 _ 6 _ _ _ H1.out.2)
      | (go_at_call 8; refine (hbig _).mono ?_; rintro e w2 ⟨rfl, hg2⟩; have H2 := Lib.hid (H1.out.on hg2); clear hg2; clear u0 u1 u2 u3 u4 u5 u6; have u0 := cell_of_row w2 _ 0 _ _ _ H2.out.2; have u1 := cell_of_row w2 _ 1 _ _ _ H2.out.2; have u2 := cell_of_row w2 _ 2 _ _ _ H2.out.2; have u3 := cell_of_row w2 _ 3 _ _ _ H2.out.2; have u4 := cell_of_row w2 _ 4 _ _ _ H2.out.2; have u5 := cell_of_row w2 _ 5 _ _ _ H2.out.2; have u6 := cell_of_row w2 _ 6 _ _ _ H2.out.2)
      | (go_at_call 9; refine (HB1.out _ H2.out.1).mono ?_; rintro e w9 ⟨rfl, hw9⟩; obtain rfl := hw9.symm))
  go_ret
  exact ⟨rfl, H2.out.1⟩

set_option maxHeartbeats 8000000 in
set_option maxRecDepth 100000 in
theorem xtic_e3 (w : World) (c : Cd.Code) (ka : Option Addr) (kc : Nat) (ia : Option Addr) (ic : Nat) (ba : Option Addr) (bc : Nat) (a1 : Option Addr) (L1 : List (List Int)) (c1 : Nat) (hc : CodeAt w c ka ia ba) (hs : I64s c) (hkc : c.kinds.length ≤ kc) (h1 : RowsAt w a1 L1) (m1 : L1.length ≤ maxLen) (hq0 : bigB21 c = false) (hq1 : bigR L1 = false) (hl : L1.length ≤ 30) (hr : Cd.check c ≠ 0) : Calls Tryz.prog 3 #[.agg (codeV c ka kc ia ic ba bc), .slice a1 L1.length c1] w fun e w' => e = .returned (.bool true) ∧ w.grownBy w' none := by
  have hal := fun V => alive21_any V
  have hbig := fun V => xbig19_any V c ka kc ia ic ba bc ⟨hs.2.2.2.2.2.2.2.1, hs.2.2.2.2.2.2.2.2.1, hs.2.2.2.2.2.2.2.2.2⟩
  have HB1 := Lib.hid (fun V (hg : w.grownBy V none) => big11_any V a1 L1 c1 (h1.on hg) m1)
  have HCK := Lib.hid (fun V (hg : w.grownBy V none) => rcheck_any V c ka kc ia ic ba bc (hc.on hg) hs)
  have HNW := Lib.hid (fun V (hg : w.grownBy V none) => new_any V c ka kc ia ic ba bc (hc.on hg) hs hkc)
  have HRN := Lib.hid (fun W V (hg : w.grownBy W none) (hg2 : W.grownBy V none) (hok : Cd.check c = 0) => rnew_any W V hg2 c ka kc ia ic ba bc (hc.on hg) hs hok)
  have hnum := fun k V => num21_any k V
  have hg0 := World.grownBy_alloc w (.cells (codeV c ka kc ia ic ba bc) 25) none
  have hr0 := heap_alloc_new w (.cells (codeV c ka kc ia ic ba bc) 25)
  have H0 : Hid (Bw w w.heap.size (codeV c ka kc ia ic ba bc) (w.alloc (.cells (codeV c ka kc ia ic ba bc) 25))) := Lib.hid ⟨hg0, hr0⟩
  clear hg0 hr0
  have HA := Lib.hid (And.intro hs (And.intro h1 (And.intro m1 hc)))
  have n1 : L1.length ≤ 9223372036854775807 := by simpa [maxLen] using m1
  clear hc hs hkc h1 m1
  obtain ⟨nk, hnk⟩ : ∃ n, c.kinds.length = n := ⟨_, rfl⟩
  obtain ⟨ni, hni⟩ : ∃ n, c.init.length = n := ⟨_, rfl⟩
  obtain ⟨nb, hnb⟩ : ∃ n, c.body.length = n := ⟨_, rfl⟩
  obtain ⟨x1, hx1⟩ : ∃ n, c.ins = n := ⟨_, rfl⟩
  obtain ⟨x2, hx2⟩ : ∃ n, c.outs = n := ⟨_, rfl⟩
  obtain ⟨x3, hx3⟩ : ∃ n, c.cells = n := ⟨_, rfl⟩
  obtain ⟨x4, hx4⟩ : ∃ n, c.stack = n := ⟨_, rfl⟩
  obtain ⟨N1, hN1⟩ : ∃ n, L1.length = n := ⟨_, rfl⟩
  obtain ⟨R, hR⟩ : ∃ n, Cd.check c = n := ⟨_, rfl⟩
  obtain ⟨B0, hB0⟩ : ∃ n, bigB21 c = n := ⟨_, rfl⟩
  obtain ⟨B1, hB1⟩ : ∃ n, bigR L1 = n := ⟨_, rfl⟩
  unfold codeV at hbig HCK HNW HRN H0 ⊢
  simp only [hnk, hni, hnb, hx1, hx2, hx3, hx4, hB0] at hbig
  simp only [hnk, hni, hnb, hx1, hx2, hx3, hx4, hR] at HCK
  simp only [hnk, hni, hnb, hx1, hx2, hx3, hx4] at H0 HNW HRN
  simp only [hN1, hB1] at HB1
  simp only [hnk, hni, hnb, hx1, hx2, hx3, hx4, hN1]
  rw [hN1] at n1
  have HM := Lib.hid (And.intro hN1 (And.intro hR hni))
  have HQ := Lib.hid (And.intro hB0 hB1)
  clear hnk hni hnb hx1 hx2 hx3 hx4 hN1 hR hB0 hB1
  have hB0 : B0 = false := HQ.out.1.symm.trans hq0
  have hB1 : B1 = false := HQ.out.2.symm.trans hq1
  subst hB0 hB1
  clear hq0 hq1
  have e3 : N1 ≤ 30 := by have := HM.out.1; omega
  have e5 : (R != 0) = true := by have := HM.out.2.1; simp; omega
  have HNE := Lib.hid hr
  clear hl hr
  go_enter Tryz.func3, Tryz.ntmps3
  go_wp2_with (first
      | (go_at_call 7; refine (hal _).mono ?_; rintro e w1 ⟨rfl, hg1⟩; have H1 := Lib.hid (H0.out.on hg1); clear hg1; have u0 := cell_of_row w1 _ 0 _ _ _ H1.out.2; have u1 := cell_of_row w1 _ 1 _ _ _ H1.out.2; have u2 := cell_of_row w1 _ 2 _ _ _ H1.out.2; have u3 := cell_of_row w1 _ 3 _ _ _ H1.out.2; have u4 := cell_of_row w1 _ 4 _ _ _ H1.out.2; have u5 := cell_of_row w1 _ 5 _ _ _ H1.out.2; have u6 := cell_of_row w1 _ 6 _ _ _ H1.out.2)
      | (go_at_call 8; refine (hbig _).mono ?_; rintro e w2 ⟨rfl, hg2⟩; have H2 := Lib.hid (H1.out.on hg2); clear hg2; clear u0 u1 u2 u3 u4 u5 u6; have u0 := cell_of_row w2 _ 0 _ _ _ H2.out.2; have u1 := cell_of_row w2 _ 1 _ _ _ H2.out.2; have u2 := cell_of_row w2 _ 2 _ _ _ H2.out.2; have u3 := cell_of_row w2 _ 3 _ _ _ H2.out.2; have u4 := cell_of_row w2 _ 4 _ _ _ H2.out.2; have u5 := cell_of_row w2 _ 5 _ _ _ H2.out.2; have u6 := cell_of_row w2 _ 6 _ _ _ H2.out.2)
      | (go_at_call 9; refine (HB1.out _ H2.out.1).mono ?_; rintro e w9 ⟨rfl, hw9⟩; obtain rfl := hw9.symm)
      | (go_at_call 10; refine (HNW.out _ H2.out.1).mono ?_; rintro e w3 ⟨hg3, hn3, _⟩; obtain rfl := hn3 HNE.out; have H3 := Lib.hid (H2.out.on hg3); clear hg3 hn3; clear u0 u1 u2 u3 u4 u5 u6; have u0 := cell_of_row w3 _ 0 _ _ _ H3.out.2; have u1 := cell_of_row w3 _ 1 _ _ _ H3.out.2; have u2 := cell_of_row w3 _ 2 _ _ _ H3.out.2; have u3 := cell_of_row w3 _ 3 _ _ _ H3.out.2; have u4 := cell_of_row w3 _ 4 _ _ _ H3.out.2; have u5 := cell_of_row w3 _ 5 _ _ _ H3.out.2; have u6 := cell_of_row w3 _ 6 _ _ _ H3.out.2)
      | (go_at_call 11; refine (HCK.out _ H3.out.1).mono ?_; rintro e w4 ⟨rfl, hg4⟩; have HG4 := Lib.hid hg4; clear hg4; clear u0 u1 u2 u3 u4 u5 u6)
      | (go_at_call 12; refine (hnum _ _).mono ?_; rintro e w9 ⟨rfl, hw9⟩; obtain rfl := hw9.symm))
  go_ret
  exact ⟨rfl, H3.out.1.trans HG4.out⟩

set_option maxHeartbeats 8000000 in
set_option maxRecDepth 100000 in
theorem xtic_main (w : World) (c : Cd.Code) (ka : Option Addr) (kc : Nat) (ia : Option Addr) (ic : Nat) (ba : Option Addr) (bc : Nat) (a1 : Option Addr) (L1 : List (List Int)) (c1 : Nat) (hc : CodeAt w c ka ia ba) (hs : I64s c) (hkc : c.kinds.length ≤ kc) (h1 : RowsAt w a1 L1) (m1 : L1.length ≤ maxLen) (hq0 : bigB21 c = false) (hq1 : bigR L1 = false) (hl : L1.length ≤ 30) (hr : Cd.check c = 0) (hsm : ∀ l ∈ L1, l.length ≤ 2000) : Calls Tryz.prog 3 #[.agg (codeV c ka kc ia ic ba bc), .slice a1 L1.length c1] w fun e w' => e = .returned (.bool true) ∧ w.grownBy w' none := by
  have hal := fun V => alive21_any V
  have hbig := fun V => xbig19_any V c ka kc ia ic ba bc ⟨hs.2.2.2.2.2.2.2.1, hs.2.2.2.2.2.2.2.2.1, hs.2.2.2.2.2.2.2.2.2⟩
  have HB1 := Lib.hid (fun V (hg : w.grownBy V none) => big11_any V a1 L1 c1 (h1.on hg) m1)
  have HCK := Lib.hid (fun V (hg : w.grownBy V none) => rcheck_any V c ka kc ia ic ba bc (hc.on hg) hs)
  have HNW := Lib.hid (fun V (hg : w.grownBy V none) => new_any V c ka kc ia ic ba bc (hc.on hg) hs hkc)
  have HRN := Lib.hid (fun W V (hg : w.grownBy W none) (hg2 : W.grownBy V none) (hok : Cd.check c = 0) => rnew_any W V hg2 c ka kc ia ic ba bc (hc.on hg) hs hok)
  have hnum := fun k V => num21_any k V
  have hg0 := World.grownBy_alloc w (.cells (codeV c ka kc ia ic ba bc) 25) none
  have hr0 := heap_alloc_new w (.cells (codeV c ka kc ia ic ba bc) 25)
  have H0 : Hid (Bw w w.heap.size (codeV c ka kc ia ic ba bc) (w.alloc (.cells (codeV c ka kc ia ic ba bc) 25))) := Lib.hid ⟨hg0, hr0⟩
  clear hg0 hr0
  have HA := Lib.hid (And.intro hs (And.intro h1 (And.intro m1 hc)))
  have n1 : L1.length ≤ 9223372036854775807 := by simpa [maxLen] using m1
  clear hc hs hkc h1 m1
  obtain ⟨nk, hnk⟩ : ∃ n, c.kinds.length = n := ⟨_, rfl⟩
  obtain ⟨ni, hni⟩ : ∃ n, c.init.length = n := ⟨_, rfl⟩
  obtain ⟨nb, hnb⟩ : ∃ n, c.body.length = n := ⟨_, rfl⟩
  obtain ⟨x1, hx1⟩ : ∃ n, c.ins = n := ⟨_, rfl⟩
  obtain ⟨x2, hx2⟩ : ∃ n, c.outs = n := ⟨_, rfl⟩
  obtain ⟨x3, hx3⟩ : ∃ n, c.cells = n := ⟨_, rfl⟩
  obtain ⟨x4, hx4⟩ : ∃ n, c.stack = n := ⟨_, rfl⟩
  obtain ⟨N1, hN1⟩ : ∃ n, L1.length = n := ⟨_, rfl⟩
  obtain ⟨R, hR⟩ : ∃ n, Cd.check c = n := ⟨_, rfl⟩
  obtain ⟨B0, hB0⟩ : ∃ n, bigB21 c = n := ⟨_, rfl⟩
  obtain ⟨B1, hB1⟩ : ∃ n, bigR L1 = n := ⟨_, rfl⟩
  unfold codeV at hbig HCK HNW HRN H0 ⊢
  simp only [hnk, hni, hnb, hx1, hx2, hx3, hx4, hB0] at hbig
  simp only [hnk, hni, hnb, hx1, hx2, hx3, hx4, hR] at HCK
  simp only [hnk, hni, hnb, hx1, hx2, hx3, hx4] at H0 HNW HRN
  simp only [hN1, hB1] at HB1
  simp only [hnk, hni, hnb, hx1, hx2, hx3, hx4, hN1]
  rw [hN1] at n1
  have HM := Lib.hid (And.intro hN1 (And.intro hR hni))
  have HQ := Lib.hid (And.intro hB0 hB1)
  clear hnk hni hnb hx1 hx2 hx3 hx4 hN1 hR hB0 hB1
  have hB0 : B0 = false := HQ.out.1.symm.trans hq0
  have hB1 : B1 = false := HQ.out.2.symm.trans hq1
  subst hB0 hB1
  clear hq0 hq1
  have e3 : N1 ≤ 30 := by have := HM.out.1; omega
  obtain rfl : R = 0 := by rw [← HM.out.2.1]; exact hr
  have HOK := Lib.hid hr
  have HSM := Lib.hid hsm
  clear hl hr hsm
  go_enter Tryz.func3, Tryz.ntmps3
  go_wp2_with (first
      | (go_at_call 7; refine (hal _).mono ?_; rintro e w1 ⟨rfl, hg1⟩; have H1 := Lib.hid (H0.out.on hg1); clear hg1; have u0 := cell_of_row w1 _ 0 _ _ _ H1.out.2; have u1 := cell_of_row w1 _ 1 _ _ _ H1.out.2; have u2 := cell_of_row w1 _ 2 _ _ _ H1.out.2; have u3 := cell_of_row w1 _ 3 _ _ _ H1.out.2; have u4 := cell_of_row w1 _ 4 _ _ _ H1.out.2; have u5 := cell_of_row w1 _ 5 _ _ _ H1.out.2; have u6 := cell_of_row w1 _ 6 _ _ _ H1.out.2)
      | (go_at_call 8; refine (hbig _).mono ?_; rintro e w2 ⟨rfl, hg2⟩; have H2 := Lib.hid (H1.out.on hg2); clear hg2; clear u0 u1 u2 u3 u4 u5 u6; have u0 := cell_of_row w2 _ 0 _ _ _ H2.out.2; have u1 := cell_of_row w2 _ 1 _ _ _ H2.out.2; have u2 := cell_of_row w2 _ 2 _ _ _ H2.out.2; have u3 := cell_of_row w2 _ 3 _ _ _ H2.out.2; have u4 := cell_of_row w2 _ 4 _ _ _ H2.out.2; have u5 := cell_of_row w2 _ 5 _ _ _ H2.out.2; have u6 := cell_of_row w2 _ 6 _ _ _ H2.out.2)
      | (go_at_call 9; refine (HB1.out _ H2.out.1).mono ?_; rintro e w9 ⟨rfl, hw9⟩; obtain rfl := hw9.symm)
      | (go_at_call 10; refine (HNW.out _ H2.out.1).mono ?_; rintro e w3 ⟨hg3, _, hm3⟩; obtain ⟨m, rfl, iv, nv, kv, bv, hM⟩ := hm3 HOK.out; have H3 := Lib.hid (H2.out.on hg3); have HG3 := Lib.hid (And.intro hg3 hM); clear hg3 hm3 hM; clear u0 u1 u2 u3 u4 u5 u6; have u0 := cell_of_row w3 _ 0 _ _ _ H3.out.2; have u1 := cell_of_row w3 _ 1 _ _ _ H3.out.2; have u2 := cell_of_row w3 _ 2 _ _ _ H3.out.2; have u3 := cell_of_row w3 _ 3 _ _ _ H3.out.2; have u4 := cell_of_row w3 _ 4 _ _ _ H3.out.2; have u5 := cell_of_row w3 _ 5 _ _ _ H3.out.2; have u6 := cell_of_row w3 _ 6 _ _ _ H3.out.2)
      | (go_at_call 11; refine (HCK.out _ H3.out.1).mono ?_; rintro e w4 ⟨rfl, hg4⟩; have HG4 := Lib.hid hg4; clear hg4; clear u0 u1 u2 u3 u4 u5 u6)
      | (go_at_call 12; refine (hnum _ _).mono ?_; rintro e w9 ⟨rfl, hw9⟩; obtain rfl := hw9.symm))
  have HS0 : Hid (w2.grownBy w4 none ∧ ∃ iv nv kv bv, MachR w2.heap.size w4 m c c.init iv nv kv bv) := Lib.hid ⟨HG3.out.1.trans HG4.out, _, _, _, _, HG3.out.2.on HG4.out⟩
  have HB2 := Lib.hid H2.out.2
  have HG2 := Lib.hid H2.out.1
  have hbl := gl H2.out.2
  have HBL := Lib.hid hbl
  clear HG3 HG4 H3 hbl
  go_loopw [9] (fun iv wr => ∃ t : Nat, t ≤ 2 ∧ iv = .int .i64 (t : Int) ∧ Hid (w2.grownBy wr none ∧ ∃ iv nv kv bv, MachR w2.heap.size wr m c c.init iv nv kv bv)) (fun i _ => 2 - (intOf i).toNat)
  case atStart => exact ⟨0, by omega, rfl, HS0⟩
  case round =>
    obtain ⟨rd, hrd, rfl, HT⟩ := hrel
    clear HS0
    by_cases hlt : rd < 2
    · have hrb := (HT.out.1.block _ HBL.out (by simp)).trans HB2.out
      have u0 := cell_of_row wr _ 0 _ _ _ hrb
      have u1 := cell_of_row wr _ 1 _ _ _ hrb
      have u2 := cell_of_row wr _ 2 _ _ _ hrb
      have u3 := cell_of_row wr _ 3 _ _ _ hrb
      have u4 := cell_of_row wr _ 4 _ _ _ hrb
      have u5 := cell_of_row wr _ 5 _ _ _ hrb
      have u6 := cell_of_row wr _ 6 _ _ _ hrb
      go_upto_region 14 with (go_at_call 13; refine (HRN.out _ _ HG2.out HT.out.1 HOK.out).mono ?_; rintro e w5 ⟨hg5, r, rfl, hR⟩; have H5 := Lib.hid (And.intro hg5 hR); clear hg5 hR)
      clear u0 u1 u2 u3 u4 u5 u6 hrb
      have HTS : Hid (∃ cm, Ts w2 w5 w2.heap.size m wr.heap.size r c cm cm []) := Lib.hid (by
        obtain ⟨hgr, iv2, nv2, kv2, bv2, hM⟩ := HT.out
        obtain ⟨ka', kc', ia', ic', ba', bc', cv, hR⟩ := H5.out.2
        have hml := gl hM.row
        have hmb := hR.mb.2
        have ym : ∀ {T : TypeId} {z n : Nat} {v : Value} {xs : List Value}, wr.ownsRow w2.heap.size T z v n xs → Apx [r] v := fun h => Apx.below h (fun j hj => .inr (by simp at hj; omega))
        exact ⟨c.init, iv2, nv2, kv2, bv2, ka', kc', ia', ic', ba', bc', cv, hgr.trans H5.out.1, hM.on H5.out.1, hR, by omega, Nat.le_refl _, ym hM.init, ym hM.now, ym hM.kinds, ym hM.body, Apx.below hR.now (fun j hj => .inl (by simp at hj; omega)), Apx.nil _, Apx.nil _, Apx.nil _, Apx.nil _, Apx.nil _, by simp, by simp, fun k hk => by cases hk⟩)
      clear H5 HT
      obtain ⟨wx, hwx⟩ : ∃ wx, wx = wr.heap.size := ⟨_, rfl⟩
      rw [← hwx] at HTS
      clear hwx
      go_wp2
      go_loopw [11] (fun iv wr => ∃ t : Nat, t ≤ N1 ∧ iv = .int .i64 (t : Int) ∧ Hid (∃ cm, Ts w2 wr w2.heap.size m wx r c cm cm [])) (fun i _ => N1 - (intOf i).toNat)
      case atStart => exact ⟨0, Nat.zero_le _, rfl, HTS⟩
      case round =>
        obtain ⟨t, ht, rfl, HT⟩ := hrel
        clear HTS
        obtain ⟨cm, hT⟩ := HT.out
        by_cases hlt2 : t < N1
        · obtain ⟨l, hx⟩ : ∃ l, L1[t]? = some l := ⟨_, List.getElem?_eq_getElem (by rw [HM.out.1]; exact hlt2)⟩
          obtain ⟨b1, e1, ra, rc, rfl, p, hnl, hll, hlm, hli⟩ := HA.out.2.1 t l hx
          have hl2 : l.length ≤ 2000 := HSM.out l (List.mem_of_getElem? hx)
          have hgw := HG2.out.trans hT.gw
          have p0 := hgw.cell p (by simp)
          have HNL := Lib.hid (And.intro (hnl.on hgw) (And.intro hl2 hT))
          have HL := Lib.hid (And.intro p (And.intro hnl (And.intro hlm hli)))
          obtain ⟨TT, hTT⟩ : ∃ TT, Ex.tickR c cm l = TT := ⟨_, rfl⟩
          obtain ⟨TO, TN, TE, TC⟩ := TT
          have HTT := Lib.hid hTT
          have hTL := Ex.tickR_len HOK.out cm l
          rw [hTT] at hTL
          simp only at hTL
          have HTL : Hid (TO.length ≤ maxLen) := Lib.hid (by unfold maxLen; omega)
          have HLL := Lib.hid hl2
          have nTO : TO.length ≤ 9223372036854775807 := by omega
          clear p hnl hll hlm hli hx hTT hT HT hgw hTL
          go_upto_region 20 with (first
            | (at_builtin; have q := HW1; refine wpList_plain rfl fun K' hK' => wp_app_one _ _ _ rfl wr.heap.size (Nat.le_trans HW1.out.2.size (World.grownBy_alloc W1 (.cells #[.int .i64 (-71)] 3) none).size) v1 l rfl (HW1.out.1.kept (World.grownBy_alloc W1 (.cells #[.int .i64 (-71)] 3) none) (by cases v1.ownBlock <;> simp)) W1.heap.size (-71) rfl (by rw [cell_of_row _ _ 0 _ _ _ (heap_alloc_new W1 _)]; rfl) (by have := HNL.out.2.1; omega) (fun v2 W2 hown2 hgr2 => hK' _ _ ?_); obtain ⟨g, c2, rfl, q3, q4, q5, q6⟩ := lent_own HW1.out.1 HW1.out.2 hown2 hgr2; have p1 := q3.cell p0 (by simp); have hsl := fun V => lent_of g l.length c2 (by omega) V; have HSL := Lib.hid hsl; have HLT := Lib.hid (And.intro q3 (And.intro q4 (And.intro q5 (And.intro q6 (HNL.out.2.2.on q3))))); clear q3 q4 q5 q6 hown2 hgr2)
            | (at_builtin; refine wpList_plain rfl fun K' hK' => wp_app_nums wr _ rfl wr.heap.size (Nat.le_refl _) ra rc l rfl HNL.out.1 (by have := HNL.out.2.1; omega) (fun v1 W1 hown hgr => hK' _ _ ?_); have pw := hgr.cell p0 (by simp); have HW1 := Lib.hid (And.intro hown hgr); clear hown hgr)
            | (go_at_call 14; refine (HLT.out.2.2.2.2.tick_m HOK.out HA.out.1 c2 HLT.out.2.2.2.1.left HL.out.2.2.1 HL.out.2.2.2).mono ?_; rintro e w6 ⟨hk6, va, hT6, rfl, hoa⟩; rw [HTT.out] at hT6 hoa ⊢; obtain ⟨aa, ca, rfl⟩ := own_form hoa; have p2 := hT6.gw.cell (HG2.out.cell HL.out.1 (by simp)) (by simp); have H6 := Lib.hid (And.intro hk6 (And.intro hT6 hoa)); clear hk6 hT6 hoa)
            | (go_at_call 15; refine (H6.out.2.1.tick_r HOK.out HA.out.1 rc (HL.out.2.1.on (HG2.out.trans H6.out.2.1.gw)) HL.out.2.2.1 HL.out.2.2.2).mono ?_; rintro e w7 ⟨hT7, hk7, vb, rfl, hob⟩; rw [HTT.out] at hT7 hob ⊢; obtain ⟨ab, cb, rfl⟩ := own_form hob; have p3 := hT7.gw.cell (HG2.out.cell HL.out.1 (by simp)) (by simp); have H7 := Lib.hid (And.intro hk7 (And.intro hT7 hob)); clear hk7 hT7 hob))
          clear p0 p1 p2 hsl
          skip
          obtain ⟨X, hX⟩ : ∃ X, X = (Value.slice aa TO.length ca).ownBlock.toList := ⟨_, rfl⟩
          have HX := Lib.hid hX
          have h7 : Ts w2 w7 w2.heap.size m wx r c TC TC (Value.slice aa TO.length ca).ownBlock.toList := H7.out.2.1
          rw [← hX] at h7
          have HT7 := Lib.hid h7
          clear hX
          obtain ⟨iv, nv, kv, bv, ka', kc', ia', ic', ba', bc', cv, hTR⟩ := h7
          obtain ⟨av, cvc, rfl, hnv⟩ := NumsAt.own hTR.R.now
          have hrlt : r < w6.heap.size := H6.out.2.1.rlt.2
          have hTCl : TC.length ≤ 8000 := by have h1 := hTR.M.cl; have h2 := Ex.ok_parts HOK.out; omega
          have hoa7 : w7.ownsRow W2.heap.size 3 1 (.slice aa TO.length ca) TO.length (ints TO) := owns_on H6.out.2.2 (fun j e => H7.out.1.block j (H6.out.2.2.lt j e).2 (by have h9 := (H6.out.2.2.lt j e).1; have h8 := HLT.out.2.2.2.2.rlt; simp; omega))
          obtain ⟨_, _, ea, hna⟩ := NumsAt.own hoa7
          cases ea
          obtain ⟨_, _, eb, hnb⟩ := NumsAt.own H7.out.2.2
          cases eb
          have hnl7 : NumsAt w7 (some ⟨g, 0, none⟩) (l ++ [-71]) := fun i n hi => by
            obtain ⟨b, o, e, hc⟩ := HLT.out.2.2.2.1 i n hi
            cases e
            have hgl := HNL.out.2.2.rlt
            have hwr := HLT.out.2.1
            have hml := H7.out.1.size
            exact ⟨g, 0, rfl, H7.out.1.cell (H6.out.1.cell hc (by simp; omega)) (by simp; omega)⟩
          have hnr7 := HL.out.2.1.on (HG2.out.trans HT7.out.gw)
          have hcv := cell_of_row w7 r 7 _ _ _ hTR.R.row
          have hle := hnl7.end_
          have HN7 := Lib.hid (And.intro hna (And.intro hnb (And.intro hnl7 (And.intro hnr7 (And.intro hnv (And.intro hTR.M hTCl))))))
          have HTh := Lib.hid hoa7
          clear hna hnb hnl7 hnr7 hnv hTR hTCl hoa7 hrlt
          refine wp_region_L (S := fun V' => w7.grownBy V' none) (Z := []) (by kernel_rfl) ?_
          refine wpL_as (fun V hV => ?_)
          have hS : w7.grownBy V none := by rw [hV]; exact ⟨rfl, rfl, rfl, Nat.le_refl _, fun _ _ _ => rfl⟩
          clear hV
          (try simp only [Act.put, sA, sB, sC])
          refine t1 0 102 (.int .i64 TE) hS ?_
          (try simp only [Act.put, sA, sB, sC])
          refine t1 2 104 (.int .i64 TE) hS ?_
          (try simp only [Act.put, sA, sB, sC])
          refine wpL_call (i := 1) (d := 103) (R := fun v V' => v = .int .i64 TE ∧ w7.grownBy V' none) (by kernel_rfl) rfl rfl (by kernel_rfl) (by kernel_rfl) ((hnum TE V).mono fun e w' he => ⟨_, he.1, rfl, by rw [he.2]; exact hS⟩) (fun v V h => h.2) (fun v V1 hR => ?_)
          obtain ⟨rfl, hS2⟩ := hR
          have hS := hS2
          clear hS2
          (try simp only [Act.put, sA, sB, sC])
          refine t2 3 105 (.bool false) (fun w' hw' => ?_) hS ?_
          · clear hw'; go_simp
          (try simp only [Act.put, sA, sB, sC])
          refine t1 4 106 (.bool false) hS ?_
          (try simp only [Act.put, sA, sB, sC])
          refine t1 5 107 (.int .i64 (TN : Int)) hS ?_
          (try simp only [Act.put, sA, sB, sC])
          refine t1 6 108 (.int .i64 (TN : Int)) hS ?_
          (try simp only [Act.put, sA, sB, sC])
          refine t2 7 109 (.bool false) (fun w' hw' => ?_) hS ?_
          · clear hw'; go_simp
          (try simp only [Act.put, sA, sB, sC])
          refine t1 8 110 (.bool false) hS ?_
          (try simp only [Act.put, sA, sB, sC])
          refine t1 9 111 (.bool false) hS ?_
          (try simp only [Act.put, sA, sB, sC])
          refine t1 10 112 (.slice aa TO.length ca) hS ?_
          (try simp only [Act.put, sA, sB, sC])
          refine t1 11 113 (.slice ab TO.length cb) hS ?_
          (try simp only [Act.put, sA, sB, sC])
          refine wpL_call (i := 12) (d := 114) (R := fun v V' => v = .bool true ∧ w7.grownBy V' none) (by kernel_rfl) rfl rfl (by kernel_rfl) (by kernel_rfl) ((same21_yes V1 TO aa ab ca cb (HN7.out.1.on hS) (HN7.out.2.1.on hS) HTL.out).mono fun e w' he => ⟨_, he.1, rfl, hS.trans he.2⟩) (fun v V h => h.2) (fun v V2 hR => ?_)
          obtain ⟨rfl, hS2⟩ := hR
          have hS := hS2
          clear hS2
          (try simp only [Act.put, sA, sB, sC])
          refine t1 13 115 (.bool false) hS ?_
          (try simp only [Act.put, sA, sB, sC])
          refine t1 14 116 (.bool false) hS ?_
          (try simp only [Act.put, sA, sB, sC])
          refine t1 15 117 (.bool false) hS ?_
          (try simp only [Act.put, sA, sB, sC])
          refine t1 16 118 (.pointer (some ⟨m, 0, none⟩)) hS ?_
          (try simp only [Act.put, sA, sB, sC])
          refine t1 18 120 (.pointer (some ⟨r, 0, none⟩)) hS ?_
          (try simp only [Act.put, sA, sB, sC])
          refine t1 19 121 (.pointer (some ⟨r, 0, none⟩)) hS ?_
          (try simp only [Act.put, sA, sB, sC])
          refine t1 20 122 (.pointer (some ⟨r, 7, none⟩)) hS ?_
          (try simp only [Act.put, sA, sB, sC])
          refine t2 21 123 (.slice av TC.length cvc) (fun w' hw' => ?_) hS ?_
          · have hc := hw'.cell hcv (by simp); clear hw'; go_simp
          (try simp only [Act.put, sA, sB, sC])
          refine wpL_call (i := 17) (d := 119) (R := fun v V' => (∃ ac cc, v = .slice ac TC.length cc ∧ NumsAt V' ac TC) ∧ w7.grownBy V' none) (by kernel_rfl) rfl rfl (by kernel_rfl) (by kernel_rfl) ((xcells_any (HN7.out.2.2.2.2.2.1.on hS) (by have := HN7.out.2.2.2.2.2.2; omega)).mono fun e w' he => by obtain ⟨v, h1, h2, h3⟩ := he; obtain ⟨a', c', e', h4⟩ := NumsAt.own h2; exact ⟨v, h1, ⟨a', c', e', h4⟩, hS.trans h3⟩) (fun v V h => h.2) (fun v V3 hR => ?_)
          obtain ⟨⟨ac, cc, rfl, hnc⟩, hS2⟩ := hR
          have hS := hS2
          clear hS2
          (try simp only [Act.put, sA, sB, sC])
          refine wpL_call (i := 22) (d := 124) (R := fun v V' => v = .bool true ∧ w7.grownBy V' none) (by kernel_rfl) rfl rfl (by kernel_rfl) (by kernel_rfl) ((same21_yes V3 TC ac av cc cvc hnc (HN7.out.2.2.2.2.1.on hS) (by have := HN7.out.2.2.2.2.2.2; unfold maxLen; omega)).mono fun e w' he => ⟨_, he.1, rfl, hS.trans he.2⟩) (fun v V h => h.2) (fun v V4 hR => ?_)
          obtain ⟨rfl, hS2⟩ := hR
          have hS := hS2
          clear hS2
          (try simp only [Act.put, sA, sB, sC])
          refine t1 23 125 (.bool false) hS ?_
          (try simp only [Act.put, sA, sB, sC])
          refine t1 24 126 (.bool false) hS ?_
          (try simp only [Act.put, sA, sB, sC])
          refine t1 25 127 (.bool false) hS ?_
          (try simp only [Act.put, sA, sB, sC])
          refine t1 26 128 (.slice (some ⟨g, 0, none⟩) (l.length + 1) c2) hS ?_
          (try simp only [Act.put, sA, sB, sC])
          refine t1 27 129 (.slice (some ⟨b1, e1, none⟩) N1 c1) hS ?_
          (try simp only [Act.put, sA, sB, sC])
          refine t1 28 130 (.int .i64 (t : Int)) hS ?_
          (try simp only [Act.put, sA, sB, sC])
          refine t2 29 131 (.pointer (some ⟨b1, e1 + t, none⟩)) (fun w' hw' => ?_) hS ?_
          · clear hw'; go_simp
          (try simp only [Act.put, sA, sB, sC])
          refine t2 30 132 (.slice ra l.length rc) (fun w' hw' => ?_) hS ?_
          · have hc := hw'.cell p3 (by simp); clear hw'; go_simp
          (try simp only [Act.put, sA, sB, sC])
          refine t2 31 133 (.int .i64 (l.length : Int)) (fun w' hw' => ?_) hS ?_
          · clear hw'; go_simp
          (try simp only [Act.put, sA, sB, sC])
          refine t2 32 134 (.slice (some ⟨g, 0, none⟩) l.length c2) (fun w' hw' => ?_) hS ?_
          · have hq := HSL.out w'; clear hw'; go_simp
          (try simp only [Act.put, sA, sB, sC])
          refine t1 33 135 (.slice (some ⟨b1, e1, none⟩) N1 c1) hS ?_
          (try simp only [Act.put, sA, sB, sC])
          refine t1 34 136 (.int .i64 (t : Int)) hS ?_
          (try simp only [Act.put, sA, sB, sC])
          refine t2 35 137 (.pointer (some ⟨b1, e1 + t, none⟩)) (fun w' hw' => ?_) hS ?_
          · clear hw'; go_simp
          (try simp only [Act.put, sA, sB, sC])
          refine t2 36 138 (.slice ra l.length rc) (fun w' hw' => ?_) hS ?_
          · have hc := hw'.cell p3 (by simp); clear hw'; go_simp
          (try simp only [Act.put, sA, sB, sC])
          refine wpL_call (i := 37) (d := 139) (R := fun v V' => v = .bool true ∧ w7.grownBy V' none) (by kernel_rfl) rfl rfl (by kernel_rfl) (by kernel_rfl) ((same21_yes V4 l (some ⟨g, 0, none⟩) ra c2 rc (HN7.out.2.2.1.left.on hS) (HN7.out.2.2.2.1.on hS) HL.out.2.2.1).mono fun e w' he => ⟨_, he.1, rfl, hS.trans he.2⟩) (fun v V h => h.2) (fun v V5 hR => ?_)
          obtain ⟨rfl, hS2⟩ := hR
          have hS := hS2
          clear hS2
          (try simp only [Act.put, sA, sB, sC])
          refine t1 38 140 (.bool false) hS ?_
          (try simp only [Act.put, sA, sB, sC])
          refine t1 39 141 (.bool false) hS ?_
          (try simp only [Act.put, sA, sB, sC])
          refine t1 40 142 (.bool false) hS ?_
          (try simp only [Act.put, sA, sB, sC])
          refine t1 41 143 (.slice (some ⟨g, 0, none⟩) (l.length + 1) c2) hS ?_
          (try simp only [Act.put, sA, sB, sC])
          refine t1 42 144 (.slice (some ⟨b1, e1, none⟩) N1 c1) hS ?_
          (try simp only [Act.put, sA, sB, sC])
          refine t1 43 145 (.int .i64 (t : Int)) hS ?_
          (try simp only [Act.put, sA, sB, sC])
          refine t2 44 146 (.pointer (some ⟨b1, e1 + t, none⟩)) (fun w' hw' => ?_) hS ?_
          · clear hw'; go_simp
          (try simp only [Act.put, sA, sB, sC])
          refine t2 45 147 (.slice ra l.length rc) (fun w' hw' => ?_) hS ?_
          · have hc := hw'.cell p3 (by simp); clear hw'; go_simp
          (try simp only [Act.put, sA, sB, sC])
          refine t2 46 148 (.int .i64 (l.length : Int)) (fun w' hw' => ?_) hS ?_
          · clear hw'; go_simp
          (try simp only [Act.put, sA, sB, sC])
          refine t2 47 149 (.pointer (some ⟨g, l.length, none⟩)) (fun w' hw' => ?_) hS ?_
          · clear hw'; go_simp; (intro h10; omega)
          (try simp only [Act.put, sA, sB, sC])
          refine t2 48 150 (.int .i64 (-71)) (fun w' hw' => ?_) hS ?_
          · have hc := hw'.cell hle (by simp); clear hw'; go_simp
          (try simp only [Act.put, sA, sB, sC])
          refine t2 49 151 (.bool false) (fun w' hw' => ?_) hS ?_
          · clear hw'; go_simp
          (try simp only [Act.put, sA, sB, sC])
          refine t1 50 152 (.bool false) hS ?_
          (try simp only [Act.put, sA, sB, sC])
          refine wpL_done (by kernel_rfl) ?_ _
          clear hcv hle p3
          have HT8 := Lib.hid (HT7.out.on hS)
          have HTH8 : Hid (Thr V5 aa TO.length) := Lib.hid (thr_own (HTh.out.kept hS (by cases (Value.slice aa TO.length ca).ownBlock <;> simp)))
          go_wp2
          go_loopw [19] (fun iv wr => ∃ j : Nat, j ≤ TO.length ∧ iv = .int .i64 (j : Int) ∧ Hid (Kp X V5 wr ∧ Thr wr aa TO.length)) (fun i _ => TO.length - (intOf i).toNat)
          case atStart => exact ⟨0, Nat.zero_le _, rfl, Lib.hid ⟨Kp.refl _ _, HTH8.out⟩⟩
          case round =>
            obtain ⟨j, hj, rfl, HJ⟩ := hrel
            by_cases hlt3 : j < TO.length
            · obtain ⟨g6, rfl, v0, k0, f0⟩ := HJ.out.2 j hlt3
              have hg9 : g6 ∈ X := by rw [HX.out]; simp [Value.ownBlock]
              go_wp2
              exact ⟨⟨j + 1, by omega, by go_num, Lib.hid ⟨HJ.out.1.set hg9 _, HJ.out.2.set _⟩⟩, by simp [intOf]; omega⟩
            · obtain rfl : TO.length = j := by omega
              go_wp2
              exact ⟨⟨t + 1, by omega, by go_num, Lib.hid ⟨_, (HT8.out.kp HJ.out.1).nil⟩⟩, by simp [intOf]; omega⟩
        · obtain rfl : N1 = t := by omega
          obtain ⟨iv, nv, kv, bv, _, _, _, _, _, _, _, hTR⟩ := hT
          obtain ⟨a5, k5, rfl⟩ := own_form hTR.M.init
          have hrs := xreset_any hTR.M.row rfl rfl
          have hM2 := hTR.M.reset HOK.out HA.out.1
          have hg2 : w2.grownBy (wr.setCell ⟨m, 1, none⟩ (.slice a5 c.init.length k5)) none := Kp.grown hTR.gw (kp_set wr m 1 _) (fun k hk => by simp at hk; have := hTR.M.mb; omega)
          obtain ⟨W8, hW8⟩ : ∃ W8, W8 = wr.setCell ⟨m, 1, none⟩ (.slice a5 c.init.length k5) := ⟨_, rfl⟩
          rw [← hW8] at hM2 hg2 hrs
          have HM2 := Lib.hid (And.intro hM2 hg2)
          have hrb := (hg2.block _ HBL.out (by simp)).trans HB2.out
          have u5 := cell_of_row W8 _ 5 _ _ _ hrb
          clear hM2 hg2 hTR HT hW8 hrb
          go_upto_region 27 with (go_at_call 18; refine hrs.mono ?_; rintro e w9 ⟨rfl, hw9⟩; obtain rfl := hw9.symm)
          clear hrs
          refine wp_region_L (S := fun V' => W8.grownBy V' none) (Z := []) (by kernel_rfl) ?_
          refine wpL_as (fun V hV => ?_)
          have hS : W8.grownBy V none := by rw [hV]; exact ⟨rfl, rfl, rfl, Nat.le_refl _, fun _ _ _ => rfl⟩
          clear hV
          (try simp only [Act.put, sA, sB, sC])
          refine t1 0 164 (.pointer (some ⟨m, 0, none⟩)) hS ?_
          (try simp only [Act.put, sA, sB, sC])
          refine t2 2 166 (.pointer (some ⟨w.heap.size, 5, none⟩)) (fun w' hw' => ?_) hS ?_
          · clear hw'; go_simp
          (try simp only [Act.put, sA, sB, sC])
          refine t2 3 167 (.slice ia ni ic) (fun w' hw' => ?_) hS ?_
          · have hc := hw'.cell u5 (by simp); clear hw'; go_simp
          (try simp only [Act.put, sA, sB, sC])
          refine wpL_call (i := 1) (d := 165) (R := fun v V' => (∃ ac cc, v = .slice ac ni cc ∧ NumsAt V' ac c.init) ∧ W8.grownBy V' none) (by kernel_rfl) rfl rfl (by kernel_rfl) (by kernel_rfl) ((xcells_any (HM2.out.1.on hS) (by have := Ex.ok_parts HOK.out; omega)).mono fun e w' he => by obtain ⟨v, h1, h2, h3⟩ := he; obtain ⟨a', c', e', h4⟩ := NumsAt.own h2; exact ⟨v, h1, ⟨a', c', by rw [e', HM.out.2.2], h4⟩, hS.trans h3⟩) (fun v V h => h.2) (fun v V1 hR => ?_)
          obtain ⟨⟨ac, cc, rfl, hnc⟩, hS2⟩ := hR
          have hS := hS2
          clear hS2
          have hsm := same21_yes V1 c.init ac ia cc ic hnc (HA.out.2.2.2.init.on (HG2.out.trans (HM2.out.2.trans hS))) (by have := Ex.ok_parts HOK.out; unfold maxLen; omega)
          rw [HM.out.2.2] at hsm
          (try simp only [Act.put, sA, sB, sC])
          refine wpL_call (i := 4) (d := 168) (R := fun v V' => v = .bool true ∧ W8.grownBy V' none) (by kernel_rfl) rfl rfl (by kernel_rfl) (by kernel_rfl) (hsm.mono fun e w' he => ⟨_, he.1, rfl, hS.trans he.2⟩) (fun v V h => h.2) (fun v V2 hR => ?_)
          obtain ⟨rfl, hS2⟩ := hR
          have hS := hS2
          clear hS2
          (try simp only [Act.put, sA, sB, sC])
          refine t1 5 169 (.bool false) hS ?_
          (try simp only [Act.put, sA, sB, sC])
          refine wpL_done (by kernel_rfl) ?_ _
          have HF := Lib.hid hS
          clear u5 hsm hnc hS
          go_wp2
          exact ⟨⟨rd + 1, by omega, by go_num, Lib.hid ⟨HM2.out.2.trans HF.out, _, _, _, _, HM2.out.1.on HF.out⟩⟩, by simp [intOf]; omega⟩
    · obtain rfl : rd = 2 := by omega
      have HF := Lib.hid (HG2.out.trans HT.out.1)
      clear HT
      go_wp2
      go_ret
      exact ⟨rfl, HF.out⟩

theorem execTicks_run (w : World) (c : Cd.Code) (ka : Option Addr) (kc : Nat) (ia : Option Addr) (ic : Nat) (ba : Option Addr) (bc : Nat) (a1 : Option Addr) (L1 : List (List Int)) (c1 : Nat) (hc : CodeAt w c ka ia ba) (hs : I64s c) (hkc : c.kinds.length ≤ kc) (h1 : RowsAt w a1 L1) (m1 : L1.length ≤ maxLen) (hb : ∀ l ∈ L1, l.length ≤ 1048576) :
    Calls Tryz.prog 3 #[.agg (codeV c ka kc ia ic ba bc), .slice a1 L1.length c1] w fun e w' => e = .returned (.bool true) ∧ w.grownBy w' none := by
  rcases Bool.eq_false_or_eq_true (bigB21 c) with q0 | q0
  · exact xtic_e0 w c ka kc ia ic ba bc a1 L1 c1 hc hs hkc h1 m1 q0
  rcases Bool.eq_false_or_eq_true (bigR L1) with q1 | q1
  · exact xtic_e1 w c ka kc ia ic ba bc a1 L1 c1 hc hs hkc h1 m1 q0 q1
  rcases Nat.lt_or_ge 30 L1.length with l1 | l1
  · exact xtic_e2 w c ka kc ia ic ba bc a1 L1 c1 hc hs hkc h1 m1 q0 q1 l1
  by_cases hr : Cd.check c = 0
  · exact xtic_main w c ka kc ia ic ba bc a1 L1 c1 hc hs hkc h1 m1 q0 q1 l1 hr (bg_rows L1 0 (by decide) (by decide) hb (by have := of_decide_eq_false q1; omega))
  · exact xtic_e3 w c ka kc ia ic ba bc a1 L1 c1 hc hs hkc h1 m1 q0 q1 l1 hr
end Go.Proofs.YtlppifnepckpiaaGreat
