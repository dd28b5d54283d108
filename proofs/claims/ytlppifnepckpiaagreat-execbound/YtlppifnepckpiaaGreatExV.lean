/- Stage 21: ExecBound: emit.Most, the walk (written by mkexv.py). -/
import Derived.Test.YtlppifnepckpiaaGreatExO
import Derived.Test.YtlppifnepckpiaaGreatExU
namespace Go.Proofs.YtlppifnepckpiaaGreat
open Go.RowKit Go.Maps Go.WideMaps

set_option maxHeartbeats 4000000 in
set_option maxRecDepth 100000 in
theorem emost_any (w : World) (c : Cd.Code) (ka : Option Addr) (kc : Nat) (ia : Option Addr) (ic : Nat) (ba : Option Addr) (bc : Nat) (hc : CodeAt w c ka ia ba) (h64 : I64s c) (hkc : c.kinds.length ≤ kc) (hok : Cd.check c = 0) :
    Calls Tryz.prog 24 #[.agg (codeV c ka kc ia ic ba bc)] w fun e w' => ∃ most : Int, e = .returned (.tuple #[.int .i64 most, .int .i64 0]) ∧ Ex.Longest c most ∧ w.grownBy w' none := by
  have hck := fun V (hg : w.grownBy V none) => ccheck_any V c ka kc ia ic ba bc (hc.on hg) h64 hkc
  have hlg := fun V (hg : w.grownBy V none) => longest_any V c ba bc ((hc.on hg).body) hok h64
  rw [hok] at hck
  have hg0 := World.grownBy_alloc w (.cells (codeV c ka kc ia ic ba bc) 25) none
  have hr0 := heap_alloc_new w (.cells (codeV c ka kc ia ic ba bc) 25)
  have H0 : Hid (Bw w w.heap.size (codeV c ka kc ia ic ba bc) (w.alloc (.cells (codeV c ka kc ia ic ba bc) 25))) := Lib.hid ⟨hg0, hr0⟩
  have HCK := Lib.hid hck
  have HLG := Lib.hid hlg
  clear hck hlg hc h64 hkc hok hg0 hr0
  unfold codeV at HCK H0 ⊢
  generalize c.kinds.length = nk at *
  generalize c.init.length = ni at *
  generalize c.body.length = nb at *
  generalize c.ins = x1 at *
  generalize c.outs = x2 at *
  generalize c.cells = x3 at *
  generalize c.stack = x4 at *
  go_enter Tryz.func24, Tryz.ntmps24
  go_wp2_with (first
    | (go_at_call 26; refine (HCK.out _ H0.out.1).mono ?_; rintro e w1 ⟨rfl, hg1⟩; have H1 := Lib.hid (H0.out.on hg1); clear hg1; have u6 := cell_of_row w1 _ 6 _ _ _ H1.out.2)
    | (go_at_call 42; refine (HLG.out _ H1.out.1).mono ?_; rintro e w2 ⟨most, rfl, hL, hg2⟩; have H2 := Lib.hid (And.intro hL (H1.out.1.trans hg2)); clear hL hg2))
  go_ret2
  exact ⟨most, rfl, H2.out⟩

/-- what a tick tells is within the bound -/
theorem Ex.tickR_most {c : Cd.Code} {most : Int} (hok : Cd.check c = 0) (hd : Ex.Longest c most) {cells ins : List Int} (hc : (cells.length : Int) = c.cells) :
    ((Ex.tickR c cells ins).2.2.1 = 0 ∧ 1 ≤ (Ex.tickR c cells ins).2.1 ∧ ((Ex.tickR c cells ins).2.1 : Int) ≤ most) ∨ ((Ex.tickR c cells ins).2.2.1 ≠ 0 ∧ (Ex.tickR c cells ins).2.1 = 0) := by
  unfold Ex.tickR
  split
  · rename_i h
    refine .inl ⟨rfl, Ex.tick_most hok hd ?_ hc⟩
    unfold Ex.refuse at h
    split at h
    · omega
    · rename_i h1
      exact Decidable.not_not.1 h1
  · rename_i h
    exact .inr ⟨h, rfl⟩

set_option maxHeartbeats 8000000 in
set_option maxRecDepth 100000 in
theorem xbnd_e0 (w : World) (c : Cd.Code) (ka : Option Addr) (kc : Nat) (ia : Option Addr) (ic : Nat) (ba : Option Addr) (bc : Nat) (a1 : Option Addr) (L1 : List (List Int)) (c1 : Nat) (hc : CodeAt w c ka ia ba) (hs : I64s c) (hkc : c.kinds.length ≤ kc) (h1 : RowsAt w a1 L1) (m1 : L1.length ≤ maxLen) (hq0 : bigB21 c = true) : Calls Tryz.prog 5 #[.agg (codeV c ka kc ia ic ba bc), .slice a1 L1.length c1] w fun e w' => e = .returned (.bool true) ∧ w.grownBy w' none := by
  have hal := fun V => alive21_any V
  have hbig := fun V => xbig19_any V c ka kc ia ic ba bc ⟨hs.2.2.2.2.2.2.2.1, hs.2.2.2.2.2.2.2.2.1, hs.2.2.2.2.2.2.2.2.2⟩
  have HB1 := Lib.hid (fun V (hg : w.grownBy V none) => big11_any V a1 L1 c1 (h1.on hg) m1)
  have HCK := Lib.hid (fun V (hg : w.grownBy V none) => rcheck_any V c ka kc ia ic ba bc (hc.on hg) hs)
  have HNW := Lib.hid (fun V (hg : w.grownBy V none) => new_any V c ka kc ia ic ba bc (hc.on hg) hs hkc)
  have HMO := Lib.hid (fun V (hg : w.grownBy V none) (hok : Cd.check c = 0) => emost_any V c ka kc ia ic ba bc (hc.on hg) hs hkc hok)
  have hnum := fun k V => num21_any k V
  have hg0 := World.grownBy_alloc w (.cells (codeV c ka kc ia ic ba bc) 25) none
  have hr0 := heap_alloc_new w (.cells (codeV c ka kc ia ic ba bc) 25)
  have H0 : Hid (Bw w w.heap.size (codeV c ka kc ia ic ba bc) (w.alloc (.cells (codeV c ka kc ia ic ba bc) 25))) := Lib.hid ⟨hg0, hr0⟩
  clear hg0 hr0
  have HA := Lib.hid (And.intro hs (And.intro h1 m1))
  have n1 : L1.length ≤ 9223372036854775807 := by simpa [maxLen] using m1
  clear hc hs hkc h1 m1
  obtain ⟨nk, hnk⟩ : ∃ n, c.kinds.length = n := ⟨_, rfl⟩
  obtain ⟨ni, hni⟩ : ∃ n, c.init.length = n := ⟨_, rfl⟩
  obtain ⟨nb, hnb⟩ : ∃ n, c.body.length = n := ⟨_, rfl⟩
  obtain ⟨x1, hx1⟩ : ∃ n, c.ins = n := ⟨_, rfl⟩
  obtain ⟨x2, hx2⟩ : ∃ n, c.outs = n := ⟨_, rfl⟩
  obtain ⟨x3, hx3⟩ : ∃ n, c.cells = n := ⟨_, rfl⟩
  obtain ⟨x4, hx4⟩ : ∃ n, c.stack = n := ⟨_, rfl⟩
  obtain ⟨N1, hN1⟩ : ∃ n, L1.length = n := ⟨_, rfl⟩
  obtain ⟨R, hR⟩ : ∃ n, Cd.check c = n := ⟨_, rfl⟩
  obtain ⟨B0, hB0⟩ : ∃ n, bigB21 c = n := ⟨_, rfl⟩
  obtain ⟨B1, hB1⟩ : ∃ n, bigR L1 = n := ⟨_, rfl⟩
  unfold codeV at hbig HCK HNW HMO H0 ⊢
  simp only [hnk, hni, hnb, hx1, hx2, hx3, hx4, hB0] at hbig
  simp only [hnk, hni, hnb, hx1, hx2, hx3, hx4, hR] at HCK
  simp only [hnk, hni, hnb, hx1, hx2, hx3, hx4] at H0 HNW HMO
  simp only [hN1, hB1] at HB1
  simp only [hnk, hni, hnb, hx1, hx2, hx3, hx4, hN1]
  rw [hN1] at n1
  have HM := Lib.hid (And.intro hN1 hR)
  have HQ := Lib.hid (And.intro hB0 hB1)
  clear hnk hni hnb hx1 hx2 hx3 hx4 hN1 hR hB0 hB1
  have hB0 : B0 = true := HQ.out.1.symm.trans hq0
  subst hB0
  clear hq0
  go_enter Tryz.func5, Tryz.ntmps5
  go_wp2_with (first
      | (go_at_call 7; refine (hal _).mono ?_; rintro e w1 ⟨rfl, hg1⟩; have H1 := Lib.hid (H0.out.on hg1); clear hg1; have u0 := cell_of_row w1 _ 0 _ _ _ H1.out.2; have u1 := cell_of_row w1 _ 1 _ _ _ H1.out.2; have u2 := cell_of_row w1 _ 2 _ _ _ H1.out.2; have u3 := cell_of_row w1 _ 3 _ _ _ H1.out.2; have u4 := cell_of_row w1 _ 4 _ _ _ H1.out.2; have u5 := cell_of_row w1 _ 5 _ _ _ H1.out.2; have u6 := cell_of_row w1 _ 6 _ _ _ H1.out.2)
      | (go_at_call 8; refine (hbig _).mono ?_; rintro e w2 ⟨rfl, hg2⟩; have H2 := Lib.hid (H1.out.on hg2); clear hg2; clear u0 u1 u2 u3 u4 u5 u6; have u0 := cell_of_row w2 _ 0 _ _ _ H2.out.2; have u1 := cell_of_row w2 _ 1 _ _ _ H2.out.2; have u2 := cell_of_row w2 _ 2 _ _ _ H2.out.2; have u3 := cell_of_row w2 _ 3 _ _ _ H2.out.2; have u4 := cell_of_row w2 _ 4 _ _ _ H2.out.2; have u5 := cell_of_row w2 _ 5 _ _ _ H2.out.2; have u6 := cell_of_row w2 _ 6 _ _ _ H2.out.2)
      | (go_at_call 9; refine (HB1.out _ H2.out.1).mono ?_; rintro e w9 ⟨rfl, hw9⟩; obtain rfl := hw9.symm)
      | (go_at_call 11; refine (HCK.out _ H2.out.1).mono ?_; rintro e w3 ⟨rfl, hg3⟩; have H3 := Lib.hid (H2.out.on hg3); clear hg3; clear u0 u1 u2 u3 u4 u5 u6; have u0 := cell_of_row w3 _ 0 _ _ _ H3.out.2; have u1 := cell_of_row w3 _ 1 _ _ _ H3.out.2; have u2 := cell_of_row w3 _ 2 _ _ _ H3.out.2; have u3 := cell_of_row w3 _ 3 _ _ _ H3.out.2; have u4 := cell_of_row w3 _ 4 _ _ _ H3.out.2; have u5 := cell_of_row w3 _ 5 _ _ _ H3.out.2; have u6 := cell_of_row w3 _ 6 _ _ _ H3.out.2))
  go_ret
  exact ⟨rfl, H2.out.1⟩

set_option maxHeartbeats 8000000 in
set_option maxRecDepth 100000 in
theorem xbnd_e1 (w : World) (c : Cd.Code) (ka : Option Addr) (kc : Nat) (ia : Option Addr) (ic : Nat) (ba : Option Addr) (bc : Nat) (a1 : Option Addr) (L1 : List (List Int)) (c1 : Nat) (hc : CodeAt w c ka ia ba) (hs : I64s c) (hkc : c.kinds.length ≤ kc) (h1 : RowsAt w a1 L1) (m1 : L1.length ≤ maxLen) (hq0 : bigB21 c = false) (hq1 : bigR L1 = true) : Calls Tryz.prog 5 #[.agg (codeV c ka kc ia ic ba bc), .slice a1 L1.length c1] w fun e w' => e = .returned (.bool true) ∧ w.grownBy w' none := by
  have hal := fun V => alive21_any V
  have hbig := fun V => xbig19_any V c ka kc ia ic ba bc ⟨hs.2.2.2.2.2.2.2.1, hs.2.2.2.2.2.2.2.2.1, hs.2.2.2.2.2.2.2.2.2⟩
  have HB1 := Lib.hid (fun V (hg : w.grownBy V none) => big11_any V a1 L1 c1 (h1.on hg) m1)
  have HCK := Lib.hid (fun V (hg : w.grownBy V none) => rcheck_any V c ka kc ia ic ba bc (hc.on hg) hs)
  have HNW := Lib.hid (fun V (hg : w.grownBy V none) => new_any V c ka kc ia ic ba bc (hc.on hg) hs hkc)
  have HMO := Lib.hid (fun V (hg : w.grownBy V none) (hok : Cd.check c = 0) => emost_any V c ka kc ia ic ba bc (hc.on hg) hs hkc hok)
  have hnum := fun k V => num21_any k V
  have hg0 := World.grownBy_alloc w (.cells (codeV c ka kc ia ic ba bc) 25) none
  have hr0 := heap_alloc_new w (.cells (codeV c ka kc ia ic ba bc) 25)
  have H0 : Hid (Bw w w.heap.size (codeV c ka kc ia ic ba bc) (w.alloc (.cells (codeV c ka kc ia ic ba bc) 25))) := Lib.hid ⟨hg0, hr0⟩
  clear hg0 hr0
  have HA := Lib.hid (And.intro hs (And.intro h1 m1))
  have n1 : L1.length ≤ 9223372036854775807 := by simpa [maxLen] using m1
  clear hc hs hkc h1 m1
  obtain ⟨nk, hnk⟩ : ∃ n, c.kinds.length = n := ⟨_, rfl⟩
  obtain ⟨ni, hni⟩ : ∃ n, c.init.length = n := ⟨_, rfl⟩
  obtain ⟨nb, hnb⟩ : ∃ n, c.body.length = n := ⟨_, rfl⟩
  obtain ⟨x1, hx1⟩ : ∃ n, c.ins = n := ⟨_, rfl⟩
  obtain ⟨x2, hx2⟩ : ∃ n, c.outs = n := ⟨_, rfl⟩
  obtain ⟨x3, hx3⟩ : ∃ n, c.cells = n := ⟨_, rfl⟩
  obtain ⟨x4, hx4⟩ : ∃ n, c.stack = n := ⟨_, rfl⟩
  obtain ⟨N1, hN1⟩ : ∃ n, L1.length = n := ⟨_, rfl⟩
  obtain ⟨R, hR⟩ : ∃ n, Cd.check c = n := ⟨_, rfl⟩
  obtain ⟨B0, hB0⟩ : ∃ n, bigB21 c = n := ⟨_, rfl⟩
  obtain ⟨B1, hB1⟩ : ∃ n, bigR L1 = n := ⟨_, rfl⟩
  unfold codeV at hbig HCK HNW HMO H0 ⊢
  simp only [hnk, hni, hnb, hx1, hx2, hx3, hx4, hB0] at hbig
  simp only [hnk, hni, hnb, hx1, hx2, hx3, hx4, hR] at HCK
  simp only [hnk, hni, hnb, hx1, hx2, hx3, hx4] at H0 HNW HMO
  simp only [hN1, hB1] at HB1
  simp only [hnk, hni, hnb, hx1, hx2, hx3, hx4, hN1]
  rw [hN1] at n1
  have HM := Lib.hid (And.intro hN1 hR)
  have HQ := Lib.hid (And.intro hB0 hB1)
  clear hnk hni hnb hx1 hx2 hx3 hx4 hN1 hR hB0 hB1
  have hB0 : B0 = false := HQ.out.1.symm.trans hq0
  have hB1 : B1 = true := HQ.out.2.symm.trans hq1
  subst hB0 hB1
  clear hq0 hq1
  go_enter Tryz.func5, Tryz.ntmps5
  go_wp2_with (first
      | (go_at_call 7; refine (hal _).mono ?_; rintro e w1 ⟨rfl, hg1⟩; have H1 := Lib.hid (H0.out.on hg1); clear hg1; have u0 := cell_of_row w1 _ 0 _ _ _ H1.out.2; have u1 := cell_of_row w1 _ 1 _ _ _ H1.out.2; have u2 := cell_of_row w1 _ 2 _ _ _ H1.out.2; have u3 := cell_of_row w1 _ 3 _ _ _ H1.out.2; have u4 := cell_of_row w1 _ 4 _ _ _ H1.out.2; have u5 := cell_of_row w1 _ 5 _ _ _ H1.out.2; have u6 := cell_of_row w1 _ 6 _ _ _ H1.out.2)
      | (go_at_call 8; refine (hbig _).mono ?_; rintro e w2 ⟨rfl, hg2⟩; have H2 := Lib.hid (H1.out.on hg2); clear hg2; clear u0 u1 u2 u3 u4 u5 u6; have u0 := cell_of_row w2 _ 0 _ _ _ H2.out.2; have u1 := cell_of_row w2 _ 1 _ _ _ H2.out.2; have u2 := cell_of_row w2 _ 2 _ _ _ H2.out.2; have u3 := cell_of_row w2 _ 3 _ _ _ H2.out.2; have u4 := cell_of_row w2 _ 4 _ _ _ H2.out.2; have u5 := cell_of_row w2 _ 5 _ _ _ H2.out.2; have u6 := cell_of_row w2 _ 6 _ _ _ H2.out.2)
      | (go_at_call 9; refine (HB1.out _ H2.out.1).mono ?_; rintro e w9 ⟨rfl, hw9⟩; obtain rfl := hw9.symm)
      | (go_at_call 11; refine (HCK.out _ H2.out.1).mono ?_; rintro e w3 ⟨rfl, hg3⟩; have H3 := Lib.hid (H2.out.on hg3); clear hg3; clear u0 u1 u2 u3 u4 u5 u6; have u0 := cell_of_row w3 _ 0 _ _ _ H3.out.2; have u1 := cell_of_row w3 _ 1 _ _ _ H3.out.2; have u2 := cell_of_row w3 _ 2 _ _ _ H3.out.2; have u3 := cell_of_row w3 _ 3 _ _ _ H3.out.2; have u4 := cell_of_row w3 _ 4 _ _ _ H3.out.2; have u5 := cell_of_row w3 _ 5 _ _ _ H3.out.2; have u6 := cell_of_row w3 _ 6 _ _ _ H3.out.2))
  go_ret
  exact ⟨rfl, H2.out.1⟩

set_option maxHeartbeats 8000000 in
set_option maxRecDepth 100000 in
theorem xbnd_e2 (w : World) (c : Cd.Code) (ka : Option Addr) (kc : Nat) (ia : Option Addr) (ic : Nat) (ba : Option Addr) (bc : Nat) (a1 : Option Addr) (L1 : List (List Int)) (c1 : Nat) (hc : CodeAt w c ka ia ba) (hs : I64s c) (hkc : c.kinds.length ≤ kc) (h1 : RowsAt w a1 L1) (m1 : L1.length ≤ maxLen) (hq0 : bigB21 c = false) (hq1 : bigR L1 = false) (hl : 30 < L1.length) : Calls Tryz.prog 5 #[.agg (codeV c ka kc ia ic ba bc), .slice a1 L1.length c1] w fun e w' => e = .returned (.bool true) ∧ w.grownBy w' none := by
  have hal := fun V => alive21_any V
  have hbig := fun V => xbig19_any V c ka kc ia ic ba bc ⟨hs.2.2.2.2.2.2.2.1, hs.2.2.2.2.2.2.2.2.1, hs.2.2.2.2.2.2.2.2.2⟩
  have HB1 := Lib.hid (fun V (hg : w.grownBy V none) => big11_any V a1 L1 c1 (h1.on hg) m1)
  have HCK := Lib.hid (fun V (hg : w.grownBy V none) => rcheck_any V c ka kc ia ic ba bc (hc.on hg) hs)
  have HNW := Lib.hid (fun V (hg : w.grownBy V none) => new_any V c ka kc ia ic ba bc (hc.on hg) hs hkc)
  have HMO := Lib.hid (fun V (hg : w.grownBy V none) (hok : Cd.check c = 0) => emost_any V c ka kc ia ic ba bc (hc.on hg) hs hkc hok)
  have hnum := fun k V => num21_any k V
  have hg0 := World.grownBy_alloc w (.cells (codeV c ka kc ia ic ba bc) 25) none
  have hr0 := heap_alloc_new w (.cells (codeV c ka kc ia ic ba bc) 25)
  have H0 : Hid (Bw w w.heap.size (codeV c ka kc ia ic ba bc) (w.alloc (.cells (codeV c ka kc ia ic ba bc) 25))) := Lib.hid ⟨hg0, hr0⟩
  clear hg0 hr0
  have HA := Lib.hid (And.intro hs (And.intro h1 m1))
  have n1 : L1.length ≤ 9223372036854775807 := by simpa [maxLen] using m1
  clear hc hs hkc h1 m1
  obtain ⟨nk, hnk⟩ : ∃ n, c.kinds.length = n := ⟨_, rfl⟩
  obtain ⟨ni, hni⟩ : ∃ n, c.init.length = n := ⟨_, rfl⟩
  obtain ⟨nb, hnb⟩ : ∃ n, c.body.length = n := ⟨_, rfl⟩
  obtain ⟨x1, hx1⟩ : ∃ n, c.ins = n := ⟨_, rfl⟩
  obtain ⟨x2, hx2⟩ : ∃ n, c.outs = n := ⟨_, rfl⟩
  obtain ⟨x3, hx3⟩ : ∃ n, c.cells = n := ⟨_, rfl⟩
  obtain ⟨x4, hx4⟩ : ∃ n, c.stack = n := ⟨_, rfl⟩
  obtain ⟨N1, hN1⟩ : ∃ n, L1.length = n := ⟨_, rfl⟩
  obtain ⟨R, hR⟩ : ∃ n, Cd.check c = n := ⟨_, rfl⟩
  obtain ⟨B0, hB0⟩ : ∃ n, bigB21 c = n := ⟨_, rfl⟩
  obtain ⟨B1, hB1⟩ : ∃ n, bigR L1 = n := ⟨_, rfl⟩
  unfold codeV at hbig HCK HNW HMO H0 ⊢
  simp only [hnk, hni, hnb, hx1, hx2, hx3, hx4, hB0] at hbig
  simp only [hnk, hni, hnb, hx1, hx2, hx3, hx4, hR] at HCK
  simp only [hnk, hni, hnb, hx1, hx2, hx3, hx4] at H0 HNW HMO
  simp only [hN1, hB1] at HB1
  simp only [hnk, hni, hnb, hx1, hx2, hx3, hx4, hN1]
  rw [hN1] at n1
  have HM := Lib.hid (And.intro hN1 hR)
  have HQ := Lib.hid (And.intro hB0 hB1)
  clear hnk hni hnb hx1 hx2 hx3 hx4 hN1 hR hB0 hB1
  have hB0 : B0 = false := HQ.out.1.symm.trans hq0
  have hB1 : B1 = false := HQ.out.2.symm.trans hq1
  subst hB0 hB1
  clear hq0 hq1
  have e3 : decide ((30 : Int) < (N1 : Int)) = true := decide_eq_true (by have := HM.out.1; omega)
  clear hl
  go_enter Tryz.func5, Tryz.ntmps5
  go_wp2_with (first
      | (go_at_call 7; refine (hal _).mono ?_; rintro e w1 ⟨rfl, hg1⟩; have H1 := Lib.hid (H0.out.on hg1); clear hg1; have u0 := cell_of_row w1 _ 0 _ _ _ H1.out.2; have u1 := cell_of_row w1 _ 1 _ _ _ H1.out.2; have u2 := cell_of_row w1 _ 2 _ _ _ H1.out.2; have u3 := cell_of_row w1 _ 3 _ _ _ H1.out.2; have u4 := cell_of_row w1 _ 4 _ _ _ H1.out.2; have u5 := cell_of_row w1 _ 5 _ _ _ H1.out.2; have u6 := cell_of_row w1 _ 6 _ _ _ H1.out.2)
      | (go_at_call 8; refine (hbig _).mono ?_; rintro e w2 ⟨rfl, hg2⟩; have H2 := Lib.hid (H1.out.on hg2); clear hg2; clear u0 u1 u2 u3 u4 u5 u6; have u0 := cell_of_row w2 _ 0 _ _ _ H2.out.2; have u1 := cell_of_row w2 _ 1 _ _ _ H2.out.2; have u2 := cell_of_row w2 _ 2 _ _ _ H2.out.2; have u3 := cell_of_row w2 _ 3 _ _ _ H2.out.2; have u4 := cell_of_row w2 _ 4 _ _ _ H2.out.2; have u5 := cell_of_row w2 _ 5 _ _ _ H2.out.2; have u6 := cell_of_row w2 _ 6 _ _ _ H2.out.2)
      | (go_at_call 9; refine (HB1.out _ H2.out.1).mono ?_; rintro e w9 ⟨rfl, hw9⟩; obtain rfl := hw9.symm)
      | (go_at_call 11; refine (HCK.out _ H2.out.1).mono ?_; rintro e w3 ⟨rfl, hg3⟩; have H3 := Lib.hid (H2.out.on hg3); clear hg3; clear u0 u1 u2 u3 u4 u5 u6; have u0 := cell_of_row w3 _ 0 _ _ _ H3.out.2; have u1 := cell_of_row w3 _ 1 _ _ _ H3.out.2; have u2 := cell_of_row w3 _ 2 _ _ _ H3.out.2; have u3 := cell_of_row w3 _ 3 _ _ _ H3.out.2; have u4 := cell_of_row w3 _ 4 _ _ _ H3.out.2; have u5 := cell_of_row w3 _ 5 _ _ _ H3.out.2; have u6 := cell_of_row w3 _ 6 _ _ _ H3.out.2))
  go_ret
  exact ⟨rfl, H2.out.1⟩

set_option maxHeartbeats 8000000 in
set_option maxRecDepth 100000 in
theorem xbnd_e3 (w : World) (c : Cd.Code) (ka : Option Addr) (kc : Nat) (ia : Option Addr) (ic : Nat) (ba : Option Addr) (bc : Nat) (a1 : Option Addr) (L1 : List (List Int)) (c1 : Nat) (hc : CodeAt w c ka ia ba) (hs : I64s c) (hkc : c.kinds.length ≤ kc) (h1 : RowsAt w a1 L1) (m1 : L1.length ≤ maxLen) (hq0 : bigB21 c = false) (hq1 : bigR L1 = false) (hl : L1.length ≤ 30) (hr : Cd.check c ≠ 0) : Calls Tryz.prog 5 #[.agg (codeV c ka kc ia ic ba bc), .slice a1 L1.length c1] w fun e w' => e = .returned (.bool true) ∧ w.grownBy w' none := by
  have hal := fun V => alive21_any V
  have hbig := fun V => xbig19_any V c ka kc ia ic ba bc ⟨hs.2.2.2.2.2.2.2.1, hs.2.2.2.2.2.2.2.2.1, hs.2.2.2.2.2.2.2.2.2⟩
  have HB1 := Lib.hid (fun V (hg : w.grownBy V none) => big11_any V a1 L1 c1 (h1.on hg) m1)
  have HCK := Lib.hid (fun V (hg : w.grownBy V none) => rcheck_any V c ka kc ia ic ba bc (hc.on hg) hs)
  have HNW := Lib.hid (fun V (hg : w.grownBy V none) => new_any V c ka kc ia ic ba bc (hc.on hg) hs hkc)
  have HMO := Lib.hid (fun V (hg : w.grownBy V none) (hok : Cd.check c = 0) => emost_any V c ka kc ia ic ba bc (hc.on hg) hs hkc hok)
  have hnum := fun k V => num21_any k V
  have hg0 := World.grownBy_alloc w (.cells (codeV c ka kc ia ic ba bc) 25) none
  have hr0 := heap_alloc_new w (.cells (codeV c ka kc ia ic ba bc) 25)
  have H0 : Hid (Bw w w.heap.size (codeV c ka kc ia ic ba bc) (w.alloc (.cells (codeV c ka kc ia ic ba bc) 25))) := Lib.hid ⟨hg0, hr0⟩
  clear hg0 hr0
  have HA := Lib.hid (And.intro hs (And.intro h1 m1))
  have n1 : L1.length ≤ 9223372036854775807 := by simpa [maxLen] using m1
  clear hc hs hkc h1 m1
  obtain ⟨nk, hnk⟩ : ∃ n, c.kinds.length = n := ⟨_, rfl⟩
  obtain ⟨ni, hni⟩ : ∃ n, c.init.length = n := ⟨_, rfl⟩
  obtain ⟨nb, hnb⟩ : ∃ n, c.body.length = n := ⟨_, rfl⟩
  obtain ⟨x1, hx1⟩ : ∃ n, c.ins = n := ⟨_, rfl⟩
  obtain ⟨x2, hx2⟩ : ∃ n, c.outs = n := ⟨_, rfl⟩
  obtain ⟨x3, hx3⟩ : ∃ n, c.cells = n := ⟨_, rfl⟩
  obtain ⟨x4, hx4⟩ : ∃ n, c.stack = n := ⟨_, rfl⟩
  obtain ⟨N1, hN1⟩ : ∃ n, L1.length = n := ⟨_, rfl⟩
  obtain ⟨R, hR⟩ : ∃ n, Cd.check c = n := ⟨_, rfl⟩
  obtain ⟨B0, hB0⟩ : ∃ n, bigB21 c = n := ⟨_, rfl⟩
  obtain ⟨B1, hB1⟩ : ∃ n, bigR L1 = n := ⟨_, rfl⟩
  unfold codeV at hbig HCK HNW HMO H0 ⊢
  simp only [hnk, hni, hnb, hx1, hx2, hx3, hx4, hB0] at hbig
  simp only [hnk, hni, hnb, hx1, hx2, hx3, hx4, hR] at HCK
  simp only [hnk, hni, hnb, hx1, hx2, hx3, hx4] at H0 HNW HMO
  simp only [hN1, hB1] at HB1
  simp only [hnk, hni, hnb, hx1, hx2, hx3, hx4, hN1]
  rw [hN1] at n1
  have HM := Lib.hid (And.intro hN1 hR)
  have HQ := Lib.hid (And.intro hB0 hB1)
  clear hnk hni hnb hx1 hx2 hx3 hx4 hN1 hR hB0 hB1
  have hB0 : B0 = false := HQ.out.1.symm.trans hq0
  have hB1 : B1 = false := HQ.out.2.symm.trans hq1
  subst hB0 hB1
  clear hq0 hq1
  have e3 : N1 ≤ 30 := by have := HM.out.1; omega
  have e5 : (R != 0) = true := by have := HM.out.2; simp; omega
  clear hl hr
  go_enter Tryz.func5, Tryz.ntmps5
  go_wp2_with (first
      | (go_at_call 7; refine (hal _).mono ?_; rintro e w1 ⟨rfl, hg1⟩; have H1 := Lib.hid (H0.out.on hg1); clear hg1; have u0 := cell_of_row w1 _ 0 _ _ _ H1.out.2; have u1 := cell_of_row w1 _ 1 _ _ _ H1.out.2; have u2 := cell_of_row w1 _ 2 _ _ _ H1.out.2; have u3 := cell_of_row w1 _ 3 _ _ _ H1.out.2; have u4 := cell_of_row w1 _ 4 _ _ _ H1.out.2; have u5 := cell_of_row w1 _ 5 _ _ _ H1.out.2; have u6 := cell_of_row w1 _ 6 _ _ _ H1.out.2)
      | (go_at_call 8; refine (hbig _).mono ?_; rintro e w2 ⟨rfl, hg2⟩; have H2 := Lib.hid (H1.out.on hg2); clear hg2; clear u0 u1 u2 u3 u4 u5 u6; have u0 := cell_of_row w2 _ 0 _ _ _ H2.out.2; have u1 := cell_of_row w2 _ 1 _ _ _ H2.out.2; have u2 := cell_of_row w2 _ 2 _ _ _ H2.out.2; have u3 := cell_of_row w2 _ 3 _ _ _ H2.out.2; have u4 := cell_of_row w2 _ 4 _ _ _ H2.out.2; have u5 := cell_of_row w2 _ 5 _ _ _ H2.out.2; have u6 := cell_of_row w2 _ 6 _ _ _ H2.out.2)
      | (go_at_call 9; refine (HB1.out _ H2.out.1).mono ?_; rintro e w9 ⟨rfl, hw9⟩; obtain rfl := hw9.symm)
      | (go_at_call 11; refine (HCK.out _ H2.out.1).mono ?_; rintro e w3 ⟨rfl, hg3⟩; have H3 := Lib.hid (H2.out.on hg3); clear hg3; clear u0 u1 u2 u3 u4 u5 u6; have u0 := cell_of_row w3 _ 0 _ _ _ H3.out.2; have u1 := cell_of_row w3 _ 1 _ _ _ H3.out.2; have u2 := cell_of_row w3 _ 2 _ _ _ H3.out.2; have u3 := cell_of_row w3 _ 3 _ _ _ H3.out.2; have u4 := cell_of_row w3 _ 4 _ _ _ H3.out.2; have u5 := cell_of_row w3 _ 5 _ _ _ H3.out.2; have u6 := cell_of_row w3 _ 6 _ _ _ H3.out.2))
  go_ret
  exact ⟨rfl, H3.out.1⟩

set_option maxHeartbeats 8000000 in
set_option maxRecDepth 100000 in
theorem xbnd_main (w : World) (c : Cd.Code) (ka : Option Addr) (kc : Nat) (ia : Option Addr) (ic : Nat) (ba : Option Addr) (bc : Nat) (a1 : Option Addr) (L1 : List (List Int)) (c1 : Nat) (hc : CodeAt w c ka ia ba) (hs : I64s c) (hkc : c.kinds.length ≤ kc) (h1 : RowsAt w a1 L1) (m1 : L1.length ≤ maxLen) (hq0 : bigB21 c = false) (hq1 : bigR L1 = false) (hl : L1.length ≤ 30) (hr : Cd.check c = 0) : Calls Tryz.prog 5 #[.agg (codeV c ka kc ia ic ba bc), .slice a1 L1.length c1] w fun e w' => e = .returned (.bool true) ∧ w.grownBy w' none := by
  have hal := fun V => alive21_any V
  have hbig := fun V => xbig19_any V c ka kc ia ic ba bc ⟨hs.2.2.2.2.2.2.2.1, hs.2.2.2.2.2.2.2.2.1, hs.2.2.2.2.2.2.2.2.2⟩
  have HB1 := Lib.hid (fun V (hg : w.grownBy V none) => big11_any V a1 L1 c1 (h1.on hg) m1)
  have HCK := Lib.hid (fun V (hg : w.grownBy V none) => rcheck_any V c ka kc ia ic ba bc (hc.on hg) hs)
  have HNW := Lib.hid (fun V (hg : w.grownBy V none) => new_any V c ka kc ia ic ba bc (hc.on hg) hs hkc)
  have HMO := Lib.hid (fun V (hg : w.grownBy V none) (hok : Cd.check c = 0) => emost_any V c ka kc ia ic ba bc (hc.on hg) hs hkc hok)
  have hnum := fun k V => num21_any k V
  have hg0 := World.grownBy_alloc w (.cells (codeV c ka kc ia ic ba bc) 25) none
  have hr0 := heap_alloc_new w (.cells (codeV c ka kc ia ic ba bc) 25)
  have H0 : Hid (Bw w w.heap.size (codeV c ka kc ia ic ba bc) (w.alloc (.cells (codeV c ka kc ia ic ba bc) 25))) := Lib.hid ⟨hg0, hr0⟩
  clear hg0 hr0
  have HA := Lib.hid (And.intro hs (And.intro h1 m1))
  have n1 : L1.length ≤ 9223372036854775807 := by simpa [maxLen] using m1
  clear hc hs hkc h1 m1
  obtain ⟨nk, hnk⟩ : ∃ n, c.kinds.length = n := ⟨_, rfl⟩
  obtain ⟨ni, hni⟩ : ∃ n, c.init.length = n := ⟨_, rfl⟩
  obtain ⟨nb, hnb⟩ : ∃ n, c.body.length = n := ⟨_, rfl⟩
  obtain ⟨x1, hx1⟩ : ∃ n, c.ins = n := ⟨_, rfl⟩
  obtain ⟨x2, hx2⟩ : ∃ n, c.outs = n := ⟨_, rfl⟩
  obtain ⟨x3, hx3⟩ : ∃ n, c.cells = n := ⟨_, rfl⟩
  obtain ⟨x4, hx4⟩ : ∃ n, c.stack = n := ⟨_, rfl⟩
  obtain ⟨N1, hN1⟩ : ∃ n, L1.length = n := ⟨_, rfl⟩
  obtain ⟨R, hR⟩ : ∃ n, Cd.check c = n := ⟨_, rfl⟩
  obtain ⟨B0, hB0⟩ : ∃ n, bigB21 c = n := ⟨_, rfl⟩
  obtain ⟨B1, hB1⟩ : ∃ n, bigR L1 = n := ⟨_, rfl⟩
  unfold codeV at hbig HCK HNW HMO H0 ⊢
  simp only [hnk, hni, hnb, hx1, hx2, hx3, hx4, hB0] at hbig
  simp only [hnk, hni, hnb, hx1, hx2, hx3, hx4, hR] at HCK
  simp only [hnk, hni, hnb, hx1, hx2, hx3, hx4] at H0 HNW HMO
  simp only [hN1, hB1] at HB1
  simp only [hnk, hni, hnb, hx1, hx2, hx3, hx4, hN1]
  rw [hN1] at n1
  have HM := Lib.hid (And.intro hN1 hR)
  have HQ := Lib.hid (And.intro hB0 hB1)
  clear hnk hni hnb hx1 hx2 hx3 hx4 hN1 hR hB0 hB1
  have hB0 : B0 = false := HQ.out.1.symm.trans hq0
  have hB1 : B1 = false := HQ.out.2.symm.trans hq1
  subst hB0 hB1
  clear hq0 hq1
  have e3 : N1 ≤ 30 := by have := HM.out.1; omega
  obtain rfl : R = 0 := by rw [← HM.out.2]; exact hr
  have HOK := Lib.hid hr
  clear hl hr
  go_enter Tryz.func5, Tryz.ntmps5
  go_wp2_with (first
      | (go_at_call 7; refine (hal _).mono ?_; rintro e w1 ⟨rfl, hg1⟩; have H1 := Lib.hid (H0.out.on hg1); clear hg1; have u0 := cell_of_row w1 _ 0 _ _ _ H1.out.2; have u1 := cell_of_row w1 _ 1 _ _ _ H1.out.2; have u2 := cell_of_row w1 _ 2 _ _ _ H1.out.2; have u3 := cell_of_row w1 _ 3 _ _ _ H1.out.2; have u4 := cell_of_row w1 _ 4 _ _ _ H1.out.2; have u5 := cell_of_row w1 _ 5 _ _ _ H1.out.2; have u6 := cell_of_row w1 _ 6 _ _ _ H1.out.2)
      | (go_at_call 8; refine (hbig _).mono ?_; rintro e w2 ⟨rfl, hg2⟩; have H2 := Lib.hid (H1.out.on hg2); clear hg2; clear u0 u1 u2 u3 u4 u5 u6; have u0 := cell_of_row w2 _ 0 _ _ _ H2.out.2; have u1 := cell_of_row w2 _ 1 _ _ _ H2.out.2; have u2 := cell_of_row w2 _ 2 _ _ _ H2.out.2; have u3 := cell_of_row w2 _ 3 _ _ _ H2.out.2; have u4 := cell_of_row w2 _ 4 _ _ _ H2.out.2; have u5 := cell_of_row w2 _ 5 _ _ _ H2.out.2; have u6 := cell_of_row w2 _ 6 _ _ _ H2.out.2)
      | (go_at_call 9; refine (HB1.out _ H2.out.1).mono ?_; rintro e w9 ⟨rfl, hw9⟩; obtain rfl := hw9.symm)
      | (go_at_call 11; refine (HCK.out _ H2.out.1).mono ?_; rintro e w3 ⟨rfl, hg3⟩; have H3 := Lib.hid (H2.out.on hg3); clear hg3; clear u0 u1 u2 u3 u4 u5 u6; have u0 := cell_of_row w3 _ 0 _ _ _ H3.out.2; have u1 := cell_of_row w3 _ 1 _ _ _ H3.out.2; have u2 := cell_of_row w3 _ 2 _ _ _ H3.out.2; have u3 := cell_of_row w3 _ 3 _ _ _ H3.out.2; have u4 := cell_of_row w3 _ 4 _ _ _ H3.out.2; have u5 := cell_of_row w3 _ 5 _ _ _ H3.out.2; have u6 := cell_of_row w3 _ 6 _ _ _ H3.out.2)
      | (go_at_call 10; refine (HNW.out _ H3.out.1).mono ?_; rintro e w4 ⟨hg4, _, hm4⟩; obtain ⟨m, rfl, iv, nv, kv, bv, hM⟩ := hm4 HOK.out; have H4 := Lib.hid (And.intro (H3.out.on hg4) hM); clear hg4 hm4 hM; clear u0 u1 u2 u3 u4 u5 u6; have u0 := cell_of_row w4 _ 0 _ _ _ H4.out.1.2; have u1 := cell_of_row w4 _ 1 _ _ _ H4.out.1.2; have u2 := cell_of_row w4 _ 2 _ _ _ H4.out.1.2; have u3 := cell_of_row w4 _ 3 _ _ _ H4.out.1.2; have u4 := cell_of_row w4 _ 4 _ _ _ H4.out.1.2; have u5 := cell_of_row w4 _ 5 _ _ _ H4.out.1.2; have u6 := cell_of_row w4 _ 6 _ _ _ H4.out.1.2)
      | (go_at_call 24; refine (HMO.out _ H4.out.1.1 HOK.out).mono ?_; rintro e w5 ⟨most, rfl, hL, hg5⟩; have H5 := Lib.hid (And.intro hL (And.intro (H4.out.1.on hg5) (H4.out.2.on hg5))); clear hL hg5; clear u0 u1 u2 u3 u4 u5 u6)
      | (go_at_call 12; refine (hnum _ _).mono ?_; rintro e w9 ⟨rfl, hw9⟩; obtain rfl := hw9.symm))
  obtain ⟨BB, hBB⟩ : ∃ BB, BB = w3.heap.size := ⟨_, rfl⟩
  have HS0 : Hid (w.heap.size ≤ BB ∧ w.grownBy w5 none ∧ ∃ cm, ∃ iv nv kv bv, MachR BB w5 m c cm iv nv kv bv) := Lib.hid (by rw [hBB]; exact ⟨H3.out.1.size, H5.out.2.1.1, _, _, _, _, _, H5.out.2.2⟩)
  have HLM := Lib.hid H5.out.1
  clear hBB H4 H5
  go_loopw [11] (fun iv wr => ∃ t : Nat, t ≤ N1 ∧ iv = .int .i64 (t : Int) ∧ Hid (w.heap.size ≤ BB ∧ w.grownBy wr none ∧ ∃ cm, ∃ iv nv kv bv, MachR BB wr m c cm iv nv kv bv)) (fun i _ => N1 - (intOf i).toNat)
  case atStart => exact ⟨0, Nat.zero_le _, rfl, HS0⟩
  case round =>
    obtain ⟨t, ht, rfl, HT⟩ := hrel
    clear HS0
    by_cases hlt : t < N1
    · obtain ⟨hbb, hgw, cm, jv, nv, kv, bv, hM⟩ := HT.out
      obtain ⟨l, hx⟩ : ∃ l, L1[t]? = some l := ⟨_, List.getElem?_eq_getElem (by rw [HM.out.1]; exact hlt)⟩
      obtain ⟨b1, e1, ra, rc, rfl, p, hnl, hll, hlm, hli⟩ := HA.out.2.1 t l hx
      have p0 := hgw.cell p (by simp)
      have HTK := Lib.hid (xtick_any hM HOK.out HA.out.1 rc (hnl.on hgw) hlm hli)
      have hmost := Ex.tickR_most (ins := l) HOK.out HLM.out hM.cl
      obtain ⟨TT, hTT⟩ : ∃ TT, Ex.tickR c cm l = TT := ⟨_, rfl⟩
      obtain ⟨TO, TN, TE, TC⟩ := TT
      rw [hTT] at hmost
      simp only at hmost
      have HTT := Lib.hid hTT
      have HG := Lib.hid (And.intro hbb (And.intro hgw hM.mb))
      clear p hnl hll hlm hli hx hTT hbb hgw hM HT
      rcases hmost with ⟨hE, h1, h2⟩ | ⟨hE, h1⟩
      · subst hE
        have g1 : decide ((TN : Int) < 1) = false := decide_eq_false (by omega)
        have g2 : decide (most < (TN : Int)) = false := decide_eq_false (by omega)
        clear h1 h2
        go_wp2_with (first
          | (go_at_call 14; refine HTK.out.mono ?_; rintro e w6 ⟨hk, ⟨nv', hM', _⟩, va, rfl, _⟩; rw [HTT.out] at hM' ⊢; have H6 := Lib.hid (And.intro hk hM'); clear hk hM')
          | (go_at_call 12; refine (hnum _ _).mono ?_; rintro e w9 ⟨rfl, hw9⟩; obtain rfl := hw9.symm))
        exact ⟨⟨t + 1, by omega, by go_num, Lib.hid ⟨HG.out.1, Kp.grown HG.out.2.1 H6.out.1 (fun k hk => by simp at hk; have := HG.out.1; have := HG.out.2.2; omega), _, _, _, _, _, H6.out.2⟩⟩, by simp [intOf]; omega⟩
      · subst h1
        have g1 : (TE == 0) = false := by rw [beq_eq_false_iff_ne]; exact hE
        have g2 : (TE != 0) = true := by rw [bne_iff_ne]; exact hE
        clear hE
        go_wp2_with (first
          | (go_at_call 14; refine HTK.out.mono ?_; rintro e w6 ⟨hk, ⟨nv', hM', _⟩, va, rfl, _⟩; rw [HTT.out] at hM' ⊢; have H6 := Lib.hid (And.intro hk hM'); clear hk hM')
          | (go_at_call 12; refine (hnum _ _).mono ?_; rintro e w9 ⟨rfl, hw9⟩; obtain rfl := hw9.symm))
        exact ⟨⟨t + 1, by omega, by go_num, Lib.hid ⟨HG.out.1, Kp.grown HG.out.2.1 H6.out.1 (fun k hk => by simp at hk; have := HG.out.1; have := HG.out.2.2; omega), _, _, _, _, _, H6.out.2⟩⟩, by simp [intOf]; omega⟩
    · obtain rfl : N1 = t := by omega
      have HF := Lib.hid HT.out.2.1
      clear HT
      go_wp2
      go_ret
      exact ⟨rfl, HF.out⟩

theorem execBound_run (w : World) (c : Cd.Code) (ka : Option Addr) (kc : Nat) (ia : Option Addr) (ic : Nat) (ba : Option Addr) (bc : Nat) (a1 : Option Addr) (L1 : List (List Int)) (c1 : Nat) (hc : CodeAt w c ka ia ba) (hs : I64s c) (hkc : c.kinds.length ≤ kc) (h1 : RowsAt w a1 L1) (m1 : L1.length ≤ maxLen) :
    Calls Tryz.prog 5 #[.agg (codeV c ka kc ia ic ba bc), .slice a1 L1.length c1] w fun e w' => e = .returned (.bool true) ∧ w.grownBy w' none := by
  rcases Bool.eq_false_or_eq_true (bigB21 c) with q0 | q0
  · exact xbnd_e0 w c ka kc ia ic ba bc a1 L1 c1 hc hs hkc h1 m1 q0
  rcases Bool.eq_false_or_eq_true (bigR L1) with q1 | q1
  · exact xbnd_e1 w c ka kc ia ic ba bc a1 L1 c1 hc hs hkc h1 m1 q0 q1
  rcases Nat.lt_or_ge 30 L1.length with l1 | l1
  · exact xbnd_e2 w c ka kc ia ic ba bc a1 L1 c1 hc hs hkc h1 m1 q0 q1 l1
  by_cases hr : Cd.check c = 0
  · exact xbnd_main w c ka kc ia ic ba bc a1 L1 c1 hc hs hkc h1 m1 q0 q1 l1 hr
  · exact xbnd_e3 w c ka kc ia ic ba bc a1 L1 c1 hc hs hkc h1 m1 q0 q1 l1 hr
end Go.Proofs.YtlppifnepckpiaaGreat
