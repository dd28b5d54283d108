/- Stage 21: ExecTwo: the walk (written by mkexp.py). -/
import Derived.Test.YtlppifnepckpiaaGreatExO
import Derived.Deep.CutRange
namespace Go.Proofs.YtlppifnepckpiaaGreat
open Go.RowKit Go.Maps Go.WideMaps

/-- cells that are there, and may be turned -/
def Th (w : World) (a : Option Addr) (n : Nat) : Prop := ∀ t, t < n → ∃ g, a = some ⟨g, 0, none⟩ ∧ ∃ v, w.cell? ⟨g, t, none⟩ = some v ∧ w.frozen? ⟨g, t, none⟩ = false
theorem th_own {w : World} {B n c z : Nat} {T : TypeId} {a : Option Addr} {xs : List Value} (h : w.ownsRow B T z (.slice a n c) n xs) : Th w a (n * z) := fun t ht => by
  rcases h.2 with ⟨e, h0⟩ | ⟨g, cap, cur, e, _, hg, _, _, _, ht2⟩
  · rw [h0] at ht; simp at ht
  · cases e
    have hl : t < xs.length := by rw [h.1]; exact ht
    refine ⟨g, rfl, xs[t], ?_, frozen_of_row w g t _ _ hg⟩
    have := h.cells (g := g) rfl t xs[t] (List.getElem?_eq_getElem hl)
    rwa [addr_at, Nat.zero_add] at this
theorem Th.set {w : World} {a : Option Addr} {n g j : Nat} (h : Th w a n) (v : Value) : Th (w.setCell ⟨g, j, none⟩ v) a n := fun t ht => by
  obtain ⟨g2, e, u, hu, hf⟩ := h t ht
  obtain ⟨y, hy⟩ := cell?_setCell_some (p := ⟨g, j, none⟩) (x := v) hu
  exact ⟨g2, e, y, hy, (World.frozen?_setCell ..).trans hf⟩
theorem nums_own {w : World} {B n c : Nat} {a : Option Addr} {l : List Int} (h : w.ownsRow B 3 1 (.slice a n c) n (ints l)) (hn : l.length = n) : NumsAt w a l := by
  subst hn
  obtain ⟨a', c', e, h1⟩ := NumsAt.own h
  cases e
  exact h1
theorem inss_own {w : World} {B n c : Nat} {a : Option Addr} {l : List Cd.Ins} (h : w.ownsRow B 56 3 (.slice a n c) n (insC l)) (hn : l.length = n) : InssAt w a l := by
  subst hn
  obtain ⟨a', c', e, h1⟩ := InssAt.own h
  cases e
  exact h1

set_option maxHeartbeats 8000000 in
set_option maxRecDepth 100000 in
theorem xtwo_e0 (w : World) (c : Cd.Code) (ka : Option Addr) (kc : Nat) (ia : Option Addr) (ic : Nat) (ba : Option Addr) (bc : Nat) (a1 a2 : Option Addr) (L1 L2 : List (List Int)) (c1 c2 : Nat) (hc : CodeAt w c ka ia ba) (hs : I64s c) (hkc : c.kinds.length ≤ kc) (h1 : RowsAt w a1 L1) (h2 : RowsAt w a2 L2) (m1 : L1.length ≤ maxLen) (m2 : L2.length ≤ maxLen) (hq0 : bigB21 c = true) : Calls Tryz.prog 6 #[.agg (codeV c ka kc ia ic ba bc), .slice a1 L1.length c1, .slice a2 L2.length c2] w fun e w' => e = .returned (.bool true) ∧ w.grownBy w' none := by
  have hal := fun V => alive21_any V
  have hbig := fun V => xbig19_any V c ka kc ia ic ba bc ⟨hs.2.2.2.2.2.2.2.1, hs.2.2.2.2.2.2.2.2.1, hs.2.2.2.2.2.2.2.2.2⟩
  have HB1 := Lib.hid (fun V (hg : w.grownBy V none) => big11_any V a1 L1 c1 (h1.on hg) m1)
  have HB2 := Lib.hid (fun V (hg : w.grownBy V none) => big11_any V a2 L2 c2 (h2.on hg) m2)
  have HCK := Lib.hid (fun V (hg : w.grownBy V none) => rcheck_any V c ka kc ia ic ba bc (hc.on hg) hs)
  have hnum := fun k V => num21_any k V
  have hg0 := World.grownBy_alloc w (.cells (codeV c ka kc ia ic ba bc) 25) none
  have hr0 := heap_alloc_new w (.cells (codeV c ka kc ia ic ba bc) 25)
  have H0 : Hid (Bw w w.heap.size (codeV c ka kc ia ic ba bc) (w.alloc (.cells (codeV c ka kc ia ic ba bc) 25))) := Lib.hid ⟨hg0, hr0⟩
  clear hg0 hr0
  have HA := Lib.hid (And.intro hc (And.intro hs (And.intro hkc (And.intro h1 (And.intro h2 (And.intro m1 m2))))))
  have n1 : L1.length ≤ 9223372036854775807 := by simpa [maxLen] using m1
  have n2 : L2.length ≤ 9223372036854775807 := by simpa [maxLen] using m2
  clear hc hs hkc h1 h2 m1 m2
  obtain ⟨nk, hnk⟩ : ∃ n, c.kinds.length = n := ⟨_, rfl⟩
  obtain ⟨ni, hni⟩ : ∃ n, c.init.length = n := ⟨_, rfl⟩
  obtain ⟨nb, hnb⟩ : ∃ n, c.body.length = n := ⟨_, rfl⟩
  obtain ⟨x1, hx1⟩ : ∃ n, c.ins = n := ⟨_, rfl⟩
  obtain ⟨x2, hx2⟩ : ∃ n, c.outs = n := ⟨_, rfl⟩
  obtain ⟨x3, hx3⟩ : ∃ n, c.cells = n := ⟨_, rfl⟩
  obtain ⟨x4, hx4⟩ : ∃ n, c.stack = n := ⟨_, rfl⟩
  obtain ⟨N1, hN1⟩ : ∃ n, L1.length = n := ⟨_, rfl⟩
  obtain ⟨N2, hN2⟩ : ∃ n, L2.length = n := ⟨_, rfl⟩
  obtain ⟨R, hR⟩ : ∃ n, Cd.check c = n := ⟨_, rfl⟩
  obtain ⟨B0, hB0⟩ : ∃ n, bigB21 c = n := ⟨_, rfl⟩
  obtain ⟨B1, hB1⟩ : ∃ n, bigR L1 = n := ⟨_, rfl⟩
  obtain ⟨B2, hB2⟩ : ∃ n, bigR L2 = n := ⟨_, rfl⟩
  unfold codeV at hbig HCK H0 ⊢
  simp only [hnk, hni, hnb, hx1, hx2, hx3, hx4, hB0] at hbig
  simp only [hnk, hni, hnb, hx1, hx2, hx3, hx4, hR] at HCK
  simp only [hnk, hni, hnb, hx1, hx2, hx3, hx4] at H0
  simp only [hN1, hB1] at HB1
  simp only [hN2, hB2] at HB2
  simp only [hnk, hni, hnb, hx1, hx2, hx3, hx4, hN1, hN2]
  rw [hN1] at n1
  rw [hN2] at n2
  have HN := Lib.hid (And.intro hnk (And.intro hni (And.intro hnb (And.intro hx1 (And.intro hx2 (And.intro hx3 hx4))))))
  have HM := Lib.hid (And.intro hN1 (And.intro hN2 hR))
  have HQ := Lib.hid (And.intro hB0 (And.intro hB1 hB2))
  clear hnk hni hnb hx1 hx2 hx3 hx4 hN1 hN2 hR hB0 hB1 hB2
  have hB0 : B0 = true := HQ.out.1.symm.trans hq0
  subst hB0
  clear hq0
  go_enter Tryz.func6, Tryz.ntmps6
  go_wp2_with (first
      | (go_at_call 7; refine (hal _).mono ?_; rintro e w1 ⟨rfl, hg1⟩; have H1 := Lib.hid (H0.out.on hg1); clear hg1; have u0 := cell_of_row w1 _ 0 _ _ _ H1.out.2; have u1 := cell_of_row w1 _ 1 _ _ _ H1.out.2; have u2 := cell_of_row w1 _ 2 _ _ _ H1.out.2; have u3 := cell_of_row w1 _ 3 _ _ _ H1.out.2; have u4 := cell_of_row w1 _ 4 _ _ _ H1.out.2; have u5 := cell_of_row w1 _ 5 _ _ _ H1.out.2; have u6 := cell_of_row w1 _ 6 _ _ _ H1.out.2)
      | (go_at_call 8; refine (hbig _).mono ?_; rintro e w2 ⟨rfl, hg2⟩; have H2 := Lib.hid (H1.out.on hg2); clear hg2; clear u0 u1 u2 u3 u4 u5 u6; have u0 := cell_of_row w2 _ 0 _ _ _ H2.out.2; have u1 := cell_of_row w2 _ 1 _ _ _ H2.out.2; have u2 := cell_of_row w2 _ 2 _ _ _ H2.out.2; have u3 := cell_of_row w2 _ 3 _ _ _ H2.out.2; have u4 := cell_of_row w2 _ 4 _ _ _ H2.out.2; have u5 := cell_of_row w2 _ 5 _ _ _ H2.out.2; have u6 := cell_of_row w2 _ 6 _ _ _ H2.out.2)
      | (go_at_call 9; have q := F1; refine (HB2.out _ H2.out.1).mono ?_; rintro e w9 ⟨rfl, hw9⟩; obtain rfl := hw9.symm)
      | (go_at_call 9; refine (HB1.out _ H2.out.1).mono ?_; rintro e w9 ⟨rfl, hw9⟩; obtain rfl := hw9.symm; have F1 := Lib.hid H2.out.1)
      | (go_at_call 11; refine (HCK.out _ H2.out.1).mono ?_; rintro e w3 ⟨rfl, hg3⟩; have H3 := Lib.hid (H2.out.on hg3); clear hg3; clear u0 u1 u2 u3 u4 u5 u6; have u0 := cell_of_row w3 _ 0 _ _ _ H3.out.2; have u1 := cell_of_row w3 _ 1 _ _ _ H3.out.2; have u2 := cell_of_row w3 _ 2 _ _ _ H3.out.2; have u3 := cell_of_row w3 _ 3 _ _ _ H3.out.2; have u4 := cell_of_row w3 _ 4 _ _ _ H3.out.2; have u5 := cell_of_row w3 _ 5 _ _ _ H3.out.2; have u6 := cell_of_row w3 _ 6 _ _ _ H3.out.2))
  go_ret
  exact ⟨rfl, H2.out.1⟩

set_option maxHeartbeats 8000000 in
set_option maxRecDepth 100000 in
theorem xtwo_e1 (w : World) (c : Cd.Code) (ka : Option Addr) (kc : Nat) (ia : Option Addr) (ic : Nat) (ba : Option Addr) (bc : Nat) (a1 a2 : Option Addr) (L1 L2 : List (List Int)) (c1 c2 : Nat) (hc : CodeAt w c ka ia ba) (hs : I64s c) (hkc : c.kinds.length ≤ kc) (h1 : RowsAt w a1 L1) (h2 : RowsAt w a2 L2) (m1 : L1.length ≤ maxLen) (m2 : L2.length ≤ maxLen) (hq0 : bigB21 c = false) (hq1 : bigR L1 = true) : Calls Tryz.prog 6 #[.agg (codeV c ka kc ia ic ba bc), .slice a1 L1.length c1, .slice a2 L2.length c2] w fun e w' => e = .returned (.bool true) ∧ w.grownBy w' none := by
  have hal := fun V => alive21_any V
  have hbig := fun V => xbig19_any V c ka kc ia ic ba bc ⟨hs.2.2.2.2.2.2.2.1, hs.2.2.2.2.2.2.2.2.1, hs.2.2.2.2.2.2.2.2.2⟩
  have HB1 := Lib.hid (fun V (hg : w.grownBy V none) => big11_any V a1 L1 c1 (h1.on hg) m1)
  have HB2 := Lib.hid (fun V (hg : w.grownBy V none) => big11_any V a2 L2 c2 (h2.on hg) m2)
  have HCK := Lib.hid (fun V (hg : w.grownBy V none) => rcheck_any V c ka kc ia ic ba bc (hc.on hg) hs)
  have hnum := fun k V => num21_any k V
  have hg0 := World.grownBy_alloc w (.cells (codeV c ka kc ia ic ba bc) 25) none
  have hr0 := heap_alloc_new w (.cells (codeV c ka kc ia ic ba bc) 25)
  have H0 : Hid (Bw w w.heap.size (codeV c ka kc ia ic ba bc) (w.alloc (.cells (codeV c ka kc ia ic ba bc) 25))) := Lib.hid ⟨hg0, hr0⟩
  clear hg0 hr0
  have HA := Lib.hid (And.intro hc (And.intro hs (And.intro hkc (And.intro h1 (And.intro h2 (And.intro m1 m2))))))
  have n1 : L1.length ≤ 9223372036854775807 := by simpa [maxLen] using m1
  have n2 : L2.length ≤ 9223372036854775807 := by simpa [maxLen] using m2
  clear hc hs hkc h1 h2 m1 m2
  obtain ⟨nk, hnk⟩ : ∃ n, c.kinds.length = n := ⟨_, rfl⟩
  obtain ⟨ni, hni⟩ : ∃ n, c.init.length = n := ⟨_, rfl⟩
  obtain ⟨nb, hnb⟩ : ∃ n, c.body.length = n := ⟨_, rfl⟩
  obtain ⟨x1, hx1⟩ : ∃ n, c.ins = n := ⟨_, rfl⟩
  obtain ⟨x2, hx2⟩ : ∃ n, c.outs = n := ⟨_, rfl⟩
  obtain ⟨x3, hx3⟩ : ∃ n, c.cells = n := ⟨_, rfl⟩
  obtain ⟨x4, hx4⟩ : ∃ n, c.stack = n := ⟨_, rfl⟩
  obtain ⟨N1, hN1⟩ : ∃ n, L1.length = n := ⟨_, rfl⟩
  obtain ⟨N2, hN2⟩ : ∃ n, L2.length = n := ⟨_, rfl⟩
  obtain ⟨R, hR⟩ : ∃ n, Cd.check c = n := ⟨_, rfl⟩
  obtain ⟨B0, hB0⟩ : ∃ n, bigB21 c = n := ⟨_, rfl⟩
  obtain ⟨B1, hB1⟩ : ∃ n, bigR L1 = n := ⟨_, rfl⟩
  obtain ⟨B2, hB2⟩ : ∃ n, bigR L2 = n := ⟨_, rfl⟩
  unfold codeV at hbig HCK H0 ⊢
  simp only [hnk, hni, hnb, hx1, hx2, hx3, hx4, hB0] at hbig
  simp only [hnk, hni, hnb, hx1, hx2, hx3, hx4, hR] at HCK
  simp only [hnk, hni, hnb, hx1, hx2, hx3, hx4] at H0
  simp only [hN1, hB1] at HB1
  simp only [hN2, hB2] at HB2
  simp only [hnk, hni, hnb, hx1, hx2, hx3, hx4, hN1, hN2]
  rw [hN1] at n1
  rw [hN2] at n2
  have HN := Lib.hid (And.intro hnk (And.intro hni (And.intro hnb (And.intro hx1 (And.intro hx2 (And.intro hx3 hx4))))))
  have HM := Lib.hid (And.intro hN1 (And.intro hN2 hR))
  have HQ := Lib.hid (And.intro hB0 (And.intro hB1 hB2))
  clear hnk hni hnb hx1 hx2 hx3 hx4 hN1 hN2 hR hB0 hB1 hB2
  have hB0 : B0 = false := HQ.out.1.symm.trans hq0
  have hB1 : B1 = true := HQ.out.2.1.symm.trans hq1
  subst hB0 hB1
  clear hq0 hq1
  go_enter Tryz.func6, Tryz.ntmps6
  go_wp2_with (first
      | (go_at_call 7; refine (hal _).mono ?_; rintro e w1 ⟨rfl, hg1⟩; have H1 := Lib.hid (H0.out.on hg1); clear hg1; have u0 := cell_of_row w1 _ 0 _ _ _ H1.out.2; have u1 := cell_of_row w1 _ 1 _ _ _ H1.out.2; have u2 := cell_of_row w1 _ 2 _ _ _ H1.out.2; have u3 := cell_of_row w1 _ 3 _ _ _ H1.out.2; have u4 := cell_of_row w1 _ 4 _ _ _ H1.out.2; have u5 := cell_of_row w1 _ 5 _ _ _ H1.out.2; have u6 := cell_of_row w1 _ 6 _ _ _ H1.out.2)
      | (go_at_call 8; refine (hbig _).mono ?_; rintro e w2 ⟨rfl, hg2⟩; have H2 := Lib.hid (H1.out.on hg2); clear hg2; clear u0 u1 u2 u3 u4 u5 u6; have u0 := cell_of_row w2 _ 0 _ _ _ H2.out.2; have u1 := cell_of_row w2 _ 1 _ _ _ H2.out.2; have u2 := cell_of_row w2 _ 2 _ _ _ H2.out.2; have u3 := cell_of_row w2 _ 3 _ _ _ H2.out.2; have u4 := cell_of_row w2 _ 4 _ _ _ H2.out.2; have u5 := cell_of_row w2 _ 5 _ _ _ H2.out.2; have u6 := cell_of_row w2 _ 6 _ _ _ H2.out.2)
      | (go_at_call 9; have q := F1; refine (HB2.out _ H2.out.1).mono ?_; rintro e w9 ⟨rfl, hw9⟩; obtain rfl := hw9.symm)
      | (go_at_call 9; refine (HB1.out _ H2.out.1).mono ?_; rintro e w9 ⟨rfl, hw9⟩; obtain rfl := hw9.symm; have F1 := Lib.hid H2.out.1)
      | (go_at_call 11; refine (HCK.out _ H2.out.1).mono ?_; rintro e w3 ⟨rfl, hg3⟩; have H3 := Lib.hid (H2.out.on hg3); clear hg3; clear u0 u1 u2 u3 u4 u5 u6; have u0 := cell_of_row w3 _ 0 _ _ _ H3.out.2; have u1 := cell_of_row w3 _ 1 _ _ _ H3.out.2; have u2 := cell_of_row w3 _ 2 _ _ _ H3.out.2; have u3 := cell_of_row w3 _ 3 _ _ _ H3.out.2; have u4 := cell_of_row w3 _ 4 _ _ _ H3.out.2; have u5 := cell_of_row w3 _ 5 _ _ _ H3.out.2; have u6 := cell_of_row w3 _ 6 _ _ _ H3.out.2))
  go_ret
  exact ⟨rfl, H2.out.1⟩

set_option maxHeartbeats 8000000 in
set_option maxRecDepth 100000 in
theorem xtwo_e2 (w : World) (c : Cd.Code) (ka : Option Addr) (kc : Nat) (ia : Option Addr) (ic : Nat) (ba : Option Addr) (bc : Nat) (a1 a2 : Option Addr) (L1 L2 : List (List Int)) (c1 c2 : Nat) (hc : CodeAt w c ka ia ba) (hs : I64s c) (hkc : c.kinds.length ≤ kc) (h1 : RowsAt w a1 L1) (h2 : RowsAt w a2 L2) (m1 : L1.length ≤ maxLen) (m2 : L2.length ≤ maxLen) (hq0 : bigB21 c = false) (hq1 : bigR L1 = false) (hq2 : bigR L2 = true) : Calls Tryz.prog 6 #[.agg (codeV c ka kc ia ic ba bc), .slice a1 L1.length c1, .slice a2 L2.length c2] w fun e w' => e = .returned (.bool true) ∧ w.grownBy w' none := by
  have hal := fun V => alive21_any V
  have hbig := fun V => xbig19_any V c ka kc ia ic ba bc ⟨hs.2.2.2.2.2.2.2.1, hs.2.2.2.2.2.2.2.2.1, hs.2.2.2.2.2.2.2.2.2⟩
  have HB1 := Lib.hid (fun V (hg : w.grownBy V none) => big11_any V a1 L1 c1 (h1.on hg) m1)
  have HB2 := Lib.hid (fun V (hg : w.grownBy V none) => big11_any V a2 L2 c2 (h2.on hg) m2)
  have HCK := Lib.hid (fun V (hg : w.grownBy V none) => rcheck_any V c ka kc ia ic ba bc (hc.on hg) hs)
  have hnum := fun k V => num21_any k V
  have hg0 := World.grownBy_alloc w (.cells (codeV c ka kc ia ic ba bc) 25) none
  have hr0 := heap_alloc_new w (.cells (codeV c ka kc ia ic ba bc) 25)
  have H0 : Hid (Bw w w.heap.size (codeV c ka kc ia ic ba bc) (w.alloc (.cells (codeV c ka kc ia ic ba bc) 25))) := Lib.hid ⟨hg0, hr0⟩
  clear hg0 hr0
  have HA := Lib.hid (And.intro hc (And.intro hs (And.intro hkc (And.intro h1 (And.intro h2 (And.intro m1 m2))))))
  have n1 : L1.length ≤ 9223372036854775807 := by simpa [maxLen] using m1
  have n2 : L2.length ≤ 9223372036854775807 := by simpa [maxLen] using m2
  clear hc hs hkc h1 h2 m1 m2
  obtain ⟨nk, hnk⟩ : ∃ n, c.kinds.length = n := ⟨_, rfl⟩
  obtain ⟨ni, hni⟩ : ∃ n, c.init.length = n := ⟨_, rfl⟩
  obtain ⟨nb, hnb⟩ : ∃ n, c.body.length = n := ⟨_, rfl⟩
  obtain ⟨x1, hx1⟩ : ∃ n, c.ins = n := ⟨_, rfl⟩
  obtain ⟨x2, hx2⟩ : ∃ n, c.outs = n := ⟨_, rfl⟩
  obtain ⟨x3, hx3⟩ : ∃ n, c.cells = n := ⟨_, rfl⟩
  obtain ⟨x4, hx4⟩ : ∃ n, c.stack = n := ⟨_, rfl⟩
  obtain ⟨N1, hN1⟩ : ∃ n, L1.length = n := ⟨_, rfl⟩
  obtain ⟨N2, hN2⟩ : ∃ n, L2.length = n := ⟨_, rfl⟩
  obtain ⟨R, hR⟩ : ∃ n, Cd.check c = n := ⟨_, rfl⟩
  obtain ⟨B0, hB0⟩ : ∃ n, bigB21 c = n := ⟨_, rfl⟩
  obtain ⟨B1, hB1⟩ : ∃ n, bigR L1 = n := ⟨_, rfl⟩
  obtain ⟨B2, hB2⟩ : ∃ n, bigR L2 = n := ⟨_, rfl⟩
  unfold codeV at hbig HCK H0 ⊢
  simp only [hnk, hni, hnb, hx1, hx2, hx3, hx4, hB0] at hbig
  simp only [hnk, hni, hnb, hx1, hx2, hx3, hx4, hR] at HCK
  simp only [hnk, hni, hnb, hx1, hx2, hx3, hx4] at H0
  simp only [hN1, hB1] at HB1
  simp only [hN2, hB2] at HB2
  simp only [hnk, hni, hnb, hx1, hx2, hx3, hx4, hN1, hN2]
  rw [hN1] at n1
  rw [hN2] at n2
  have HN := Lib.hid (And.intro hnk (And.intro hni (And.intro hnb (And.intro hx1 (And.intro hx2 (And.intro hx3 hx4))))))
  have HM := Lib.hid (And.intro hN1 (And.intro hN2 hR))
  have HQ := Lib.hid (And.intro hB0 (And.intro hB1 hB2))
  clear hnk hni hnb hx1 hx2 hx3 hx4 hN1 hN2 hR hB0 hB1 hB2
  have hB0 : B0 = false := HQ.out.1.symm.trans hq0
  have hB1 : B1 = false := HQ.out.2.1.symm.trans hq1
  have hB2 : B2 = true := HQ.out.2.2.symm.trans hq2
  subst hB0 hB1 hB2
  clear hq0 hq1 hq2
  go_enter Tryz.func6, Tryz.ntmps6
  go_wp2_with (first
      | (go_at_call 7; refine (hal _).mono ?_; rintro e w1 ⟨rfl, hg1⟩; have H1 := Lib.hid (H0.out.on hg1); clear hg1; have u0 := cell_of_row w1 _ 0 _ _ _ H1.out.2; have u1 := cell_of_row w1 _ 1 _ _ _ H1.out.2; have u2 := cell_of_row w1 _ 2 _ _ _ H1.out.2; have u3 := cell_of_row w1 _ 3 _ _ _ H1.out.2; have u4 := cell_of_row w1 _ 4 _ _ _ H1.out.2; have u5 := cell_of_row w1 _ 5 _ _ _ H1.out.2; have u6 := cell_of_row w1 _ 6 _ _ _ H1.out.2)
      | (go_at_call 8; refine (hbig _).mono ?_; rintro e w2 ⟨rfl, hg2⟩; have H2 := Lib.hid (H1.out.on hg2); clear hg2; clear u0 u1 u2 u3 u4 u5 u6; have u0 := cell_of_row w2 _ 0 _ _ _ H2.out.2; have u1 := cell_of_row w2 _ 1 _ _ _ H2.out.2; have u2 := cell_of_row w2 _ 2 _ _ _ H2.out.2; have u3 := cell_of_row w2 _ 3 _ _ _ H2.out.2; have u4 := cell_of_row w2 _ 4 _ _ _ H2.out.2; have u5 := cell_of_row w2 _ 5 _ _ _ H2.out.2; have u6 := cell_of_row w2 _ 6 _ _ _ H2.out.2)
      | (go_at_call 9; have q := F1; refine (HB2.out _ H2.out.1).mono ?_; rintro e w9 ⟨rfl, hw9⟩; obtain rfl := hw9.symm)
      | (go_at_call 9; refine (HB1.out _ H2.out.1).mono ?_; rintro e w9 ⟨rfl, hw9⟩; obtain rfl := hw9.symm; have F1 := Lib.hid H2.out.1)
      | (go_at_call 11; refine (HCK.out _ H2.out.1).mono ?_; rintro e w3 ⟨rfl, hg3⟩; have H3 := Lib.hid (H2.out.on hg3); clear hg3; clear u0 u1 u2 u3 u4 u5 u6; have u0 := cell_of_row w3 _ 0 _ _ _ H3.out.2; have u1 := cell_of_row w3 _ 1 _ _ _ H3.out.2; have u2 := cell_of_row w3 _ 2 _ _ _ H3.out.2; have u3 := cell_of_row w3 _ 3 _ _ _ H3.out.2; have u4 := cell_of_row w3 _ 4 _ _ _ H3.out.2; have u5 := cell_of_row w3 _ 5 _ _ _ H3.out.2; have u6 := cell_of_row w3 _ 6 _ _ _ H3.out.2))
  go_ret
  exact ⟨rfl, H2.out.1⟩

set_option maxHeartbeats 8000000 in
set_option maxRecDepth 100000 in
theorem xtwo_e3 (w : World) (c : Cd.Code) (ka : Option Addr) (kc : Nat) (ia : Option Addr) (ic : Nat) (ba : Option Addr) (bc : Nat) (a1 a2 : Option Addr) (L1 L2 : List (List Int)) (c1 c2 : Nat) (hc : CodeAt w c ka ia ba) (hs : I64s c) (hkc : c.kinds.length ≤ kc) (h1 : RowsAt w a1 L1) (h2 : RowsAt w a2 L2) (m1 : L1.length ≤ maxLen) (m2 : L2.length ≤ maxLen) (hq0 : bigB21 c = false) (hq1 : bigR L1 = false) (hq2 : bigR L2 = false) (hl : 20 < L1.length) : Calls Tryz.prog 6 #[.agg (codeV c ka kc ia ic ba bc), .slice a1 L1.length c1, .slice a2 L2.length c2] w fun e w' => e = .returned (.bool true) ∧ w.grownBy w' none := by
  have hal := fun V => alive21_any V
  have hbig := fun V => xbig19_any V c ka kc ia ic ba bc ⟨hs.2.2.2.2.2.2.2.1, hs.2.2.2.2.2.2.2.2.1, hs.2.2.2.2.2.2.2.2.2⟩
  have HB1 := Lib.hid (fun V (hg : w.grownBy V none) => big11_any V a1 L1 c1 (h1.on hg) m1)
  have HB2 := Lib.hid (fun V (hg : w.grownBy V none) => big11_any V a2 L2 c2 (h2.on hg) m2)
  have HCK := Lib.hid (fun V (hg : w.grownBy V none) => rcheck_any V c ka kc ia ic ba bc (hc.on hg) hs)
  have hnum := fun k V => num21_any k V
  have hg0 := World.grownBy_alloc w (.cells (codeV c ka kc ia ic ba bc) 25) none
  have hr0 := heap_alloc_new w (.cells (codeV c ka kc ia ic ba bc) 25)
  have H0 : Hid (Bw w w.heap.size (codeV c ka kc ia ic ba bc) (w.alloc (.cells (codeV c ka kc ia ic ba bc) 25))) := Lib.hid ⟨hg0, hr0⟩
  clear hg0 hr0
  have HA := Lib.hid (And.intro hc (And.intro hs (And.intro hkc (And.intro h1 (And.intro h2 (And.intro m1 m2))))))
  have n1 : L1.length ≤ 9223372036854775807 := by simpa [maxLen] using m1
  have n2 : L2.length ≤ 9223372036854775807 := by simpa [maxLen] using m2
  clear hc hs hkc h1 h2 m1 m2
  obtain ⟨nk, hnk⟩ : ∃ n, c.kinds.length = n := ⟨_, rfl⟩
  obtain ⟨ni, hni⟩ : ∃ n, c.init.length = n := ⟨_, rfl⟩
  obtain ⟨nb, hnb⟩ : ∃ n, c.body.length = n := ⟨_, rfl⟩
  obtain ⟨x1, hx1⟩ : ∃ n, c.ins = n := ⟨_, rfl⟩
  obtain ⟨x2, hx2⟩ : ∃ n, c.outs = n := ⟨_, rfl⟩
  obtain ⟨x3, hx3⟩ : ∃ n, c.cells = n := ⟨_, rfl⟩
  obtain ⟨x4, hx4⟩ : ∃ n, c.stack = n := ⟨_, rfl⟩
  obtain ⟨N1, hN1⟩ : ∃ n, L1.length = n := ⟨_, rfl⟩
  obtain ⟨N2, hN2⟩ : ∃ n, L2.length = n := ⟨_, rfl⟩
  obtain ⟨R, hR⟩ : ∃ n, Cd.check c = n := ⟨_, rfl⟩
  obtain ⟨B0, hB0⟩ : ∃ n, bigB21 c = n := ⟨_, rfl⟩
  obtain ⟨B1, hB1⟩ : ∃ n, bigR L1 = n := ⟨_, rfl⟩
  obtain ⟨B2, hB2⟩ : ∃ n, bigR L2 = n := ⟨_, rfl⟩
  unfold codeV at hbig HCK H0 ⊢
  simp only [hnk, hni, hnb, hx1, hx2, hx3, hx4, hB0] at hbig
  simp only [hnk, hni, hnb, hx1, hx2, hx3, hx4, hR] at HCK
  simp only [hnk, hni, hnb, hx1, hx2, hx3, hx4] at H0
  simp only [hN1, hB1] at HB1
  simp only [hN2, hB2] at HB2
  simp only [hnk, hni, hnb, hx1, hx2, hx3, hx4, hN1, hN2]
  rw [hN1] at n1
  rw [hN2] at n2
  have HN := Lib.hid (And.intro hnk (And.intro hni (And.intro hnb (And.intro hx1 (And.intro hx2 (And.intro hx3 hx4))))))
  have HM := Lib.hid (And.intro hN1 (And.intro hN2 hR))
  have HQ := Lib.hid (And.intro hB0 (And.intro hB1 hB2))
  clear hnk hni hnb hx1 hx2 hx3 hx4 hN1 hN2 hR hB0 hB1 hB2
  have hB0 : B0 = false := HQ.out.1.symm.trans hq0
  have hB1 : B1 = false := HQ.out.2.1.symm.trans hq1
  have hB2 : B2 = false := HQ.out.2.2.symm.trans hq2
  subst hB0 hB1 hB2
  clear hq0 hq1 hq2
  have e3 : decide ((20 : Int) < (N1 : Int)) = true := decide_eq_true (by have := HM.out.1; omega)
  clear hl
  go_enter Tryz.func6, Tryz.ntmps6
  go_wp2_with (first
      | (go_at_call 7; refine (hal _).mono ?_; rintro e w1 ⟨rfl, hg1⟩; have H1 := Lib.hid (H0.out.on hg1); clear hg1; have u0 := cell_of_row w1 _ 0 _ _ _ H1.out.2; have u1 := cell_of_row w1 _ 1 _ _ _ H1.out.2; have u2 := cell_of_row w1 _ 2 _ _ _ H1.out.2; have u3 := cell_of_row w1 _ 3 _ _ _ H1.out.2; have u4 := cell_of_row w1 _ 4 _ _ _ H1.out.2; have u5 := cell_of_row w1 _ 5 _ _ _ H1.out.2; have u6 := cell_of_row w1 _ 6 _ _ _ H1.out.2)
      | (go_at_call 8; refine (hbig _).mono ?_; rintro e w2 ⟨rfl, hg2⟩; have H2 := Lib.hid (H1.out.on hg2); clear hg2; clear u0 u1 u2 u3 u4 u5 u6; have u0 := cell_of_row w2 _ 0 _ _ _ H2.out.2; have u1 := cell_of_row w2 _ 1 _ _ _ H2.out.2; have u2 := cell_of_row w2 _ 2 _ _ _ H2.out.2; have u3 := cell_of_row w2 _ 3 _ _ _ H2.out.2; have u4 := cell_of_row w2 _ 4 _ _ _ H2.out.2; have u5 := cell_of_row w2 _ 5 _ _ _ H2.out.2; have u6 := cell_of_row w2 _ 6 _ _ _ H2.out.2)
      | (go_at_call 9; have q := F1; refine (HB2.out _ H2.out.1).mono ?_; rintro e w9 ⟨rfl, hw9⟩; obtain rfl := hw9.symm)
      | (go_at_call 9; refine (HB1.out _ H2.out.1).mono ?_; rintro e w9 ⟨rfl, hw9⟩; obtain rfl := hw9.symm; have F1 := Lib.hid H2.out.1)
      | (go_at_call 11; refine (HCK.out _ H2.out.1).mono ?_; rintro e w3 ⟨rfl, hg3⟩; have H3 := Lib.hid (H2.out.on hg3); clear hg3; clear u0 u1 u2 u3 u4 u5 u6; have u0 := cell_of_row w3 _ 0 _ _ _ H3.out.2; have u1 := cell_of_row w3 _ 1 _ _ _ H3.out.2; have u2 := cell_of_row w3 _ 2 _ _ _ H3.out.2; have u3 := cell_of_row w3 _ 3 _ _ _ H3.out.2; have u4 := cell_of_row w3 _ 4 _ _ _ H3.out.2; have u5 := cell_of_row w3 _ 5 _ _ _ H3.out.2; have u6 := cell_of_row w3 _ 6 _ _ _ H3.out.2))
  go_ret
  exact ⟨rfl, H2.out.1⟩

set_option maxHeartbeats 8000000 in
set_option maxRecDepth 100000 in
theorem xtwo_e4 (w : World) (c : Cd.Code) (ka : Option Addr) (kc : Nat) (ia : Option Addr) (ic : Nat) (ba : Option Addr) (bc : Nat) (a1 a2 : Option Addr) (L1 L2 : List (List Int)) (c1 c2 : Nat) (hc : CodeAt w c ka ia ba) (hs : I64s c) (hkc : c.kinds.length ≤ kc) (h1 : RowsAt w a1 L1) (h2 : RowsAt w a2 L2) (m1 : L1.length ≤ maxLen) (m2 : L2.length ≤ maxLen) (hq0 : bigB21 c = false) (hq1 : bigR L1 = false) (hq2 : bigR L2 = false) (hk : L1.length ≤ 20) (hl : 20 < L2.length) : Calls Tryz.prog 6 #[.agg (codeV c ka kc ia ic ba bc), .slice a1 L1.length c1, .slice a2 L2.length c2] w fun e w' => e = .returned (.bool true) ∧ w.grownBy w' none := by
  have hal := fun V => alive21_any V
  have hbig := fun V => xbig19_any V c ka kc ia ic ba bc ⟨hs.2.2.2.2.2.2.2.1, hs.2.2.2.2.2.2.2.2.1, hs.2.2.2.2.2.2.2.2.2⟩
  have HB1 := Lib.hid (fun V (hg : w.grownBy V none) => big11_any V a1 L1 c1 (h1.on hg) m1)
  have HB2 := Lib.hid (fun V (hg : w.grownBy V none) => big11_any V a2 L2 c2 (h2.on hg) m2)
  have HCK := Lib.hid (fun V (hg : w.grownBy V none) => rcheck_any V c ka kc ia ic ba bc (hc.on hg) hs)
  have hnum := fun k V => num21_any k V
  have hg0 := World.grownBy_alloc w (.cells (codeV c ka kc ia ic ba bc) 25) none
  have hr0 := heap_alloc_new w (.cells (codeV c ka kc ia ic ba bc) 25)
  have H0 : Hid (Bw w w.heap.size (codeV c ka kc ia ic ba bc) (w.alloc (.cells (codeV c ka kc ia ic ba bc) 25))) := Lib.hid ⟨hg0, hr0⟩
  clear hg0 hr0
  have HA := Lib.hid (And.intro hc (And.intro hs (And.intro hkc (And.intro h1 (And.intro h2 (And.intro m1 m2))))))
  have n1 : L1.length ≤ 9223372036854775807 := by simpa [maxLen] using m1
  have n2 : L2.length ≤ 9223372036854775807 := by simpa [maxLen] using m2
  clear hc hs hkc h1 h2 m1 m2
  obtain ⟨nk, hnk⟩ : ∃ n, c.kinds.length = n := ⟨_, rfl⟩
  obtain ⟨ni, hni⟩ : ∃ n, c.init.length = n := ⟨_, rfl⟩
  obtain ⟨nb, hnb⟩ : ∃ n, c.body.length = n := ⟨_, rfl⟩
  obtain ⟨x1, hx1⟩ : ∃ n, c.ins = n := ⟨_, rfl⟩
  obtain ⟨x2, hx2⟩ : ∃ n, c.outs = n := ⟨_, rfl⟩
  obtain ⟨x3, hx3⟩ : ∃ n, c.cells = n := ⟨_, rfl⟩
  obtain ⟨x4, hx4⟩ : ∃ n, c.stack = n := ⟨_, rfl⟩
  obtain ⟨N1, hN1⟩ : ∃ n, L1.length = n := ⟨_, rfl⟩
  obtain ⟨N2, hN2⟩ : ∃ n, L2.length = n := ⟨_, rfl⟩
  obtain ⟨R, hR⟩ : ∃ n, Cd.check c = n := ⟨_, rfl⟩
  obtain ⟨B0, hB0⟩ : ∃ n, bigB21 c = n := ⟨_, rfl⟩
  obtain ⟨B1, hB1⟩ : ∃ n, bigR L1 = n := ⟨_, rfl⟩
  obtain ⟨B2, hB2⟩ : ∃ n, bigR L2 = n := ⟨_, rfl⟩
  unfold codeV at hbig HCK H0 ⊢
  simp only [hnk, hni, hnb, hx1, hx2, hx3, hx4, hB0] at hbig
  simp only [hnk, hni, hnb, hx1, hx2, hx3, hx4, hR] at HCK
  simp only [hnk, hni, hnb, hx1, hx2, hx3, hx4] at H0
  simp only [hN1, hB1] at HB1
  simp only [hN2, hB2] at HB2
  simp only [hnk, hni, hnb, hx1, hx2, hx3, hx4, hN1, hN2]
  rw [hN1] at n1
  rw [hN2] at n2
  have HN := Lib.hid (And.intro hnk (And.intro hni (And.intro hnb (And.intro hx1 (And.intro hx2 (And.intro hx3 hx4))))))
  have HM := Lib.hid (And.intro hN1 (And.intro hN2 hR))
  have HQ := Lib.hid (And.intro hB0 (And.intro hB1 hB2))
  clear hnk hni hnb hx1 hx2 hx3 hx4 hN1 hN2 hR hB0 hB1 hB2
  have hB0 : B0 = false := HQ.out.1.symm.trans hq0
  have hB1 : B1 = false := HQ.out.2.1.symm.trans hq1
  have hB2 : B2 = false := HQ.out.2.2.symm.trans hq2
  subst hB0 hB1 hB2
  clear hq0 hq1 hq2
  have e3 : N1 ≤ 20 := by have := HM.out.1; omega
  have e4 : decide ((20 : Int) < (N2 : Int)) = true := decide_eq_true (by have := HM.out.2.1; omega)
  clear hl hk
  go_enter Tryz.func6, Tryz.ntmps6
  go_wp2_with (first
      | (go_at_call 7; refine (hal _).mono ?_; rintro e w1 ⟨rfl, hg1⟩; have H1 := Lib.hid (H0.out.on hg1); clear hg1; have u0 := cell_of_row w1 _ 0 _ _ _ H1.out.2; have u1 := cell_of_row w1 _ 1 _ _ _ H1.out.2; have u2 := cell_of_row w1 _ 2 _ _ _ H1.out.2; have u3 := cell_of_row w1 _ 3 _ _ _ H1.out.2; have u4 := cell_of_row w1 _ 4 _ _ _ H1.out.2; have u5 := cell_of_row w1 _ 5 _ _ _ H1.out.2; have u6 := cell_of_row w1 _ 6 _ _ _ H1.out.2)
      | (go_at_call 8; refine (hbig _).mono ?_; rintro e w2 ⟨rfl, hg2⟩; have H2 := Lib.hid (H1.out.on hg2); clear hg2; clear u0 u1 u2 u3 u4 u5 u6; have u0 := cell_of_row w2 _ 0 _ _ _ H2.out.2; have u1 := cell_of_row w2 _ 1 _ _ _ H2.out.2; have u2 := cell_of_row w2 _ 2 _ _ _ H2.out.2; have u3 := cell_of_row w2 _ 3 _ _ _ H2.out.2; have u4 := cell_of_row w2 _ 4 _ _ _ H2.out.2; have u5 := cell_of_row w2 _ 5 _ _ _ H2.out.2; have u6 := cell_of_row w2 _ 6 _ _ _ H2.out.2)
      | (go_at_call 9; have q := F1; refine (HB2.out _ H2.out.1).mono ?_; rintro e w9 ⟨rfl, hw9⟩; obtain rfl := hw9.symm)
      | (go_at_call 9; refine (HB1.out _ H2.out.1).mono ?_; rintro e w9 ⟨rfl, hw9⟩; obtain rfl := hw9.symm; have F1 := Lib.hid H2.out.1)
      | (go_at_call 11; refine (HCK.out _ H2.out.1).mono ?_; rintro e w3 ⟨rfl, hg3⟩; have H3 := Lib.hid (H2.out.on hg3); clear hg3; clear u0 u1 u2 u3 u4 u5 u6; have u0 := cell_of_row w3 _ 0 _ _ _ H3.out.2; have u1 := cell_of_row w3 _ 1 _ _ _ H3.out.2; have u2 := cell_of_row w3 _ 2 _ _ _ H3.out.2; have u3 := cell_of_row w3 _ 3 _ _ _ H3.out.2; have u4 := cell_of_row w3 _ 4 _ _ _ H3.out.2; have u5 := cell_of_row w3 _ 5 _ _ _ H3.out.2; have u6 := cell_of_row w3 _ 6 _ _ _ H3.out.2))
  go_ret
  exact ⟨rfl, H2.out.1⟩

set_option maxHeartbeats 8000000 in
set_option maxRecDepth 100000 in
theorem xtwo_e5 (w : World) (c : Cd.Code) (ka : Option Addr) (kc : Nat) (ia : Option Addr) (ic : Nat) (ba : Option Addr) (bc : Nat) (a1 a2 : Option Addr) (L1 L2 : List (List Int)) (c1 c2 : Nat) (hc : CodeAt w c ka ia ba) (hs : I64s c) (hkc : c.kinds.length ≤ kc) (h1 : RowsAt w a1 L1) (h2 : RowsAt w a2 L2) (m1 : L1.length ≤ maxLen) (m2 : L2.length ≤ maxLen) (hq0 : bigB21 c = false) (hq1 : bigR L1 = false) (hq2 : bigR L2 = false) (hk : L1.length ≤ 20) (hl : L2.length ≤ 20) (hr : Cd.check c ≠ 0) : Calls Tryz.prog 6 #[.agg (codeV c ka kc ia ic ba bc), .slice a1 L1.length c1, .slice a2 L2.length c2] w fun e w' => e = .returned (.bool true) ∧ w.grownBy w' none := by
  have hal := fun V => alive21_any V
  have hbig := fun V => xbig19_any V c ka kc ia ic ba bc ⟨hs.2.2.2.2.2.2.2.1, hs.2.2.2.2.2.2.2.2.1, hs.2.2.2.2.2.2.2.2.2⟩
  have HB1 := Lib.hid (fun V (hg : w.grownBy V none) => big11_any V a1 L1 c1 (h1.on hg) m1)
  have HB2 := Lib.hid (fun V (hg : w.grownBy V none) => big11_any V a2 L2 c2 (h2.on hg) m2)
  have HCK := Lib.hid (fun V (hg : w.grownBy V none) => rcheck_any V c ka kc ia ic ba bc (hc.on hg) hs)
  have hnum := fun k V => num21_any k V
  have hg0 := World.grownBy_alloc w (.cells (codeV c ka kc ia ic ba bc) 25) none
  have hr0 := heap_alloc_new w (.cells (codeV c ka kc ia ic ba bc) 25)
  have H0 : Hid (Bw w w.heap.size (codeV c ka kc ia ic ba bc) (w.alloc (.cells (codeV c ka kc ia ic ba bc) 25))) := Lib.hid ⟨hg0, hr0⟩
  clear hg0 hr0
  have HA := Lib.hid (And.intro hc (And.intro hs (And.intro hkc (And.intro h1 (And.intro h2 (And.intro m1 m2))))))
  have n1 : L1.length ≤ 9223372036854775807 := by simpa [maxLen] using m1
  have n2 : L2.length ≤ 9223372036854775807 := by simpa [maxLen] using m2
  clear hc hs hkc h1 h2 m1 m2
  obtain ⟨nk, hnk⟩ : ∃ n, c.kinds.length = n := ⟨_, rfl⟩
  obtain ⟨ni, hni⟩ : ∃ n, c.init.length = n := ⟨_, rfl⟩
  obtain ⟨nb, hnb⟩ : ∃ n, c.body.length = n := ⟨_, rfl⟩
  obtain ⟨x1, hx1⟩ : ∃ n, c.ins = n := ⟨_, rfl⟩
  obtain ⟨x2, hx2⟩ : ∃ n, c.outs = n := ⟨_, rfl⟩
  obtain ⟨x3, hx3⟩ : ∃ n, c.cells = n := ⟨_, rfl⟩
  obtain ⟨x4, hx4⟩ : ∃ n, c.stack = n := ⟨_, rfl⟩
  obtain ⟨N1, hN1⟩ : ∃ n, L1.length = n := ⟨_, rfl⟩
  obtain ⟨N2, hN2⟩ : ∃ n, L2.length = n := ⟨_, rfl⟩
  obtain ⟨R, hR⟩ : ∃ n, Cd.check c = n := ⟨_, rfl⟩
  obtain ⟨B0, hB0⟩ : ∃ n, bigB21 c = n := ⟨_, rfl⟩
  obtain ⟨B1, hB1⟩ : ∃ n, bigR L1 = n := ⟨_, rfl⟩
  obtain ⟨B2, hB2⟩ : ∃ n, bigR L2 = n := ⟨_, rfl⟩
  unfold codeV at hbig HCK H0 ⊢
  simp only [hnk, hni, hnb, hx1, hx2, hx3, hx4, hB0] at hbig
  simp only [hnk, hni, hnb, hx1, hx2, hx3, hx4, hR] at HCK
  simp only [hnk, hni, hnb, hx1, hx2, hx3, hx4] at H0
  simp only [hN1, hB1] at HB1
  simp only [hN2, hB2] at HB2
  simp only [hnk, hni, hnb, hx1, hx2, hx3, hx4, hN1, hN2]
  rw [hN1] at n1
  rw [hN2] at n2
  have HN := Lib.hid (And.intro hnk (And.intro hni (And.intro hnb (And.intro hx1 (And.intro hx2 (And.intro hx3 hx4))))))
  have HM := Lib.hid (And.intro hN1 (And.intro hN2 hR))
  have HQ := Lib.hid (And.intro hB0 (And.intro hB1 hB2))
  clear hnk hni hnb hx1 hx2 hx3 hx4 hN1 hN2 hR hB0 hB1 hB2
  have hB0 : B0 = false := HQ.out.1.symm.trans hq0
  have hB1 : B1 = false := HQ.out.2.1.symm.trans hq1
  have hB2 : B2 = false := HQ.out.2.2.symm.trans hq2
  subst hB0 hB1 hB2
  clear hq0 hq1 hq2
  have e3 : N1 ≤ 20 := by have := HM.out.1; omega
  have e4 : N2 ≤ 20 := by have := HM.out.2.1; omega
  have e5 : (R != 0) = true := by have := HM.out.2.2; simp; omega
  clear hl hk hr
  go_enter Tryz.func6, Tryz.ntmps6
  go_wp2_with (first
      | (go_at_call 7; refine (hal _).mono ?_; rintro e w1 ⟨rfl, hg1⟩; have H1 := Lib.hid (H0.out.on hg1); clear hg1; have u0 := cell_of_row w1 _ 0 _ _ _ H1.out.2; have u1 := cell_of_row w1 _ 1 _ _ _ H1.out.2; have u2 := cell_of_row w1 _ 2 _ _ _ H1.out.2; have u3 := cell_of_row w1 _ 3 _ _ _ H1.out.2; have u4 := cell_of_row w1 _ 4 _ _ _ H1.out.2; have u5 := cell_of_row w1 _ 5 _ _ _ H1.out.2; have u6 := cell_of_row w1 _ 6 _ _ _ H1.out.2)
      | (go_at_call 8; refine (hbig _).mono ?_; rintro e w2 ⟨rfl, hg2⟩; have H2 := Lib.hid (H1.out.on hg2); clear hg2; clear u0 u1 u2 u3 u4 u5 u6; have u0 := cell_of_row w2 _ 0 _ _ _ H2.out.2; have u1 := cell_of_row w2 _ 1 _ _ _ H2.out.2; have u2 := cell_of_row w2 _ 2 _ _ _ H2.out.2; have u3 := cell_of_row w2 _ 3 _ _ _ H2.out.2; have u4 := cell_of_row w2 _ 4 _ _ _ H2.out.2; have u5 := cell_of_row w2 _ 5 _ _ _ H2.out.2; have u6 := cell_of_row w2 _ 6 _ _ _ H2.out.2)
      | (go_at_call 9; have q := F1; refine (HB2.out _ H2.out.1).mono ?_; rintro e w9 ⟨rfl, hw9⟩; obtain rfl := hw9.symm)
      | (go_at_call 9; refine (HB1.out _ H2.out.1).mono ?_; rintro e w9 ⟨rfl, hw9⟩; obtain rfl := hw9.symm; have F1 := Lib.hid H2.out.1)
      | (go_at_call 11; refine (HCK.out _ H2.out.1).mono ?_; rintro e w3 ⟨rfl, hg3⟩; have H3 := Lib.hid (H2.out.on hg3); clear hg3; clear u0 u1 u2 u3 u4 u5 u6; have u0 := cell_of_row w3 _ 0 _ _ _ H3.out.2; have u1 := cell_of_row w3 _ 1 _ _ _ H3.out.2; have u2 := cell_of_row w3 _ 2 _ _ _ H3.out.2; have u3 := cell_of_row w3 _ 3 _ _ _ H3.out.2; have u4 := cell_of_row w3 _ 4 _ _ _ H3.out.2; have u5 := cell_of_row w3 _ 5 _ _ _ H3.out.2; have u6 := cell_of_row w3 _ 6 _ _ _ H3.out.2))
  go_ret
  exact ⟨rfl, H3.out.1⟩

set_option maxHeartbeats 8000000 in
set_option maxRecDepth 100000 in
theorem xtwo_main (w : World) (c : Cd.Code) (ka : Option Addr) (kc : Nat) (ia : Option Addr) (ic : Nat) (ba : Option Addr) (bc : Nat) (a1 a2 : Option Addr) (L1 L2 : List (List Int)) (c1 c2 : Nat) (hc : CodeAt w c ka ia ba) (hs : I64s c) (hkc : c.kinds.length ≤ kc) (h1 : RowsAt w a1 L1) (h2 : RowsAt w a2 L2) (m1 : L1.length ≤ maxLen) (m2 : L2.length ≤ maxLen) (hq0 : bigB21 c = false) (hq1 : bigR L1 = false) (hq2 : bigR L2 = false) (hk : L1.length ≤ 20) (hl : L2.length ≤ 20) (hr : Cd.check c = 0) : Calls Tryz.prog 6 #[.agg (codeV c ka kc ia ic ba bc), .slice a1 L1.length c1, .slice a2 L2.length c2] w fun e w' => e = .returned (.bool true) ∧ w.grownBy w' none := by
  have hal := fun V => alive21_any V
  have hbig := fun V => xbig19_any V c ka kc ia ic ba bc ⟨hs.2.2.2.2.2.2.2.1, hs.2.2.2.2.2.2.2.2.1, hs.2.2.2.2.2.2.2.2.2⟩
  have HB1 := Lib.hid (fun V (hg : w.grownBy V none) => big11_any V a1 L1 c1 (h1.on hg) m1)
  have HB2 := Lib.hid (fun V (hg : w.grownBy V none) => big11_any V a2 L2 c2 (h2.on hg) m2)
  have HCK := Lib.hid (fun V (hg : w.grownBy V none) => rcheck_any V c ka kc ia ic ba bc (hc.on hg) hs)
  have hnum := fun k V => num21_any k V
  have hg0 := World.grownBy_alloc w (.cells (codeV c ka kc ia ic ba bc) 25) none
  have hr0 := heap_alloc_new w (.cells (codeV c ka kc ia ic ba bc) 25)
  have H0 : Hid (Bw w w.heap.size (codeV c ka kc ia ic ba bc) (w.alloc (.cells (codeV c ka kc ia ic ba bc) 25))) := Lib.hid ⟨hg0, hr0⟩
  clear hg0 hr0
  have HA := Lib.hid (And.intro hc (And.intro hs (And.intro hkc (And.intro h1 (And.intro h2 (And.intro m1 m2))))))
  have n1 : L1.length ≤ 9223372036854775807 := by simpa [maxLen] using m1
  have n2 : L2.length ≤ 9223372036854775807 := by simpa [maxLen] using m2
  clear hc hs hkc h1 h2 m1 m2
  obtain ⟨nk, hnk⟩ : ∃ n, c.kinds.length = n := ⟨_, rfl⟩
  obtain ⟨ni, hni⟩ : ∃ n, c.init.length = n := ⟨_, rfl⟩
  obtain ⟨nb, hnb⟩ : ∃ n, c.body.length = n := ⟨_, rfl⟩
  obtain ⟨x1, hx1⟩ : ∃ n, c.ins = n := ⟨_, rfl⟩
  obtain ⟨x2, hx2⟩ : ∃ n, c.outs = n := ⟨_, rfl⟩
  obtain ⟨x3, hx3⟩ : ∃ n, c.cells = n := ⟨_, rfl⟩
  obtain ⟨x4, hx4⟩ : ∃ n, c.stack = n := ⟨_, rfl⟩
  obtain ⟨N1, hN1⟩ : ∃ n, L1.length = n := ⟨_, rfl⟩
  obtain ⟨N2, hN2⟩ : ∃ n, L2.length = n := ⟨_, rfl⟩
  obtain ⟨R, hR⟩ : ∃ n, Cd.check c = n := ⟨_, rfl⟩
  obtain ⟨B0, hB0⟩ : ∃ n, bigB21 c = n := ⟨_, rfl⟩
  obtain ⟨B1, hB1⟩ : ∃ n, bigR L1 = n := ⟨_, rfl⟩
  obtain ⟨B2, hB2⟩ : ∃ n, bigR L2 = n := ⟨_, rfl⟩
  unfold codeV at hbig HCK H0 ⊢
  simp only [hnk, hni, hnb, hx1, hx2, hx3, hx4, hB0] at hbig
  simp only [hnk, hni, hnb, hx1, hx2, hx3, hx4, hR] at HCK
  simp only [hnk, hni, hnb, hx1, hx2, hx3, hx4] at H0
  simp only [hN1, hB1] at HB1
  simp only [hN2, hB2] at HB2
  simp only [hnk, hni, hnb, hx1, hx2, hx3, hx4, hN1, hN2]
  rw [hN1] at n1
  rw [hN2] at n2
  have HN := Lib.hid (And.intro hnk (And.intro hni (And.intro hnb (And.intro hx1 (And.intro hx2 (And.intro hx3 hx4))))))
  have HM := Lib.hid (And.intro hN1 (And.intro hN2 hR))
  have HQ := Lib.hid (And.intro hB0 (And.intro hB1 hB2))
  clear hnk hni hnb hx1 hx2 hx3 hx4 hN1 hN2 hR hB0 hB1 hB2
  have hB0 : B0 = false := HQ.out.1.symm.trans hq0
  have hB1 : B1 = false := HQ.out.2.1.symm.trans hq1
  have hB2 : B2 = false := HQ.out.2.2.symm.trans hq2
  subst hB0 hB1 hB2
  clear hq0 hq1 hq2
  have e3 : N1 ≤ 20 := by have := HM.out.1; omega
  have e4 : N2 ≤ 20 := by have := HM.out.2.1; omega
  obtain rfl : R = 0 := by rw [← HM.out.2.2]; exact hr
  have HOK := Lib.hid hr
  clear hl hk hr
  have hnb1 : 1 ≤ nb ∧ nb ≤ 60000 ∧ nk ≤ 8000 ∧ ni ≤ 8000 := by obtain ⟨y1, y2, y3, y4, y5, y6, y7⟩ := HN.out; obtain ⟨z1, z2, z3, z4, z5, z6, z7, z8, z9, z10, _⟩ := Ex.ok_parts HOK.out; omega
  go_enter Tryz.func6, Tryz.ntmps6
  go_upto_region 6 with (first
      | (go_at_call 7; refine (hal _).mono ?_; rintro e w1 ⟨rfl, hg1⟩; have H1 := Lib.hid (H0.out.on hg1); clear hg1; have u0 := cell_of_row w1 _ 0 _ _ _ H1.out.2; have u1 := cell_of_row w1 _ 1 _ _ _ H1.out.2; have u2 := cell_of_row w1 _ 2 _ _ _ H1.out.2; have u3 := cell_of_row w1 _ 3 _ _ _ H1.out.2; have u4 := cell_of_row w1 _ 4 _ _ _ H1.out.2; have u5 := cell_of_row w1 _ 5 _ _ _ H1.out.2; have u6 := cell_of_row w1 _ 6 _ _ _ H1.out.2)
      | (go_at_call 8; refine (hbig _).mono ?_; rintro e w2 ⟨rfl, hg2⟩; have H2 := Lib.hid (H1.out.on hg2); clear hg2; clear u0 u1 u2 u3 u4 u5 u6; have u0 := cell_of_row w2 _ 0 _ _ _ H2.out.2; have u1 := cell_of_row w2 _ 1 _ _ _ H2.out.2; have u2 := cell_of_row w2 _ 2 _ _ _ H2.out.2; have u3 := cell_of_row w2 _ 3 _ _ _ H2.out.2; have u4 := cell_of_row w2 _ 4 _ _ _ H2.out.2; have u5 := cell_of_row w2 _ 5 _ _ _ H2.out.2; have u6 := cell_of_row w2 _ 6 _ _ _ H2.out.2)
      | (go_at_call 9; have q := F1; refine (HB2.out _ H2.out.1).mono ?_; rintro e w9 ⟨rfl, hw9⟩; obtain rfl := hw9.symm)
      | (go_at_call 9; refine (HB1.out _ H2.out.1).mono ?_; rintro e w9 ⟨rfl, hw9⟩; obtain rfl := hw9.symm; have F1 := Lib.hid H2.out.1)
      | (go_at_call 11; refine (HCK.out _ H2.out.1).mono ?_; rintro e w3 ⟨rfl, hg3⟩; have H3 := Lib.hid (H2.out.on hg3); clear hg3; clear u0 u1 u2 u3 u4 u5 u6; have u0 := cell_of_row w3 _ 0 _ _ _ H3.out.2; have u1 := cell_of_row w3 _ 1 _ _ _ H3.out.2; have u2 := cell_of_row w3 _ 2 _ _ _ H3.out.2; have u3 := cell_of_row w3 _ 3 _ _ _ H3.out.2; have u4 := cell_of_row w3 _ 4 _ _ _ H3.out.2; have u5 := cell_of_row w3 _ 5 _ _ _ H3.out.2; have u6 := cell_of_row w3 _ 6 _ _ _ H3.out.2))
  obtain ⟨bx, hbx⟩ : ∃ b, b = w.heap.size := ⟨_, rfl⟩
  rw [← hbx] at H3 ⊢
  obtain ⟨b9, hb9⟩ : ∃ b, b = w3.heap.size := ⟨_, rfl⟩
  rw [← hb9]
  refine wp_asx (fun W4 hW4 => ?_)
  have hg4 : w3.grownBy W4 none := by rw [hW4]; exact World.grownBy_alloc w3 _ none
  have hr9 : W4.heap[b9]? = some (.cells #[.slice ka nk kc, .int .i64 x1, .int .i64 x2, .int .i64 x3, .int .i64 x4, .slice ia ni ic, .slice ba nb bc] 25 (0, 0)) := by rw [hW4, hb9]; exact heap_alloc_new w3 _
  have hne : bx ≠ b9 := by have := gl H3.out.2; omega
  have hb9w : w.heap.size ≤ b9 := by rw [hb9]; exact H3.out.1.size
  have H4 := Lib.hid (And.intro (H3.out.on hg4) (And.intro hr9 (And.intro hbx hb9)))
  clear hW4 hg4 hr9 H1 H2 H3 hbx hb9 hal hbig HB1 HB2 HCK H0 u0 u1 u2 u3 u4 u5 u6
  have hB4 : bx < W4.heap.size ∧ b9 < W4.heap.size := ⟨gl H4.out.1.2, gl H4.out.2.1⟩
  have cb0 := cell_of_row W4 bx 6 _ _ _ H4.out.1.2
  go_upto_region 7 with (at_builtin; refine wpList_plain rfl fun K' hK' => wp_app_inss W4 _ rfl W4.heap.size (Nat.le_refl _) ba bc c.body (by rw [HN.out.2.2.1]; rfl) (HA.out.1.body.on H4.out.1.1) (by rw [HN.out.2.2.1]; omega) (fun v' V4 hown hgr => hK' _ _ ?_); rw [HN.out.2.2.1] at hown; obtain ⟨a6, k6, rfl⟩ := own_form hown; have hr9 := (hgr.block b9 (gl H4.out.2.1) (by simp)).trans H4.out.2.1; have cs0 := cell_of_row V4 b9 6 _ _ _ hr9; have fs0 := frozen_of_row V4 b9 6 _ _ hr9; have HV4 := Lib.hid (And.intro hown (And.intro hgr hr9)); clear hown hgr hr9 cb0)
  refine wp_asx (fun W5 hW5 => ?_)
  have hr9 : W5.heap[b9]? = some (.cells #[.slice ka nk kc, .int .i64 x1, .int .i64 x2, .int .i64 x3, .int .i64 x4, .slice ia ni ic, .slice a6 nb k6] 25 (0, 0)) := by rw [hW5]; exact setrow2 _ HV4.out.2.2 rfl
  have hB : Bw w bx #[.slice ka nk kc, .int .i64 x1, .int .i64 x2, .int .i64 x3, .int .i64 x4, .slice ia ni ic, .slice ba nb bc] W5 := by
    have h0 := H4.out.1.on HV4.out.2.1
    rw [hW5]
    refine ⟨Kp.grown h0.1 (kp_set V4 b9 6 _) (fun k hk => by simp at hk; have := H4.out.2.2; have := H4.out.1.1.size; omega), ?_⟩
    exact (heap_setCell_other V4 ⟨b9, 6, none⟩ bx _ hne).trans h0.2
  have hkp : Kp [b9] W4 W5 := by rw [hW5]; exact (Kp.of0 HV4.out.2.1 _).set (by simp) _
  have H5 := Lib.hid (And.intro hB (And.intro hr9 hkp))
  have HS1 : Hid (W4.heap.size ≤ W5.heap.size) := Lib.hid hkp.size
  have HO5 : Hid (W5.ownsRow W4.heap.size 56 3 (.slice a6 nb k6) nb (insC c.body)) := Lib.hid (owns_on HV4.out.1 (fun j e => by rw [hW5]; exact heap_setCell_other V4 ⟨b9, 6, none⟩ j _ (fun e2 => by have := (HV4.out.1.lt j e).1; have h99 : j = b9 := e2; omega)))
  clear hW5 hr9 hB hkp cs0 fs0
  have cb1 := cell_of_row W5 bx 5 _ _ _ H5.out.1.2
  go_upto_region 8 with (at_builtin; refine wpList_plain rfl fun K' hK' => wp_app_nums W5 _ rfl W4.heap.size (HS1.out) ia ic c.init (by rw [HN.out.2.1]; rfl) (HA.out.1.init.on H5.out.1.1) (by rw [HN.out.2.1]; omega) (fun v' V5 hown hgr => hK' _ _ ?_); rw [HN.out.2.1] at hown; obtain ⟨a5, k5, rfl⟩ := own_form hown; have hr9 := (hgr.block b9 (gl H5.out.2.1) (by simp)).trans H5.out.2.1; have cs1 := cell_of_row V5 b9 5 _ _ _ hr9; have fs1 := frozen_of_row V5 b9 5 _ _ hr9; have HV5 := Lib.hid (And.intro hown (And.intro hgr hr9)); clear hown hgr hr9 cb1)
  refine wp_asx (fun W6 hW6 => ?_)
  have hr9 : W6.heap[b9]? = some (.cells #[.slice ka nk kc, .int .i64 x1, .int .i64 x2, .int .i64 x3, .int .i64 x4, .slice a5 ni k5, .slice a6 nb k6] 25 (0, 0)) := by rw [hW6]; exact setrow2 _ HV5.out.2.2 rfl
  have hB : Bw w bx #[.slice ka nk kc, .int .i64 x1, .int .i64 x2, .int .i64 x3, .int .i64 x4, .slice ia ni ic, .slice ba nb bc] W6 := by
    have h0 := H5.out.1.on HV5.out.2.1
    rw [hW6]
    refine ⟨Kp.grown h0.1 (kp_set V5 b9 5 _) (fun k hk => by simp at hk; have := H4.out.2.2; have := H4.out.1.1.size; omega), ?_⟩
    exact (heap_setCell_other V5 ⟨b9, 5, none⟩ bx _ hne).trans h0.2
  have hkp : Kp [b9] W5 W6 := by rw [hW6]; exact (Kp.of0 HV5.out.2.1 _).set (by simp) _
  have H6 := Lib.hid (And.intro hB (And.intro hr9 hkp))
  have HS2 : Hid (W4.heap.size ≤ W6.heap.size) := Lib.hid (Nat.le_trans HS1.out hkp.size)
  have HO6 : Hid (W6.ownsRow W4.heap.size 3 1 (.slice a5 ni k5) ni (ints c.init)) := Lib.hid (owns_on HV5.out.1 (fun j e => by rw [hW6]; exact heap_setCell_other V5 ⟨b9, 5, none⟩ j _ (fun e2 => by have := (HV5.out.1.lt j e).1; have h99 : j = b9 := e2; omega)))
  clear hW6 hr9 hB hkp cs1 fs1
  have cb2 := cell_of_row W6 bx 0 _ _ _ H6.out.1.2
  go_upto_region 9 with (at_builtin; refine wpList_plain rfl fun K' hK' => wp_app_nums W6 _ rfl W4.heap.size (HS2.out) ka kc c.kinds (by rw [HN.out.1]; rfl) (HA.out.1.kinds.on H6.out.1.1) (by rw [HN.out.1]; omega) (fun v' V6 hown hgr => hK' _ _ ?_); rw [HN.out.1] at hown; obtain ⟨a0, k0, rfl⟩ := own_form hown; have hr9 := (hgr.block b9 (gl H6.out.2.1) (by simp)).trans H6.out.2.1; have cs2 := cell_of_row V6 b9 0 _ _ _ hr9; have fs2 := frozen_of_row V6 b9 0 _ _ hr9; have HV6 := Lib.hid (And.intro hown (And.intro hgr hr9)); clear hown hgr hr9 cb2)
  refine wp_asx (fun W7 hW7 => ?_)
  have hr9 : W7.heap[b9]? = some (.cells #[.slice a0 nk k0, .int .i64 x1, .int .i64 x2, .int .i64 x3, .int .i64 x4, .slice a5 ni k5, .slice a6 nb k6] 25 (0, 0)) := by rw [hW7]; exact setrow2 _ HV6.out.2.2 rfl
  have hB : Bw w bx #[.slice ka nk kc, .int .i64 x1, .int .i64 x2, .int .i64 x3, .int .i64 x4, .slice ia ni ic, .slice ba nb bc] W7 := by
    have h0 := H6.out.1.on HV6.out.2.1
    rw [hW7]
    refine ⟨Kp.grown h0.1 (kp_set V6 b9 0 _) (fun k hk => by simp at hk; have := H4.out.2.2; have := H4.out.1.1.size; omega), ?_⟩
    exact (heap_setCell_other V6 ⟨b9, 0, none⟩ bx _ hne).trans h0.2
  have hkp : Kp [b9] W6 W7 := by rw [hW7]; exact (Kp.of0 HV6.out.2.1 _).set (by simp) _
  have H7 := Lib.hid (And.intro hB (And.intro hr9 hkp))
  have HS3 : Hid (W4.heap.size ≤ W7.heap.size) := Lib.hid (Nat.le_trans HS2.out hkp.size)
  have HO7 : Hid (W7.ownsRow W4.heap.size 3 1 (.slice a0 nk k0) nk (ints c.kinds)) := Lib.hid (owns_on HV6.out.1 (fun j e => by rw [hW7]; exact heap_setCell_other V6 ⟨b9, 0, none⟩ j _ (fun e2 => by have := (HV6.out.1.lt j e).1; have h99 : j = b9 := e2; omega)))
  clear hW7 hr9 hB hkp cs2 fs2
  have hO5 : W7.ownsRow W4.heap.size 56 3 (.slice a6 nb k6) nb (insC c.body) := owns_on HO5.out (fun j e => (H6.out.2.2.trans H7.out.2.2).block j (HO5.out.lt j e).2 (by have := (HO5.out.lt j e).1; simp; omega))
  have hO6 : W7.ownsRow W4.heap.size 3 1 (.slice a5 ni k5) ni (ints c.init) := owns_on HO6.out (fun j e => H7.out.2.2.block j (HO6.out.lt j e).2 (by have := (HO6.out.lt j e).1; simp; omega))
  have HOW := Lib.hid (And.intro hO5 (And.intro hO6 HO7.out))
  have hnewd := new_any W7 c a0 k0 a5 k5 a6 k6 ⟨nums_own HO7.out HN.out.1, nums_own hO6 HN.out.2.1, inss_own hO5 HN.out.2.2.1⟩ HA.out.2.1 (by rw [HN.out.1]; exact own_room HO7.out)
  have hnewc := fun V (hg : w.grownBy V none) => new_any V c ka kc ia ic ba bc (HA.out.1.on hg) HA.out.2.1 HA.out.2.2.1
  obtain ⟨l1, l2, l3, l4, l5, l6, l7⟩ := HN.out
  unfold codeV at hnewd hnewc
  simp only [l1, l2, l3, l4, l5, l6, l7] at hnewd hnewc
  have HNC := Lib.hid hnewc
  have HND := Lib.hid hnewd
  clear hnewc hnewd l1 l2 l3 l4 l5 l6 l7 hO5 hO6 HV4 HV5 HV6 H5 H6 HO5 HO6 HO7
  have u0 := cell_of_row W7 b9 0 _ _ _ H7.out.2.1
  have u1 := cell_of_row W7 b9 1 _ _ _ H7.out.2.1
  have u2 := cell_of_row W7 b9 2 _ _ _ H7.out.2.1
  have u3 := cell_of_row W7 b9 3 _ _ _ H7.out.2.1
  have u4 := cell_of_row W7 b9 4 _ _ _ H7.out.2.1
  have u5 := cell_of_row W7 b9 5 _ _ _ H7.out.2.1
  have u6 := cell_of_row W7 b9 6 _ _ _ H7.out.2.1
  go_upto_region 13 with (first
    | (go_at_call 10; have q := H8; refine (HNC.out _ H8.out.1.1).mono ?_; rintro e w10 ⟨hg10, _, hm10⟩; obtain ⟨o, rfl, iv2, nv2, kv2, bv2, hO⟩ := hm10 HOK.out; have H10 := Lib.hid (And.intro (H8.out.1.on hg10) (And.intro hg10 hO)); clear hg10 hm10 hO)
    | (go_at_call 10; refine HND.out.mono ?_; rintro e w8 ⟨hg8, _, hm8⟩; obtain ⟨m, rfl, iv, nv, kv, bv, hM⟩ := hm8 HOK.out; have H8 := Lib.hid (And.intro (H7.out.1.on hg8) (And.intro hg8 hM)); clear hg8 hm8 hM u0 u1 u2 u3 u4 u5 u6; have v0 := cell_of_row w8 bx 0 _ _ _ H8.out.1.2; have v1 := cell_of_row w8 bx 1 _ _ _ H8.out.1.2; have v2 := cell_of_row w8 bx 2 _ _ _ H8.out.1.2; have v3 := cell_of_row w8 bx 3 _ _ _ H8.out.1.2; have v4 := cell_of_row w8 bx 4 _ _ _ H8.out.1.2; have v5 := cell_of_row w8 bx 5 _ _ _ H8.out.1.2; have v6 := cell_of_row w8 bx 6 _ _ _ H8.out.1.2))
  clear v0 v1 v2 v3 v4 v5 v6 HND HNC
  obtain ⟨X, hX⟩ : ∃ X : List Nat, X = (Value.slice a6 nb k6).ownBlock.toList ++ ((Value.slice a5 ni k5).ownBlock.toList ++ (Value.slice a0 nk k0).ownBlock.toList) := ⟨_, rfl⟩
  have HX : Hid (∀ j ∈ X, W4.heap.size ≤ j ∧ j < W7.heap.size) := Lib.hid (by
    intro j hj
    rw [hX] at hj
    simp only [List.mem_append, Option.mem_toList] at hj
    rcases hj with e | e | e
    · exact HOW.out.1.lt j e
    · exact HOW.out.2.1.lt j e
    · exact HOW.out.2.2.lt j e)
  have hr10 : w10.heap[b9]? = some (.cells #[.slice a0 nk k0, .int .i64 x1, .int .i64 x2, .int .i64 x3, .int .i64 x4, .slice a5 ni k5, .slice a6 nb k6] 25 (0, 0)) := by have h7 := H7.out.2.1; exact ((H8.out.2.1.trans H10.out.2.1).block b9 (gl h7) (by simp)).trans h7
  have HR10 := Lib.hid hr10
  have h69 : b9 ∉ X := fun h => by have := (HX.out b9 h).1; omega
  have HT6 : Hid (Th w10 a6 (nb * 3) ∧ (∀ g, a6 = some ⟨g, 0, none⟩ → g ∈ X) ∧ Th w10 a5 ni ∧ (∀ g, a5 = some ⟨g, 0, none⟩ → g ∈ X) ∧ Th w10 a0 nk ∧ (∀ g, a0 = some ⟨g, 0, none⟩ → g ∈ X)) := Lib.hid (by
    have hg := H8.out.2.1.trans H10.out.2.1
    have o1 := HOW.out.1.kept hg (by cases (Value.slice a6 nb k6).ownBlock <;> simp)
    have o2 := HOW.out.2.1.kept hg (by cases (Value.slice a5 ni k5).ownBlock <;> simp)
    have o3 := HOW.out.2.2.kept hg (by cases (Value.slice a0 nk k0).ownBlock <;> simp)
    refine ⟨th_own o1, fun g e => by rw [hX, e]; simp [Value.ownBlock], by simpa using th_own o2, fun g e => by rw [hX, e]; simp [Value.ownBlock], by simpa using th_own o3, fun g e => by rw [hX, e]; simp [Value.ownBlock]⟩)
  clear hX hr10 HOW
  have c96 := cell_of_row w10 b9 6 _ _ _ HR10.out
  go_wp2
  go_loopw [14] (fun iv wr => ∃ t : Nat, t ≤ nb ∧ iv = .int .i64 (t : Int) ∧ Hid (Kp X w10 wr ∧ Th wr a6 (nb * 3) ∧ Th wr a5 ni ∧ Th wr a0 nk)) (fun i _ => nb - (intOf i).toNat)
  case atStart => exact ⟨0, Nat.zero_le _, rfl, Lib.hid ⟨Kp.refl _ _, HT6.out.1, HT6.out.2.2.1, HT6.out.2.2.2.2.1⟩⟩
  case round =>
    obtain ⟨t, ht, rfl, HT⟩ := hrel
    have hr9 := (HT.out.1.block b9 (gl HR10.out) h69).trans HR10.out
    have c6 := cell_of_row wr b9 6 _ _ _ hr9
    by_cases hlt : t < nb
    · obtain ⟨g6, rfl, v0, p0, f0⟩ := HT.out.2.1 (t * 3) (by omega)
      obtain ⟨_, e1, v1, p1, f1⟩ := HT.out.2.1 (t * 3 + 1) (by omega)
      obtain ⟨_, e2, v2, p2, f2⟩ := HT.out.2.1 (t * 3 + 2) (by omega)
      cases e1
      cases e2
      have hg9 := HT6.out.2.1 g6 rfl
      clear hr9
      go_wp2
      exact ⟨⟨t + 1, by omega, by go_num, Lib.hid ⟨((HT.out.1.set hg9 _).set hg9 _).set hg9 _, ((HT.out.2.1.set _).set _).set _, ((HT.out.2.2.1.set _).set _).set _, ((HT.out.2.2.2.set _).set _).set _⟩⟩, by simp [intOf]; omega⟩
    · obtain rfl : nb = t := by omega
      have HT1 := HT
      clear hr9 HT
      have c5 := cell_of_row wr b9 5 _ _ _ ((HT1.out.1.block b9 (gl HR10.out) h69).trans HR10.out)
      go_wp2
      clear c5 c6
      go_loopw [15] (fun iv wr => ∃ t : Nat, t ≤ ni ∧ iv = .int .i64 (t : Int) ∧ Hid (Kp X w10 wr ∧ Th wr a6 (nb * 3) ∧ Th wr a5 ni ∧ Th wr a0 nk)) (fun i _ => ni - (intOf i).toNat)
      case atStart => exact ⟨0, Nat.zero_le _, rfl, HT1⟩
      case round =>
        obtain ⟨t, ht, rfl, HT⟩ := hrel
        have hr9 := (HT.out.1.block b9 (gl HR10.out) h69).trans HR10.out
        have c5 := cell_of_row wr b9 5 _ _ _ hr9
        by_cases hlt : t < ni
        · obtain ⟨g6, rfl, v0, p0, f0⟩ := HT.out.2.2.1 t (by omega)
          have hg9 := HT6.out.2.2.2.1 g6 rfl
          clear hr9
          go_wp2
          exact ⟨⟨t + 1, by omega, by go_num, Lib.hid ⟨HT.out.1.set hg9 _, HT.out.2.1.set _, HT.out.2.2.1.set _, HT.out.2.2.2.set _⟩⟩, by simp [intOf]; omega⟩
        · obtain rfl : ni = t := by omega
          have HT2 := HT
          clear hr9 HT
          have c0 := cell_of_row wr b9 0 _ _ _ ((HT2.out.1.block b9 (gl HR10.out) h69).trans HR10.out)
          go_wp2
          clear c0 c5
          go_loopw [16] (fun iv wr => ∃ t : Nat, t ≤ nk ∧ iv = .int .i64 (t : Int) ∧ Hid (Kp X w10 wr ∧ Th wr a6 (nb * 3) ∧ Th wr a5 ni ∧ Th wr a0 nk)) (fun i _ => nk - (intOf i).toNat)
          case atStart => exact ⟨0, Nat.zero_le _, rfl, HT2⟩
          case round =>
            obtain ⟨t, ht, rfl, HT⟩ := hrel
            have hr9 := (HT.out.1.block b9 (gl HR10.out) h69).trans HR10.out
            have c0 := cell_of_row wr b9 0 _ _ _ hr9
            by_cases hlt : t < nk
            · obtain ⟨g6, rfl, v0, p0, f0⟩ := HT.out.2.2.2 t (by omega)
              have hg9 := HT6.out.2.2.2.2.2 g6 rfl
              clear hr9
              go_wp2
              exact ⟨⟨t + 1, by omega, by go_num, Lib.hid ⟨HT.out.1.set hg9 _, HT.out.2.1.set _, HT.out.2.2.1.set _, HT.out.2.2.2.set _⟩⟩, by simp [intOf]; omega⟩
            · obtain rfl : nk = t := by omega
              have HT3 := HT
              clear hr9 HT
              have hbx : w.heap.size ≤ bx ∧ bx < W4.heap.size := ⟨by rw [H4.out.2.2.1]; exact Nat.le_refl _, hB4.1⟩
              have hbX : bx ∉ X := fun h => by have := (HX.out bx h).1; omega
              have hgw : w.grownBy wr none := Kp.grown H10.out.1.1 HT3.out.1 (fun j hj => by have := (HX.out j hj).1; have := H4.out.1.1.size; omega)
              have hrb := (HT3.out.1.block bx (gl H10.out.1.2) hbX).trans H10.out.1.2
              have u0 := cell_of_row wr bx 0 _ _ _ hrb
              have u1 := cell_of_row wr bx 1 _ _ _ hrb
              have u2 := cell_of_row wr bx 2 _ _ _ hrb
              have u3 := cell_of_row wr bx 3 _ _ _ hrb
              have u4 := cell_of_row wr bx 4 _ _ _ hrb
              have u5 := cell_of_row wr bx 5 _ _ _ hrb
              have u6 := cell_of_row wr bx 6 _ _ _ hrb
              have hrn := rnew_any w wr hgw c ka kc ia ic ba bc HA.out.1 HA.out.2.1 HOK.out
              unfold codeV at hrn
              rw [HN.out.1, HN.out.2.1, HN.out.2.2.1, HN.out.2.2.2.1, HN.out.2.2.2.2.1, HN.out.2.2.2.2.2.1, HN.out.2.2.2.2.2.2] at hrn
              have HRN := Lib.hid hrn
              clear hrn
              go_wp2_with (go_at_call 13; refine HRN.out.mono ?_; rintro e w14 ⟨hg14, r, rfl, ka', kc', ia', ic', ba', bc', cv, hR⟩; have H14 := Lib.hid (And.intro hg14 hR); clear hg14 hR)
              have HTW : Hid (∃ cm co, Tw w w14 W7.heap.size m w8.heap.size o wr.heap.size r c cm co cm) := Lib.hid (by
                have hM := H8.out.2.2
                have hO := H10.out.2.2
                have hR := H14.out.2
                have hg8 := H8.out.2.1
                have hg10 := H10.out.2.1
                have hk := HT3.out.1
                have hg14 := H14.out.1
                have z1 := hg8.size
                have z2 := hg10.size
                have z3 := hk.size
                have z4 := H7.out.1.1.size
                have hml := gl hM.row
                have hol := gl hO.row
                have b1 := hM.mb
                have b2 := hO.mb
                have b3 := hR.mb.2
                have xb : ∀ j ∈ X, j < W7.heap.size := fun j hj => (HX.out j hj).2
                have xm : ∀ {T : TypeId} {z n : Nat} {v : Value} {xs : List Value}, w8.ownsRow W7.heap.size T z v n xs → Apx X v := fun h => Apx.below h (fun j hj => .inl (xb j hj))
                have xo : ∀ {T : TypeId} {z n : Nat} {v : Value} {xs : List Value}, w10.ownsRow w8.heap.size T z v n xs → Apx X v := fun h => Apx.below h (fun j hj => .inl (by have := xb j hj; omega))
                have ym : ∀ {T : TypeId} {z n : Nat} {v : Value} {xs : List Value}, w8.ownsRow W7.heap.size T z v n xs → Apx [o, r] v := fun h => Apx.below h (fun j hj => .inr (by simp at hj; omega))
                have yo : ∀ {T : TypeId} {z n : Nat} {v : Value} {xs : List Value}, w10.ownsRow w8.heap.size T z v n xs → Apx [m, r] v := fun h => Apx.below h (fun j hj => by simp at hj; omega)
                exact ⟨c.init, c.init, iv, nv, kv, bv, iv2, nv2, kv2, bv2, ka', kc', ia', ic', ba', bc', cv, hgw.trans hg14, ((hM.on hg10).kp hk (fun h => by have := xb m h; omega) (xm hM.init) (xm hM.now) (xm hM.kinds) (xm hM.body)).on hg14, (hO.kp hk (fun h => by have := xb o h; omega) (xo hO.init) (xo hO.now) (xo hO.kinds) (xo hO.body)).on hg14, hR, by omega, by omega, by omega, ⟨z4, by omega⟩, ym hM.init, ym hM.now, ym hM.kinds, ym hM.body, yo hO.init, yo hO.now, yo hO.kinds, yo hO.body, Apx.below hR.now (fun j hj => .inl (by simp at hj; omega))⟩)
              clear u0 u1 u2 u3 u4 u5 u6 hrb HRN HT1 HT2
              obtain ⟨wx, hwx⟩ : ∃ wx, wx = wr.heap.size := ⟨_, rfl⟩
              rw [← hwx] at HTW
              clear hwx
              go_loopw [18] (fun iv wr => ∃ t : Nat, t ≤ N1 ∧ iv = .int .i64 (t : Int) ∧ Hid (∃ cm co, Tw w wr W7.heap.size m w8.heap.size o wx r c cm co cm)) (fun i _ => N1 - (intOf i).toNat)
              case atStart => exact ⟨0, Nat.zero_le _, rfl, HTW⟩
              case round =>
                obtain ⟨t, ht, rfl, HT⟩ := hrel
                obtain ⟨cm, co, hT⟩ := HT.out
                by_cases hlt : t < N1
                · obtain ⟨l, hx⟩ : ∃ l, L1[t]? = some l := ⟨_, List.getElem?_eq_getElem (by rw [HM.out.1]; exact hlt)⟩
                  obtain ⟨b1, e1, ra, rc, rfl, p, hnl, hll, hlm, hli⟩ := HA.out.2.2.2.1 t l hx
                  have p0 := hT.gw.cell p (by simp)
                  have HL := Lib.hid (And.intro p (And.intro hnl (And.intro hlm hli)))
                  obtain ⟨TT, hTT⟩ : ∃ TT, Ex.tickR c cm l = TT := ⟨_, rfl⟩
                  obtain ⟨TO, TN, TE, TC⟩ := TT
                  have HTT := Lib.hid hTT
                  have HTL : Hid (TO.length ≤ maxLen) := Lib.hid (by have := Ex.tickR_len HOK.out cm l; rw [hTT] at this; have := Ex.ok_parts HOK.out; unfold maxLen; simp at *; omega)
                  have HT0 := Lib.hid hT
                  have HSZ : Hid True := Lib.hid trivial
                  clear p hnl hll hlm hli hx hTT hT HT
                  by_cases hlt2 : t < N2
                  · obtain ⟨l2, hx2⟩ : ∃ l2, L2[t]? = some l2 := ⟨_, List.getElem?_eq_getElem (by rw [HM.out.2.1]; exact hlt2)⟩
                    obtain ⟨b2, e2, ra2, rc2, rfl, p, hnl, hll, hlm, hli⟩ := HA.out.2.2.2.2.1 t l2 hx2
                    have pp0 := HT0.out.gw.cell p (by simp)
                    have HL2 := Lib.hid (And.intro p (And.intro hnl (And.intro hlm hli)))
                    clear p hnl hll hlm hli hx2
                    go_wp2_with (first
                      | (go_at_call 14; have q := FO; refine (FO.out.1.tick_m HOK.out HA.out.2.1 rc (HL.out.2.1.on FO.out.1.gw) HL.out.2.2.1 HL.out.2.2.2).mono ?_; rintro e w22 ⟨hT2, hk2, va, rfl, hoa⟩; rw [HTT.out] at hT2 hoa ⊢; obtain ⟨aa, ca, rfl⟩ := own_form hoa; have p2 := hT2.gw.cell HL.out.1 (by simp); have FM := Lib.hid (And.intro hT2 hoa); clear hT2 hoa hk2)
                      | (go_at_call 14; refine (HT0.out.tick_o HOK.out HA.out.2.1 rc2 (HL2.out.2.1.on HT0.out.gw) HL2.out.2.2.1 HL2.out.2.2.2).mono ?_; rintro e w21 ⟨hT1, hk1, vo, rfl, _⟩; have p1 := hT1.gw.cell HL.out.1 (by simp); have FO := Lib.hid (And.intro hT1 hk1.size); clear hT1 hk1)
                      | (go_at_call 15; refine (FM.out.1.tick_r HOK.out HA.out.2.1 rc (HL.out.2.1.on FM.out.1.gw) HL.out.2.2.1 HL.out.2.2.2).mono ?_; rintro e w23 ⟨hT3, hk3, vb, rfl, hob⟩; rw [HTT.out] at hT3 hob ⊢; obtain ⟨ab, cb, rfl⟩ := own_form hob; have hoa3 := owns_on FM.out.2 (fun j e2 => hk3.block j (FM.out.2.lt j e2).2 (by have h9 := (FM.out.2.lt j e2).1; have h8 := HT0.out.rlt; have h7 := FO.out.2; simp; omega)); have FR := Lib.hid (And.intro hT3 (And.intro hoa3 hob)); clear hT3 hob hk3 hoa3)
                      | (go_at_call 12; refine (hnum _ _).mono ?_; rintro e w9 ⟨rfl, hw9⟩; obtain rfl := hw9.symm)
                      | (go_at_call 16; refine (same21_yes w23 TO aa ab ca cb (nums_own FR.out.2.1 rfl) (nums_own FR.out.2.2 rfl) HTL.out).mono ?_; rintro e w24 ⟨rfl, hg24⟩; have FS := Lib.hid hg24; clear hg24))
                    exact ⟨⟨t + 1, by omega, by go_num, Lib.hid ⟨_, _, FR.out.1.on FS.out⟩⟩, by simp [intOf]; omega⟩
                  · skip
                    go_wp2_with (first
                      | (go_at_call 14; refine (HT0.out.tick_m HOK.out HA.out.2.1 rc (HL.out.2.1.on HT0.out.gw) HL.out.2.2.1 HL.out.2.2.2).mono ?_; rintro e w22 ⟨hT2, hk2, va, rfl, hoa⟩; rw [HTT.out] at hT2 hoa ⊢; obtain ⟨aa, ca, rfl⟩ := own_form hoa; have p2 := hT2.gw.cell HL.out.1 (by simp); have FM := Lib.hid (And.intro hT2 hoa); clear hT2 hoa hk2)
                      | (go_at_call 15; refine (FM.out.1.tick_r HOK.out HA.out.2.1 rc (HL.out.2.1.on FM.out.1.gw) HL.out.2.2.1 HL.out.2.2.2).mono ?_; rintro e w23 ⟨hT3, hk3, vb, rfl, hob⟩; rw [HTT.out] at hT3 hob ⊢; obtain ⟨ab, cb, rfl⟩ := own_form hob; have hoa3 := owns_on FM.out.2 (fun j e2 => hk3.block j (FM.out.2.lt j e2).2 (by have h9 := (FM.out.2.lt j e2).1; have h8 := HT0.out.rlt; have h7 := h8; simp; omega)); have FR := Lib.hid (And.intro hT3 (And.intro hoa3 hob)); clear hT3 hob hk3 hoa3)
                      | (go_at_call 12; refine (hnum _ _).mono ?_; rintro e w9 ⟨rfl, hw9⟩; obtain rfl := hw9.symm)
                      | (go_at_call 16; refine (same21_yes w23 TO aa ab ca cb (nums_own FR.out.2.1 rfl) (nums_own FR.out.2.2 rfl) HTL.out).mono ?_; rintro e w24 ⟨rfl, hg24⟩; have FS := Lib.hid hg24; clear hg24))
                    exact ⟨⟨t + 1, by omega, by go_num, Lib.hid ⟨_, _, FR.out.1.on FS.out⟩⟩, by simp [intOf]; omega⟩
                · obtain rfl : N1 = t := by omega
                  have HF := Lib.hid hT.gw
                  clear hT HT
                  go_wp2
                  go_ret
                  exact ⟨rfl, HF.out⟩

theorem execTwo_run (w : World) (c : Cd.Code) (ka : Option Addr) (kc : Nat) (ia : Option Addr) (ic : Nat) (ba : Option Addr) (bc : Nat) (a1 a2 : Option Addr) (L1 L2 : List (List Int)) (c1 c2 : Nat) (hc : CodeAt w c ka ia ba) (hs : I64s c) (hkc : c.kinds.length ≤ kc) (h1 : RowsAt w a1 L1) (h2 : RowsAt w a2 L2) (m1 : L1.length ≤ maxLen) (m2 : L2.length ≤ maxLen) :
    Calls Tryz.prog 6 #[.agg (codeV c ka kc ia ic ba bc), .slice a1 L1.length c1, .slice a2 L2.length c2] w fun e w' => e = .returned (.bool true) ∧ w.grownBy w' none := by
  rcases Bool.eq_false_or_eq_true (bigB21 c) with q0 | q0
  · exact xtwo_e0 w c ka kc ia ic ba bc a1 a2 L1 L2 c1 c2 hc hs hkc h1 h2 m1 m2 q0
  rcases Bool.eq_false_or_eq_true (bigR L1) with q1 | q1
  · exact xtwo_e1 w c ka kc ia ic ba bc a1 a2 L1 L2 c1 c2 hc hs hkc h1 h2 m1 m2 q0 q1
  rcases Bool.eq_false_or_eq_true (bigR L2) with q2 | q2
  · exact xtwo_e2 w c ka kc ia ic ba bc a1 a2 L1 L2 c1 c2 hc hs hkc h1 h2 m1 m2 q0 q1 q2
  rcases Nat.lt_or_ge 20 L1.length with l1 | l1
  · exact xtwo_e3 w c ka kc ia ic ba bc a1 a2 L1 L2 c1 c2 hc hs hkc h1 h2 m1 m2 q0 q1 q2 l1
  rcases Nat.lt_or_ge 20 L2.length with l2 | l2
  · exact xtwo_e4 w c ka kc ia ic ba bc a1 a2 L1 L2 c1 c2 hc hs hkc h1 h2 m1 m2 q0 q1 q2 l1 l2
  by_cases hr : Cd.check c = 0
  · exact xtwo_main w c ka kc ia ic ba bc a1 a2 L1 L2 c1 c2 hc hs hkc h1 h2 m1 m2 q0 q1 q2 l1 l2 hr
  · exact xtwo_e5 w c ka kc ia ic ba bc a1 a2 L1 L2 c1 c2 hc hs hkc h1 h2 m1 m2 q0 q1 q2 l1 l2 hr
end Go.Proofs.YtlppifnepckpiaaGreat
