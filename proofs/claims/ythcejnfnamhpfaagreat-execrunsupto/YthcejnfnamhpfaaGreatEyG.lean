/- Stage 21: ExecRuns: the walk. -/
import Derived.Test.YthcejnfnamhpfaaGreatEyF
namespace Go.Proofs.YthcejnfnamhpfaaGreat
open Go.RowKit Go.Maps Go.WideMaps

theorem Ex.runGo_len (c : Cd.Code) : ∀ (L : List (List Int)) (cells : List Int) (acc : List (List Int)), (Ex.runGo c cells L acc).1.length ≤ acc.length + L.length
  | [], _, _ => by simp [Ex.runGo]
  | i :: r, cells, acc => by
    rw [Ex.runGo]
    split
    · have := Ex.runGo_len c r (Ex.tickR c cells i).2.2.2 (acc ++ [(Ex.tickR c cells i).1])
      simp at this ⊢
      omega
    · simp
theorem Ex.runR_len (c : Cd.Code) (L : List (List Int)) : (Ex.runR c L).1.length ≤ L.length := by
  unfold Ex.runR
  split
  · split
    · simp
    · have := Ex.runGo_len c L c.init []
      simpa using this
  · simp
/-- ticks that Big lets pass are few and short, where none is too great for it -/
theorem bg_few : ∀ (L : List (List Int)) (z : Int), 0 ≤ z → z ≤ 2000 → (∀ l ∈ L, l.length ≤ 1048576) → bg L z ≤ 2000 → z + L.length ≤ 2000 ∧ ∀ l ∈ L, l.length ≤ 2000
  | [], _, _, h1, _, _ => ⟨by simpa using h1, fun l h => by cases h⟩
  | l :: r, z, h0, h1, h2, h3 => by
    have hl := h2 l (List.mem_cons_self ..)
    rw [bg, if_pos h1] at h3
    have e : wrap64 (wrap64 (z + 1) + l.length) = z + 1 + l.length := by unfold wrap64; omega
    rw [e] at h3
    by_cases h4 : z + 1 + l.length ≤ 2000
    · obtain ⟨h5, h6⟩ := bg_few r _ (by omega) h4 (fun y hy => h2 y (List.mem_cons_of_mem _ hy)) h3
      refine ⟨by rw [List.length_cons]; omega, fun x hx => ?_⟩
      rcases List.mem_cons.1 hx with rfl | hx
      · omega
      · exact h6 x hx
    · rw [bg_over h4] at h3
      exact absurd h3 h4
def By (w : World) (bx : Nat) (row : Array Value) (V : World) : Prop := w.grownBy V none ∧ V.heap[bx]? = some (.cells row 25 (0, 0))
theorem By.on {w V V' : World} {bx : Nat} {row : Array Value} (h : By w bx row V) (hg : V.grownBy V' none) : By w bx row V' := ⟨h.1.trans hg, (hg.block bx (gl h.2) (by simp)).trans h.2⟩
set_option maxHeartbeats 8000000 in
set_option maxRecDepth 100000 in
theorem execRuns_run (w : World) (c : Cd.Code) (ka : Option Addr) (kc : Nat) (ia : Option Addr) (ic : Nat) (ba : Option Addr) (bc : Nat) (a1 : Option Addr) (L1 : List (List Int)) (c1 : Nat) (hc : CodeAt w c ka ia ba) (hs : I64s c) (hkc : c.kinds.length ≤ kc) (h1 : RowsAt w a1 L1) (m1 : L1.length ≤ maxLen) (hb1 : ∀ l ∈ L1, l.length ≤ 1048576) :
    Calls Tryz.prog 4 #[.agg (codeV c ka kc ia ic ba bc), .slice a1 L1.length c1] w fun e w' => e = .returned (.bool true) ∧ w.grownBy w' none := by
  have hal := fun V => alive21_any V
  have hbig := fun V => xbig19_any V c ka kc ia ic ba bc ⟨hs.2.2.2.2.2.2.2.1, hs.2.2.2.2.2.2.2.2.1, hs.2.2.2.2.2.2.2.2.2⟩
  have hB1 := fun V (hg : w.grownBy V none) => big11_any V a1 L1 c1 (h1.on hg) m1
  have hnum := fun k V => num21_any k V
  obtain ⟨W0, hW0⟩ : ∃ W0, W0 = w.alloc (.cells (codeV c ka kc ia ic ba bc) 25) := ⟨_, rfl⟩
  have h0 : By w w.heap.size (codeV c ka kc ia ic ba bc) W0 := by rw [hW0]; exact ⟨World.grownBy_alloc _ _ _, heap_alloc_new _ _⟩
  have n1 : L1.length ≤ 9223372036854775807 := by simpa [maxLen] using m1
  cases hq0 : bigB21 c with
  | true =>
    rw [hq0] at hbig
    have HH := Lib.hid (And.intro hal (And.intro hbig h0))
    clear hal hbig h0 hB1 hc hs hkc h1 m1 hb1 hq0
    unfold codeV at HH hW0 ⊢
    generalize c.kinds.length = nk at *
    generalize c.init.length = ni at *
    generalize c.body.length = nb at *
    go_enter Tryz.func4, Tryz.ntmps4
    go_upto_region 1 with fail
    rw [← hW0]
    clear hW0
    go_wp2_with (first
      | (go_at_call 7; refine (HH.out.1 _).mono ?_; rintro e w1 ⟨rfl, hg1⟩; have H1 := Lib.hid (HH.out.2.2.on hg1); clear hg1; have u0 := cell_of_row w1 _ 0 _ _ _ H1.out.2; have u1 := cell_of_row w1 _ 1 _ _ _ H1.out.2; have u2 := cell_of_row w1 _ 2 _ _ _ H1.out.2; have u3 := cell_of_row w1 _ 3 _ _ _ H1.out.2; have u4 := cell_of_row w1 _ 4 _ _ _ H1.out.2; have u5 := cell_of_row w1 _ 5 _ _ _ H1.out.2; have u6 := cell_of_row w1 _ 6 _ _ _ H1.out.2)
      | (go_at_call 8; refine (HH.out.2.1 _).mono ?_; rintro e w2 ⟨rfl, hg2⟩; have H2 := Lib.hid (H1.out.on hg2); clear hg2))
    go_ret
    exact ⟨rfl, H2.out.1⟩
  | false =>
    rw [hq0] at hbig
    cases hq1 : bigR L1 with
    | true =>
      rw [hq1] at hB1
      have HH := Lib.hid (And.intro hal (And.intro hbig (And.intro h0 hB1)))
      clear hal hbig h0 hB1 hc hs hkc h1 m1 hb1 hq0 hq1
      unfold codeV at HH hW0 ⊢
      generalize c.kinds.length = nk at *
      generalize c.init.length = ni at *
      generalize c.body.length = nb at *
      generalize L1.length = N at *
      go_enter Tryz.func4, Tryz.ntmps4
      go_upto_region 1 with fail
      rw [← hW0]
      clear hW0
      go_wp2_with (first
        | (go_at_call 7; refine (HH.out.1 _).mono ?_; rintro e w1 ⟨rfl, hg1⟩; have H1 := Lib.hid (HH.out.2.2.1.on hg1); clear hg1; have u0 := cell_of_row w1 _ 0 _ _ _ H1.out.2; have u1 := cell_of_row w1 _ 1 _ _ _ H1.out.2; have u2 := cell_of_row w1 _ 2 _ _ _ H1.out.2; have u3 := cell_of_row w1 _ 3 _ _ _ H1.out.2; have u4 := cell_of_row w1 _ 4 _ _ _ H1.out.2; have u5 := cell_of_row w1 _ 5 _ _ _ H1.out.2; have u6 := cell_of_row w1 _ 6 _ _ _ H1.out.2)
        | (go_at_call 8; refine (HH.out.2.1 _).mono ?_; rintro e w2 ⟨rfl, hg2⟩; have H2 := Lib.hid (H1.out.on hg2); clear hg2)
        | (go_at_call 9; refine (HH.out.2.2.2 _ H2.out.1).mono ?_; rintro e w9 ⟨rfl, hw9⟩; obtain rfl := hw9.symm))
      go_ret
      exact ⟨rfl, H2.out.1⟩
    | false =>
      rw [hq1] at hB1
      have hbg : bg L1 0 ≤ 2000 := by
        unfold bigR at hq1
        rw [decide_eq_false_iff_not] at hq1
        omega
      obtain ⟨hfew, hshort⟩ := bg_few L1 0 (by omega) (by omega) hb1 hbg
      have hN2 : L1.length ≤ 2000 := by omega
      have h64 : ∀ l ∈ L1, l.length ≤ maxLen ∧ ∀ y ∈ l, Bv.I64 y := fun l hl => by
        obtain ⟨i, hi, rfl⟩ := List.getElem_of_mem hl
        obtain ⟨_, _, _, _, _, _, _, _, q1, q2⟩ := h1 i L1[i] (List.getElem?_eq_getElem hi)
        exact ⟨q1, q2⟩
      obtain ⟨R, hRR⟩ : ∃ R, R = Ex.runR c L1 := ⟨_, rfl⟩
      have hRl : R.1.length ≤ maxLen := by have := Ex.runR_len c L1; rw [← hRR] at this; unfold maxLen; omega
      have hln := fun V (hg : w.grownBy V none) => lent_any V L1 a1 c1 (h1.on hg) hN2 hshort
      have hxr := fun V (hg : w.grownBy V none) G C (hF : FulAt V G C L1) => xruns_any V c ka kc ia ic ba bc (hc.on hg) hs hkc L1 (some ⟨G, 0, none⟩) C (hF.rows h64) hN2
      have hrr := fun V (hg : w.grownBy V none) => rruns_any V c ka kc ia ic ba bc (hc.on hg) hs L1 a1 c1 (h1.on hg) hN2
      have hst := fun V (hg : w.grownBy V none) G C (hF : FulAt V G C L1) => stay_any V L1 a1 c1 G C (h1.on hg) hF hN2 hshort
      rw [← hRR] at hrr
      unfold RunP at hxr hrr
      have hsr := fun V va vc vb vd (g1 : RowsQ V va R.1) (g2 : RowsQ V vb R.1) => srows_any V R.1 va vc vb vd g1 g2 hRl
      obtain ⟨E, hE⟩ : ∃ E, E = R.2 := ⟨_, rfl⟩
      obtain ⟨K, hK⟩ : ∃ K, K = R.1.length := ⟨_, rfl⟩
      simp only [← hRR] at hxr
      rw [← hE, ← hK] at hxr hrr
      rw [← hK] at hsr
      have e2 : (E == E) = true := beq_self_eq_true E
      have HH := Lib.hid (And.intro hal (And.intro hbig (And.intro h0 hB1)))
      have HX := Lib.hid (And.intro hln (And.intro hxr (And.intro hrr (And.intro hst hsr))))
      clear hal hbig h0 hB1 hc hs hkc h1 m1 hb1 hq0 hq1 hln hxr hrr hst hsr hbg hfew hshort h64 hRl hRR hE hK
      unfold codeV at HH HX hW0 ⊢
      generalize c.kinds.length = nk at *
      generalize c.init.length = ni at *
      generalize c.body.length = nb at *
      obtain ⟨N, hN⟩ : ∃ N, L1.length = N := ⟨_, rfl⟩
      simp only [hN] at HH HX hN2 n1 ⊢
      clear hN
      go_enter Tryz.func4, Tryz.ntmps4
      go_upto_region 1 with fail
      rw [← hW0]
      clear hW0
      go_wp2_with (first
        | (go_at_call 7; refine (HH.out.1 _).mono ?_; rintro e w1 ⟨rfl, hg1⟩; have H1 := Lib.hid (HH.out.2.2.1.on hg1); clear hg1; have u0 := cell_of_row w1 _ 0 _ _ _ H1.out.2; have u1 := cell_of_row w1 _ 1 _ _ _ H1.out.2; have u2 := cell_of_row w1 _ 2 _ _ _ H1.out.2; have u3 := cell_of_row w1 _ 3 _ _ _ H1.out.2; have u4 := cell_of_row w1 _ 4 _ _ _ H1.out.2; have u5 := cell_of_row w1 _ 5 _ _ _ H1.out.2; have u6 := cell_of_row w1 _ 6 _ _ _ H1.out.2)
        | (go_at_call 8; refine (HH.out.2.1 _).mono ?_; rintro e w2 ⟨rfl, hg2⟩; have H2 := Lib.hid (H1.out.on hg2); clear hg2; clear u0 u1 u2 u3 u4 u5 u6)
        | (go_at_call 9; refine (HH.out.2.2.2 _ H2.out.1).mono ?_; rintro e w9 ⟨rfl, hw9⟩; obtain rfl := hw9.symm)
        | (go_at_call 19; refine (HX.out.1 _ H2.out.1).mono ?_; rintro e w4 ⟨G, C, rfl, hF, hg4⟩; have H4 := Lib.hid (And.intro (H2.out.on hg4) hF); clear hg4 hF; have u0 := cell_of_row w4 _ 0 _ _ _ H4.out.1.2; have u1 := cell_of_row w4 _ 1 _ _ _ H4.out.1.2; have u2 := cell_of_row w4 _ 2 _ _ _ H4.out.1.2; have u3 := cell_of_row w4 _ 3 _ _ _ H4.out.1.2; have u4 := cell_of_row w4 _ 4 _ _ _ H4.out.1.2; have u5 := cell_of_row w4 _ 5 _ _ _ H4.out.1.2; have u6 := cell_of_row w4 _ 6 _ _ _ H4.out.1.2)
        | (go_at_call 20; refine (HX.out.2.1 _ H4.out.1.1 _ _ H4.out.2).mono ?_; rintro e w5 ⟨va, vc, rfl, hq5, hg5⟩; have H5 := Lib.hid (And.intro (H4.out.1.on hg5) (And.intro (H4.out.2.on hg5) hq5)); clear hg5 hq5; clear u0 u1 u2 u3 u4 u5 u6; have u0 := cell_of_row w5 _ 0 _ _ _ H5.out.1.2; have u1 := cell_of_row w5 _ 1 _ _ _ H5.out.1.2; have u2 := cell_of_row w5 _ 2 _ _ _ H5.out.1.2; have u3 := cell_of_row w5 _ 3 _ _ _ H5.out.1.2; have u4 := cell_of_row w5 _ 4 _ _ _ H5.out.1.2; have u5 := cell_of_row w5 _ 5 _ _ _ H5.out.1.2; have u6 := cell_of_row w5 _ 6 _ _ _ H5.out.1.2)
        | (go_at_call 21; refine (HX.out.2.2.1 _ H5.out.1.1).mono ?_; rintro e w6 ⟨vb, vd, rfl, hq6, hg6⟩; have H6 := Lib.hid (And.intro (H5.out.1.on hg6).1 (And.intro (H5.out.2.1.on hg6) (And.intro (H5.out.2.2.on hg6) hq6))); clear hg6 hq6; clear u0 u1 u2 u3 u4 u5 u6)
        | (go_at_call 22; refine (HX.out.2.2.2.1 _ H6.out.1 _ _ H6.out.2.1).mono ?_; rintro e w7 ⟨rfl, hg7⟩; have H7 := Lib.hid (And.intro (H6.out.1.trans hg7) (And.intro (H6.out.2.2.1.on hg7) (H6.out.2.2.2.on hg7))); clear hg7)
        | (go_at_call 12; refine (hnum _ _).mono ?_; rintro e w9 ⟨rfl, hw9⟩; obtain rfl := hw9.symm)
        | (go_at_call 23; refine (HX.out.2.2.2.2 _ _ _ _ _ H7.out.2.1 H7.out.2.2).mono ?_; rintro e w8 ⟨rfl, hg8⟩; have H8 := Lib.hid (H7.out.1.trans hg8); clear hg8))
      go_ret
      exact ⟨rfl, H8.out⟩
end Go.Proofs.YthcejnfnamhpfaaGreat
