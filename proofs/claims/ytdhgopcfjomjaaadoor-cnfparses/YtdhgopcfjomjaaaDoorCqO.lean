/- metronomelaw23.CnfTexts: the walk. -/
import Derived.Test.YtdhgopcfjomjaaaDoorCqN
namespace Go.Proofs.YtdhgopcfjomjaaaDoor
open Go.RowKit Go.Maps Go.WideMaps
open Go.Lib hiding intOf run_convert_string_bytes
open Cn (I64)

theorem Errs.on {w w' : World} (h : Errs w) (hg : w.grownBy w' none) : Errs w' := h.kp (Kp.of0 hg []) (fun k hk => by cases hk)
set_option maxRecDepth 100000 in
set_option maxHeartbeats 8000000 in
theorem cnfTexts_run (w : World) (f : Cn.Fm) (a : Option Addr) (cap : Nat) (h : RowsAt w a f.cl) (hm : f.cl.length ≤ 140737488351232) (hv : I64 f.vars) (ht : Tab w) (he : Errs w) :
    Calls Tryd.prog 6 #[.agg #[.int .i64 f.vars, .slice a f.cl.length cap]] w fun e w' => e = .returned (.bool true) ∧ w.grownBy w' none := by
  obtain ⟨W0, hW0⟩ : ∃ W0, W0 = w.alloc (.cells #[.int .i64 f.vars, .slice a f.cl.length cap] 24) := ⟨_, rfl⟩
  have hg0 : w.grownBy W0 none := by rw [hW0]; exact World.grownBy_alloc _ _ _
  have c0 : W0.cell? ⟨w.heap.size, 0, none⟩ = some (.int .i64 f.vars) := by rw [hW0]; simp
  have c1 : W0.cell? ⟨w.heap.size, 1, none⟩ = some (.slice a f.cl.length cap) := by rw [hW0]; simp
  have hal := alive23_any W0 (ht.on hg0)
  have hbg := fun V (hg : w.grownBy V none) => big23_any V f a cap (h.on hg) hm
  have htx := fun V (hg : w.grownBy V none) => text_any V f a cap (h.on hg) hm hv (ht.on hg)
  have hrt := fun V (hg : w.grownBy V none) => rtext_any V f a cap (h.on hg) hm hv
  have hrc := fun V (hg : w.grownBy V none) => rcheck_any V f a cap (h.on hg) hm hv
  have hgl : 1 < w.heap.size ∧ 2 < w.heap.size := by
    obtain ⟨e1, e2, q1, _, q2, _⟩ := he
    exact ⟨lt_of_some q1, lt_of_some q2⟩
  have hnum := fun k V => num23_any k V
  cases hB : bigF f with
  | true =>
    rw [hB] at hbg
    have HH := Lib.hid (And.intro hal (And.intro hbg hg0))
    clear hal hbg hg0 htx hrt hrc hB
    go_enter Tryd.func6, Tryd.ntmps6
    go_wp2_with (first
      | (rw [← hW0]; go_at_call 8; refine HH.out.1.mono ?_; rintro e w1 ⟨rfl, hg1⟩; have d0 := hg1.cell c0 (by simp); have d1 := hg1.cell c1 (by simp); have H1 := Lib.hid (HH.out.2.2.trans hg1); clear hg1 c0 c1)
      | (go_at_call 9; refine (HH.out.2.1 _ H1.out).mono ?_; rintro e w2 ⟨rfl, hg2⟩; have H2 := Lib.hid hg2; clear hg2))
    go_ret
    exact ⟨rfl, H1.out.trans H2.out⟩
  | false =>
    rw [hB] at hbg
    have hwt : Cn.wt f.cl ≤ 6000 := by
      unfold bigF at hB
      rw [Bool.or_eq_false_iff, decide_eq_false_iff_not, decide_eq_false_iff_not] at hB
      omega
    by_cases hc : Cn.check f = 0
    · have hF := Cn.formP_text hc
      have hsl : (Cn.txt f).length ≤ 2000000 := by
        have h1 := Cn.clsT_len f.cl h.i64
        have h2 := itoa_length_le f.vars hv.1 hv.2
        have h3 := Cn.wt_len f.cl
        have h4 := itoa_length_le (f.cl.length : Int) (by omega) (by omega)
        unfold Cn.txt Cn.headT
        simp only [List.length_append, List.length_cons, List.length_nil]
        omega
      have hT : Cn.textOf f = Cn.txt f := by unfold Cn.textOf; rw [if_pos hc]
      rw [hT] at htx hrt
      have hne : Cn.txt f ≠ [] := by unfold Cn.txt Cn.headT; simp
      obtain ⟨s, hs⟩ : ∃ s, s = Cn.txt f := ⟨_, rfl⟩
      rw [← hs] at htx hrt hF hsl hne
      have hpr := fun V (hg : w.grownBy V none) => parse_ok V s f.vars f.cl hF hc hsl (he.on hg) (by have := hg.size; omega)
      have e5 : s.isEmpty = false := by cases s with | nil => exact absurd rfl hne | cons y t => rfl
      have hsm := fun V (a2 : Option Addr) (c2 : Nat) (hg : w.grownBy V none) (hr : RowsAt V a2 f.cl) => sameF_any V f.vars f.cl a cap a2 c2 (h.on hg) hr hm
      have HH := Lib.hid (And.intro hal (And.intro hbg (And.intro htx (And.intro hrt (And.intro hpr (And.intro hsm hg0))))))
      obtain ⟨vs, L⟩ := f
      simp only at *
      obtain ⟨n, hn⟩ : ∃ n, n = L.length := ⟨_, rfl⟩
      rw [← hn] at HH c1 hW0 ⊢
      clear hal hbg htx hrt hrc hpr hsm hg0 hB hwt hc hF hsl hT hne hs h hm hv ht he hgl hn
      go_enter Tryd.func6, Tryd.ntmps6
      go_upto_region 10 with (first
        | (rw [← hW0]; go_at_call 8; refine HH.out.1.mono ?_; rintro e w1 ⟨rfl, hg1⟩; have d0 := hg1.cell c0 (by simp); have d1 := hg1.cell c1 (by simp); have H1 := Lib.hid (HH.out.2.2.2.2.2.2.trans hg1); clear hg1 c0 c1 hW0)
        | (go_at_call 9; refine (HH.out.2.1 _ H1.out).mono ?_; rintro e w2 ⟨rfl, hg2⟩; have b0 := hg2.cell d0 (by simp); have b1 := hg2.cell d1 (by simp); have H2 := Lib.hid (H1.out.trans hg2); clear hg2 d0 d1)
        | (go_at_call 21; refine (HH.out.2.2.1 _ H2.out).mono ?_; rintro e w3 ⟨rfl, hg3⟩; have a0 := hg3.cell b0 (by simp); have a1 := hg3.cell b1 (by simp); have H3 := Lib.hid (H2.out.trans hg3); clear hg3 b0 b1)
        | (go_at_call 22; refine (HH.out.2.2.2.1 _ H3.out).mono ?_; rintro e w4 ⟨rfl, hg4⟩; have k0 := hg4.cell a0 (by simp); have k1 := hg4.cell a1 (by simp); have H4 := Lib.hid (H3.out.trans hg4); clear hg4 a0 a1))
      go_upto_region 11 with (go_at_call 23; refine (HH.out.2.2.2.2.1 _ H4.out).mono ?_; rintro e w5 ⟨va, c5, rfl, hr5, hg5⟩; have m0 := hg5.cell k0 (by simp); have m1 := hg5.cell k1 (by simp); have H5 := Lib.hid (And.intro (H4.out.trans hg5) hr5); clear hg5 k0 k1 hr5)
      obtain ⟨W6, hW6⟩ : ∃ W6, W6 = w5.alloc (.cells #[.int .i64 vs, .slice va n c5] 24) := ⟨_, rfl⟩
      have hg6 : w5.grownBy W6 none := by rw [hW6]; exact World.grownBy_alloc _ _ _
      have x0 : W6.cell? ⟨w5.heap.size, 0, none⟩ = some (.int .i64 vs) := by rw [hW6]; simp
      have x1 : W6.cell? ⟨w5.heap.size, 1, none⟩ = some (.slice va n c5) := by rw [hW6]; simp
      have y0 := hg6.cell m0 (by simp)
      have y1 := hg6.cell m1 (by simp)
      have hsf := HH.out.2.2.2.2.2.1 W6 va c5 (H5.out.1.trans hg6) (H5.out.2.on hg6)
      have H6 := Lib.hid (And.intro (H5.out.1.trans hg6) hsf)
      rw [← hW6]
      clear hW6 hg6 hsf m0 m1 e5
      go_wp2_with (first
        | (go_at_call 11; refine (hnum _ _).mono ?_; rintro e w9 ⟨rfl, hw9⟩; obtain rfl := hw9.symm)
        | (go_at_call 18; refine H6.out.2.mono ?_; rintro e w7 ⟨rfl, hg7⟩; have H7 := Lib.hid hg7; clear hg7))
      go_ret
      exact ⟨rfl, H6.out.1.trans H7.out⟩
    · have hT : Cn.textOf f = [] := by unfold Cn.textOf; rw [if_neg hc]
      rw [hT] at htx hrt
      obtain ⟨C, hC⟩ : ∃ C, C = Cn.check f := ⟨_, rfl⟩
      rw [← hC] at hrc hc
      have e1 : (C != 0) = true := by simp [hc]
      have HH := Lib.hid (And.intro hal (And.intro hbg (And.intro htx (And.intro hrt (And.intro hrc hg0)))))
      clear hal hbg htx hrt hrc hg0 hB hwt hc hC hT
      go_enter Tryd.func6, Tryd.ntmps6
      go_wp2_with (first
        | (rw [← hW0]; go_at_call 8; refine HH.out.1.mono ?_; rintro e w1 ⟨rfl, hg1⟩; have d0 := hg1.cell c0 (by simp); have d1 := hg1.cell c1 (by simp); have H1 := Lib.hid (HH.out.2.2.2.2.2.trans hg1); clear hg1 c0 c1)
        | (go_at_call 9; refine (HH.out.2.1 _ H1.out).mono ?_; rintro e w2 ⟨rfl, hg2⟩; have b0 := hg2.cell d0 (by simp); have b1 := hg2.cell d1 (by simp); have H2 := Lib.hid (H1.out.trans hg2); clear hg2 d0 d1)
        | (go_at_call 21; refine (HH.out.2.2.1 _ H2.out).mono ?_; rintro e w3 ⟨rfl, hg3⟩; have a0 := hg3.cell b0 (by simp); have a1 := hg3.cell b1 (by simp); have H3 := Lib.hid (H2.out.trans hg3); clear hg3 b0 b1)
        | (go_at_call 22; refine (HH.out.2.2.2.1 _ H3.out).mono ?_; rintro e w4 ⟨rfl, hg4⟩; have k0 := hg4.cell a0 (by simp); have k1 := hg4.cell a1 (by simp); have H4 := Lib.hid (H3.out.trans hg4); clear hg4 a0 a1)
        | (go_at_call 12; refine (HH.out.2.2.2.2.1 _ H4.out).mono ?_; rintro e w5 ⟨rfl, hg5⟩; have H5 := Lib.hid (H4.out.trans hg5); clear hg5))
      go_ret
      exact ⟨rfl, H5.out⟩
end Go.Proofs.YtdhgopcfjomjaaaDoor
