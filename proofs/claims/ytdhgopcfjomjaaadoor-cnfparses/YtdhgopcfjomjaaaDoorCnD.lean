/- metronomeref22: Fair, CheckFormula. -/
import Derived.Test.YtdhgopcfjomjaaaDoorCnC
namespace Go.Proofs.YtdhgopcfjomjaaaDoor
open Go.RowKit Go.Maps Go.WideMaps
open Cn (I64)

set_option maxHeartbeats 2000000 in
set_option maxRecDepth 100000 in
theorem rfair_any (w : World) (ra : Option Addr) (l : List Int) (rc : Nat) (v : Int) (h : NumsAt w ra l) (hl : l.length ≤ 140737488351232) (hv : 0 ≤ v ∧ v ≤ 200000) :
    Calls Tryd.prog 27 #[.slice ra l.length rc, .int .i64 v] w fun e w' => e = .returned (.bool (l.all (Cn.fair v))) ∧ w' = w := by
  have HL := Lib.hid h
  have hm63 : l.length ≤ 9223372036854775807 := by omega
  obtain ⟨N, hN⟩ : ∃ N, N = l.length := ⟨_, rfl⟩
  rw [← hN] at hm63 ⊢
  have HN := Lib.hid hN
  have hw1 : wrap64 (-v) = -v := by unfold wrap64; omega
  clear hN h hl hv
  go_enter Tryd.func27, Tryd.ntmps27
  go_wp2
  go_loopw [5] (fun iv wr => ∃ t : Nat, t ≤ N ∧ iv = .int .i64 (t : Int) ∧ w = wr ∧ Hid ((l.take t).all (Cn.fair v) = true)) (fun iv _ => N - (intOf iv).toNat)
  case atStart => exact ⟨0, Nat.zero_le _, rfl, rfl, Lib.hid rfl⟩
  case round =>
    obtain ⟨t, ht, rfl, rfl, HT⟩ := hrel
    by_cases hlt : t < N
    · obtain ⟨x, hx⟩ : ∃ x, l[t]? = some x := ⟨_, List.getElem?_eq_getElem (by rw [← HN.out]; exact hlt)⟩
      obtain ⟨b1, o1, rfl, hd⟩ := HL.out t x hx
      have HX := Lib.hid hx
      clear hx
      by_cases h0 : x = 0
      · have e1 : (x == 0) = true := by simp [h0]
        have HF : Hid (Cn.fair v x = false) := Lib.hid (by rw [Cn.fair, xF (show ¬ x ≠ 0 by omega)]; rfl)
        clear h0
        go_wp2
        go_ret
        refine ⟨?_, rfl⟩
        rw [all_not HX.out HF.out]; rfl
      · have e1 : (x == 0) = false := by simp [h0]
        by_cases h1 : v < x
        · have e2 : decide (v < x) = true := xT h1
          have HF : Hid (Cn.fair v x = false) := Lib.hid (by rw [Cn.fair, xF (show ¬ x ≤ v by omega)]; simp)
          clear h0 h1
          go_wp2
          go_ret
          refine ⟨?_, rfl⟩
          rw [all_not HX.out HF.out]; rfl
        · have e2 : decide (v < x) = false := xF h1
          by_cases h2 : x < -v
          · have e3 : decide (x < -v) = true := xT h2
            have HF : Hid (Cn.fair v x = false) := Lib.hid (by rw [Cn.fair, xF (show ¬ -v ≤ x by omega)]; simp)
            clear h0 h1 h2
            go_wp2
            go_ret
            refine ⟨?_, rfl⟩
            rw [all_not HX.out HF.out]; rfl
          · have e3 : decide (x < -v) = false := xF h2
            have HF : Hid (Cn.fair v x = true) := Lib.hid (by rw [Cn.fair, xT (show x ≤ v by omega), xT (show -v ≤ x by omega), xT (show x ≠ 0 from h0)]; rfl)
            clear h0 h1 h2
            go_wp2
            refine ⟨⟨t + 1, by omega, by go_num, trivial, Lib.hid ?_⟩, by simp [intOf]; omega⟩
            rw [all_step _ HX.out, HT.out, HF.out]; rfl
    · obtain rfl : t = N := by omega
      go_wp2
      go_ret
      refine ⟨?_, rfl⟩
      have h2 := HT.out
      rw [HN.out, List.take_length] at h2
      rw [h2]; rfl

set_option maxHeartbeats 4000000 in
set_option maxRecDepth 100000 in
theorem rcheck_any (w : World) (f : Cn.Fm) (a : Option Addr) (cap : Nat) (h : RowsAt w a f.cl) (hm : f.cl.length ≤ 140737488351232) (hv : I64 f.vars) :
    Calls Tryd.prog 12 #[.agg #[.int .i64 f.vars, .slice a f.cl.length cap]] w fun e w' => e = .returned (.int .i64 (Cn.check f)) ∧ w.grownBy w' none := by
  obtain ⟨R, hR⟩ : ∃ R, R = Cn.check f := ⟨_, rfl⟩
  rw [← hR]
  obtain ⟨vs, L⟩ := f
  unfold Cn.check at hR
  simp only at *
  have hm63 : L.length ≤ 9223372036854775807 := by omega
  obtain ⟨N, hN⟩ : ∃ N, N = L.length := ⟨_, rfl⟩
  rw [← hN] at hm63 ⊢
  have HN := Lib.hid hN
  have HR := Lib.hid hR
  have HV := Lib.hid hv
  have hga := World.grownBy_alloc w (.cells #[.int .i64 vs, .slice a N cap] 24) none
  have HG := Lib.hid hga
  have HL0 := Lib.hid h
  clear hga h hm hN hR hv
  go_enter Tryd.func12, Tryd.ntmps12
  go_wp2
  obtain ⟨W, hW⟩ : ∃ W, W = w.alloc (.cells #[.int .i64 vs, .slice a N cap] 24) := ⟨_, rfl⟩
  have c0 : W.cell? ⟨w.heap.size, 0, none⟩ = some (.int .i64 vs) := by rw [hW]; simp
  have c1 : W.cell? ⟨w.heap.size, 1, none⟩ = some (.slice a N cap) := by rw [hW]; simp
  have HW := Lib.hid (show w.grownBy W none by rw [hW]; exact HG.out)
  have HL := Lib.hid (HL0.out.on HW.out)
  rw [← hW]
  clear hW HG HL0
  go_loopw [3, 4] (fun nv iv wr => ∃ t : Nat, t ≤ N ∧ nv = .int .i64 ((Cn.wt (L.take t) : Nat) : Int) ∧ iv = .int .i64 (t : Int) ∧ W = wr ∧ Hid (Cn.wt (L.take t) ≤ 200000)) (fun _ iv _ => N - (intOf iv).toNat)
  case atStart => exact ⟨0, Nat.zero_le _, rfl, rfl, rfl, Lib.hid (by simp [Cn.wt])⟩
  case round =>
    obtain ⟨t, ht, rfl, rfl, rfl, HT⟩ := hrel
    by_cases hlt : t < N
    · obtain ⟨l, hl⟩ : ∃ l, L[t]? = some l := ⟨_, List.getElem?_eq_getElem (by rw [← HN.out]; exact hlt)⟩
      obtain ⟨b, o, ra, rc, rfl, hc, _, _, hlm, _⟩ := HL.out t l hl
      have hst := Cn.wt_step hl
      obtain ⟨k, hk⟩ : ∃ k, k = l.length := ⟨_, rfl⟩
      rw [← hk] at hc hlm hst
      obtain ⟨z, hz⟩ : ∃ z, z = Cn.wt (L.take t) := ⟨_, rfl⟩
      rw [← hz] at hst HT ⊢
      have HS := Lib.hid hst
      have HZ := Lib.hid hz
      have HK := Lib.hid hk
      clear hst hz hk hl
      obtain ⟨y, hy⟩ : ∃ y, y = z + (k + 1) := ⟨_, rfl⟩
      have hw0 : wrap64 ((z : Int) + 1) = (z : Int) + 1 := by have := HT.out; unfold wrap64; omega
      have hw1 : wrap64 ((z : Int) + 1 + (k : Int)) = (y : Int) := by have := HT.out; unfold wrap64; omega
      have HW1 := Lib.hid (And.intro hw0 hw1)
      have HY := Lib.hid hy
      clear hy hlm
      by_cases hy2 : y ≤ 200000
      · have e1 : decide ((200000 : Int) < (y : Int)) = false := xF (by omega)
        go_wp2
        refine ⟨⟨t + 1, by omega, ?_, by go_num, trivial, Lib.hid ?_⟩, by simp [intOf]; omega⟩
        · rw [HS.out, ← HY.out]; rw [HW1.out.2]
        · rw [HS.out, ← HY.out]; exact hy2
      · have e1 : decide ((200000 : Int) < (y : Int)) = true := xT (by omega)
        have hbig : 200000 < Cn.wt L := by
          have h2 := Cn.wt_take L (t + 1)
          rw [HS.out, ← HY.out] at h2
          omega
        have HB := Lib.hid hbig
        clear hbig
        by_cases hv1 : 200000 < vs
        · have e2 : decide ((200000 : Int) < vs) = true := xT hv1
          go_wp2
          go_ret
          exact ⟨by rw [HR.out, if_pos (.inr HB.out)]; rfl, HW.out⟩
        · have e2 : decide ((200000 : Int) < vs) = false := xF hv1
          clear hv1
          go_wp2
          go_ret
          exact ⟨by rw [HR.out, if_pos (.inr HB.out)]; rfl, HW.out⟩
    · obtain rfl : t = N := by omega
      have hsm : Cn.wt (L.take t) = Cn.wt L := by rw [HN.out, List.take_length]
      rw [hsm] at HT
      have HWT := HT.out
      obtain ⟨z, hz⟩ : ∃ z, z = Cn.wt L := ⟨_, rfl⟩
      rw [hsm, ← hz]
      rw [← hz] at HWT
      have e1 : decide ((200000 : Int) < (z : Int)) = false := xF (by omega)
      have HZ := Lib.hid (And.intro hz HWT)
      clear hsm HT HWT hz
      by_cases hv1 : 200000 < vs
      · have e2 : decide ((200000 : Int) < vs) = true := xT hv1
        have HR2 : Hid (R = 2) := Lib.hid (by rw [HR.out, if_pos (.inl hv1)])
        clear hv1
        go_wp2
        go_ret
        exact ⟨by rw [HR2.out]; rfl, HW.out⟩
      · have e2 : decide ((200000 : Int) < vs) = false := xF hv1
        by_cases hv2 : vs < 0
        · have HR2 : Hid (R = 40) := Lib.hid (by rw [HR.out, if_neg (by have := HZ.out; omega), if_pos hv2])
          clear hv1
          go_wp2
          go_ret
          exact ⟨by rw [HR2.out]; rfl, HW.out⟩
        · have HR2 : Hid (R = if Cn.fairs vs L = true then 0 else 40) := Lib.hid (by rw [HR.out, if_neg (by have := HZ.out; omega), if_neg hv2])
          have hrf := fun (l : List Int) ra rc V (q : NumsAt V ra l) hl => rfair_any V ra l rc vs q hl ⟨by omega, by omega⟩
          have HRF := Lib.hid hrf
          have e3 : decide (vs < 0) = false := xF hv2
          clear hv1 hrf hv2
          go_wp2
          go_loopw [5] (fun iv wr2 => ∃ u : Nat, u ≤ t ∧ iv = .int .i64 (u : Int) ∧ Hid (Cn.fairs vs (L.take u) = true ∧ W.grownBy wr2 none)) (fun iv _ => t - (intOf iv).toNat)
          case atStart => exact ⟨0, Nat.zero_le _, rfl, Lib.hid ⟨rfl, World.grownBy.refl _ _⟩⟩
          case round =>
            obtain ⟨u, hu, rfl, HU⟩ := hrel
            have d0 := HU.out.2.cell c0 (by simp)
            have d1 := HU.out.2.cell c1 (by simp)
            by_cases hlu : u < t
            · obtain ⟨l, hl⟩ : ∃ l, L[u]? = some l := ⟨_, List.getElem?_eq_getElem (by rw [← HN.out]; exact hlu)⟩
              obtain ⟨b, o, ra, rc, rfl, hc, hnum, _, hlm, _⟩ := (HL.out.on HU.out.2) u l hl
              have hrf := fun n => HRF.out l ra rc (wr.drewN n) (hnum.on (gdrewN wr n none)) hlm
              have HL2 := Lib.hid hl
              clear hl hnum hlm c0 c1
              cases hg : l.all (Cn.fair vs) with
              | true =>
                rw [hg] at hrf
                have HGG := Lib.hid hg
                clear hg
                go_wp2
                go_upto_region 14 with fail
                go_quiet (first | (go_at_call 27; refine Calls.quiet_of_same (hrf _)))
                go_wp2
                refine ⟨⟨u + 1, by omega, by go_num, Lib.hid ⟨?_, HU.out.2.trans (gdrewN _ _ _)⟩⟩, by simp [intOf]; omega⟩
                unfold Cn.fairs
                rw [all_step _ HL2.out, HGG.out]
                have := HU.out.1
                unfold Cn.fairs at this
                rw [this]; rfl
              | false =>
                rw [hg] at hrf
                have HGG := Lib.hid hg
                clear hg
                go_wp2
                go_upto_region 14 with fail
                go_quiet (first | (go_at_call 27; refine Calls.quiet_of_same (hrf _)))
                go_wp2
                go_ret
                refine ⟨?_, HW.out.trans (HU.out.2.trans (gdrewN _ _ _))⟩
                rw [HR2.out, show Cn.fairs vs L = false from all_not HL2.out HGG.out]; rfl
            · obtain rfl : u = t := by omega
              go_wp2
              go_ret
              have h2 := HU.out.1
              rw [HN.out, List.take_length] at h2
              refine ⟨?_, HW.out.trans HU.out.2⟩
              rw [HR2.out, h2]; rfl
end Go.Proofs.YtdhgopcfjomjaaaDoor
