/- metronomeref22.Holds; metronomelaw23: Big, num. -/
import Derived.Test.YtdhgopcfjomjaaaDoorCnD
namespace Go.Proofs.YtdhgopcfjomjaaaDoor
open Go.RowKit Go.Maps Go.WideMaps
open Cn (I64)

theorem num23_any (k : Int) (w : World) : Calls Tryd.prog 11 #[.int .i64 k] w fun e w' => e = .returned (.int .i64 k) ∧ w' = w := by
  go_enter Tryd.func11, Tryd.ntmps11
  go_wp2
  go_ret
  exact ⟨rfl, rfl⟩

/-- are a formula's clauses too much to be played -/
def bigF (f : Cn.Fm) : Bool := decide (6000 < Cn.wt f.cl) || decide (3000 < f.vars)
theorem or_wrap (a b : Bool) : (if a = true then true else b) = (a || b) := by cases a <;> rfl
set_option maxHeartbeats 2000000 in
set_option maxRecDepth 100000 in
theorem big23_any (w : World) (f : Cn.Fm) (a : Option Addr) (cap : Nat) (h : RowsAt w a f.cl) (hm : f.cl.length ≤ 140737488351232) :
    Calls Tryd.prog 9 #[.agg #[.int .i64 f.vars, .slice a f.cl.length cap]] w fun e w' => e = .returned (.bool (bigF f)) ∧ w.grownBy w' none := by
  obtain ⟨R, hR⟩ : ∃ R, R = bigF f := ⟨_, rfl⟩
  rw [← hR]
  obtain ⟨vs, L⟩ := f
  unfold bigF at hR
  simp only at *
  have hm63 : L.length ≤ 9223372036854775807 := by omega
  obtain ⟨N, hN⟩ : ∃ N, N = L.length := ⟨_, rfl⟩
  rw [← hN] at hm63 ⊢
  have HN := Lib.hid hN
  have HR := Lib.hid hR
  have hga := World.grownBy_alloc w (.cells #[.int .i64 vs, .slice a N cap] 24) none
  have HG := Lib.hid hga
  have HL0 := Lib.hid h
  clear hga h hm hN hR
  go_enter Tryd.func9, Tryd.ntmps9
  go_wp2
  obtain ⟨W, hW⟩ : ∃ W, W = w.alloc (.cells #[.int .i64 vs, .slice a N cap] 24) := ⟨_, rfl⟩
  have c0 : W.cell? ⟨w.heap.size, 0, none⟩ = some (.int .i64 vs) := by rw [hW]; simp
  have c1 : W.cell? ⟨w.heap.size, 1, none⟩ = some (.slice a N cap) := by rw [hW]; simp
  have HW := Lib.hid (show w.grownBy W none by rw [hW]; exact HG.out)
  have HL := Lib.hid (HL0.out.on HW.out)
  rw [← hW]
  clear hW HG HL0
  go_loopw [3, 4] (fun nv iv wr => ∃ t z : Nat, t ≤ N ∧ nv = .int .i64 (z : Int) ∧ iv = .int .i64 (t : Int) ∧ W = wr ∧ Hid (z = Cn.wt (L.take t) ∧ (z ≤ 140737488361232))) (fun _ iv _ => N - (intOf iv).toNat)
  case atStart => exact ⟨0, 0, Nat.zero_le _, rfl, rfl, rfl, Lib.hid ⟨rfl, by decide⟩⟩
  case round =>
    obtain ⟨t, z, ht, rfl, rfl, rfl, HT⟩ := hrel
    by_cases hlt : t < N
    · by_cases hz6 : z ≤ 6000
      · have e0 : decide ((z : Int) ≤ 6000) = true := xT (by omega)
        obtain ⟨l, hl⟩ : ∃ l, L[t]? = some l := ⟨_, List.getElem?_eq_getElem (by rw [← HN.out]; exact hlt)⟩
        obtain ⟨b, o, ra, rc, rfl, hc, _, _, hlm, _⟩ := HL.out t l hl
        have hst := Cn.wt_step hl
        obtain ⟨k, hk⟩ : ∃ k, k = l.length := ⟨_, rfl⟩
        rw [← hk] at hc hlm hst
        rw [← HT.out.1] at hst
        have HS := Lib.hid hst
        have HK := Lib.hid hk
        have HLM := Lib.hid hlm
        obtain ⟨y, hy⟩ : ∃ y, y = z + (k + 1) := ⟨_, rfl⟩
        have hw0 : wrap64 ((z : Int) + 1) = (z : Int) + 1 := by unfold wrap64; omega
        have hw1 : wrap64 ((z : Int) + 1 + (k : Int)) = (y : Int) := by unfold wrap64; omega
        have HW1 := Lib.hid (And.intro hw0 hw1)
        have HY := Lib.hid hy
        have HZ6 := Lib.hid hz6
        clear hst hk hl hlm hy hw0 hw1 hz6
        go_wp2
        refine ⟨⟨t + 1, y, by omega, ?_, by go_num, trivial, Lib.hid ⟨?_, ?_⟩⟩, by simp [intOf]; omega⟩
        · simp only [HW1.out.1, HW1.out.2]
        · rw [HS.out, ← HY.out]
        · have := HLM.out; have := HY.out; have := HZ6.out; omega
      · have e0 : decide ((z : Int) ≤ 6000) = false := xF (by omega)
        have e1 : decide ((6000 : Int) < (z : Int)) = true := xT (by omega)
        have hbig : 6000 < Cn.wt L := by
          have h2 := Cn.wt_take L t
          rw [← HT.out.1] at h2
          omega
        have HB := Lib.hid hbig
        clear hbig hz6
        go_wp2
        go_ret
        exact ⟨by rw [HR.out, xT HB.out]; rfl, HW.out⟩
    · obtain rfl : t = N := by omega
      have hsm : z = Cn.wt L := by rw [HT.out.1, HN.out, List.take_length]
      have HZ := Lib.hid hsm
      clear hsm
      by_cases hz6 : z ≤ 6000
      · have e1 : decide ((6000 : Int) < (z : Int)) = false := xF (by omega)
        have HR2 : Hid (R = decide (3000 < vs)) := Lib.hid (by rw [HR.out, ← HZ.out, xF (by omega), Bool.false_or])
        have HZ6 := Lib.hid hz6
        clear hz6
        obtain ⟨d, hd⟩ : ∃ d, d = decide (3000 < vs) := ⟨_, rfl⟩
        cases d with
        | true =>
          have hd' := hd.symm
          clear hd
          go_wp2
          go_ret
          exact ⟨by rw [HR2.out, hd']; rfl, HW.out⟩
        | false =>
          have hd' := hd.symm
          clear hd
          go_wp2
          go_ret
          exact ⟨by rw [HR2.out, hd']; rfl, HW.out⟩
      · have e1 : decide ((6000 : Int) < (z : Int)) = true := xT (by omega)
        have HZ6 := Lib.hid hz6
        clear hz6
        go_wp2
        go_ret
        exact ⟨by rw [HR.out, ← HZ.out, xT (show 6000 < z by have := HZ6.out; omega)]; rfl, HW.out⟩

set_option maxHeartbeats 4000000 in
set_option maxRecDepth 100000 in
theorem rholds_any (w : World) (f : Cn.Fm) (a : Option Addr) (cap : Nat) (ma : Option Addr) (m : List Bool) (mc : Nat) (h : RowsAt w a f.cl) (hm : f.cl.length ≤ 140737488351232) (hv : I64 f.vars) (hb : BoolsAt w ma m) (hml : m.length ≤ 9223372036854775807) :
    Calls Tryd.prog 14 #[.agg #[.int .i64 f.vars, .slice a f.cl.length cap], .slice ma m.length mc] w fun e w' => e = .returned (.bool (Cn.holds f m)) ∧ w.grownBy w' none := by
  obtain ⟨W0, hW0⟩ : ∃ W0, W0 = w.alloc (.cells #[.int .i64 f.vars, .slice a f.cl.length cap] 24) := ⟨_, rfl⟩
  have hg0 : w.grownBy W0 none := by rw [hW0]; exact World.grownBy_alloc _ _ _
  have c0 : W0.cell? ⟨w.heap.size, 0, none⟩ = some (.int .i64 f.vars) := by rw [hW0]; simp
  have c1 : W0.cell? ⟨w.heap.size, 1, none⟩ = some (.slice a f.cl.length cap) := by rw [hW0]; simp
  have hch := rcheck_any W0 f a cap (h.on hg0) hm hv
  obtain ⟨R, hR⟩ : ∃ R, R = Cn.holds f m := ⟨_, rfl⟩
  rw [← hR]
  unfold Cn.holds at hR
  obtain ⟨C, hC⟩ : ∃ C, C = Cn.check f := ⟨_, rfl⟩
  rw [← hC] at hch hR
  obtain ⟨L, hL⟩ : ∃ L, L = f.cl := ⟨_, rfl⟩
  obtain ⟨vs, hvs⟩ : ∃ vs, vs = f.vars := ⟨_, rfl⟩
  have HC := Lib.hid hC
  have HEL := Lib.hid (And.intro hL hvs)
  rw [← hL] at h hm hR c1 hch hW0 ⊢
  rw [← hvs] at hR hv c0 hch hW0 ⊢
  clear hL hvs hC
  obtain ⟨N, hN⟩ : ∃ N, N = L.length := ⟨_, rfl⟩
  have hm63 : L.length ≤ 9223372036854775807 := by omega
  rw [← hN] at hm63 c1 hch hW0 ⊢
  have HN := Lib.hid hN
  have HRW := Lib.hid (And.intro (h.on hg0) (hb.on hg0))
  obtain ⟨K, hK⟩ : ∃ K, K = m.length := ⟨_, rfl⟩
  rw [← hK] at hR hml ⊢
  have HK := Lib.hid hK
  have HR := Lib.hid hR
  have HGW := Lib.hid hg0
  clear hR hN h hm hb hK hg0
  by_cases hc : C = 0
  · subst hc
    have hok := Cn.check_ok.1 HC.out.symm
    rw [← HEL.out.1, ← HEL.out.2] at hok
    have HOK := Lib.hid hok
    have hw1 : wrap64 (vs + 1) = vs + 1 := by unfold wrap64; omega
    by_cases hkv : (K : Int) = vs + 1
    · have e1 : ((K : Int) != vs + 1) = false := by simp [hkv]
      have HKV := Lib.hid hkv
      clear hkv hok
      have HCH := Lib.hid hch
      clear hch hv
      go_enter Tryd.func14, Tryd.ntmps14
      go_upto_region 3 with (rw [← hW0]; go_at_call 12; refine HCH.out.mono ?_; rintro e w1 ⟨rfl, hg1⟩; have d0 := hg1.cell c0 (by simp); have d1 := hg1.cell c1 (by simp); have HG1 := Lib.hid hg1; clear hg1)
      clear hW0 c0 c1 hw1
      go_wp2
      go_loopw [5] (fun iv wr => ∃ t : Nat, t ≤ N ∧ iv = .int .i64 (t : Int) ∧ w1 = wr ∧ Hid (Cn.allH m (L.take t) = true)) (fun iv _ => N - (intOf iv).toNat)
      case atStart => exact ⟨0, Nat.zero_le _, rfl, rfl, Lib.hid rfl⟩
      case round =>
        obtain ⟨t, ht, rfl, rfl, HT⟩ := hrel
        by_cases hlt : t < N
        · obtain ⟨l, hl⟩ : ∃ l, L[t]? = some l := ⟨_, List.getElem?_eq_getElem (by rw [← HN.out]; exact hlt)⟩
          obtain ⟨b, o, ra, rc, rfl, hc0, hnum, _, hlm, h64⟩ := (HRW.out.1.on HG1.out) t l hl
          have hl63 : l.length ≤ 9223372036854775807 := by omega
          have HL := Lib.hid (And.intro hl (And.intro hnum h64))
          obtain ⟨M, hM⟩ : ∃ M, M = l.length := ⟨_, rfl⟩
          rw [← hM] at hc0 hl63
          have HM := Lib.hid hM
          clear hnum hlm h64 hl hM
          go_wp2
          go_loopw [6, 7] (fun sv iv wr => ∃ u : Nat, u ≤ M ∧ sv = .bool ((l.take u).any (Cn.litH m)) ∧ iv = .int .i64 (u : Int) ∧ w1 = wr) (fun _ iv _ => M - (intOf iv).toNat)
          case atStart => exact ⟨0, Nat.zero_le _, rfl, rfl, rfl⟩
          case round =>
            obtain ⟨u, hu, rfl, rfl, rfl⟩ := hrel
            by_cases hlu : u < M
            · obtain ⟨x, hx⟩ : ∃ x, l[u]? = some x := ⟨_, List.getElem?_eq_getElem (by rw [← HM.out]; exact hlu)⟩
              obtain ⟨b1, o1, rfl, hd⟩ := HL.out.2.1 u x hx
              have hst := any_step (Cn.litH m) hx
              have hfx := Cn.fairs_mem HOK.out.2.2.2 (List.mem_of_getElem? HL.out.1) (List.mem_of_getElem? hx)
              have hfb := Cn.fair_bnd hfx
              have hkv2 := HKV.out
              have hvs2 := HOK.out.1
              obtain ⟨s0, hs0⟩ : ∃ s0, s0 = (l.take u).any (Cn.litH m) := ⟨_, rfl⟩
              rw [← hs0] at hst ⊢
              by_cases h0 : x < 0
              · obtain ⟨j, hj⟩ : ∃ j : Nat, -x = (j : Int) := ⟨(-x).toNat, by omega⟩
                obtain ⟨b2, o2, rfl, hd2⟩ := bool_at (HRW.out.2.on HG1.out) (i := j) (by rw [← HK.out]; omega)
                have e2 : decide ((0 : Int) < x) = false := xF (by omega)
                have e3 : decide (x < 0) = true := xT h0
                have hlh : Cn.litH m x = !m.getD j false := by unfold Cn.litH; rw [if_neg (by omega), hj]; rfl
                have hwn : wrap64 (-x) = (j : Int) := by unfold wrap64; omega
                have hjk : j < K := by omega
                rw [hlh] at hst
                have HST := Lib.hid hst
                clear hx hst hfx hfb hkv2 hvs2 hs0 h0 hj hlh
                cases hg : m.getD j false with
                | true =>
                  rw [hg] at hd2 HST
                  clear hg
                  go_wp2
                  refine ⟨⟨u + 1, by omega, ?_, by go_num, trivial⟩, by simp [intOf]; omega⟩
                  rw [HST.out]; simp
                | false =>
                  rw [hg] at hd2 HST
                  clear hg
                  go_wp2
                  refine ⟨⟨u + 1, by omega, ?_, by go_num, trivial⟩, by simp [intOf]; omega⟩
                  rw [HST.out]; simp
              · obtain ⟨j, hj⟩ : ∃ j : Nat, x = (j : Int) := ⟨x.toNat, by omega⟩
                obtain ⟨b2, o2, rfl, hd2⟩ := bool_at (HRW.out.2.on HG1.out) (i := j) (by rw [← HK.out]; omega)
                have hlh : Cn.litH m x = m.getD j false := by unfold Cn.litH; rw [if_pos (by omega), hj]; rfl
                have hjk : j < K := by omega
                rw [hlh] at hst
                have HST := Lib.hid hst
                have hj0 : 0 < j := by omega
                clear hst hfx hfb hkv2 hvs2 hs0 h0 hlh
                subst hj
                have e2 : decide ((0 : Int) < (j : Int)) = true := xT (by omega)
                have e3 : decide ((j : Int) < 0) = false := xF (by omega)
                clear hx
                cases hg : m.getD j false with
                | true =>
                  rw [hg] at hd2 HST
                  clear hg
                  go_wp2
                  refine ⟨⟨u + 1, by omega, ?_, by go_num, trivial⟩, by simp [intOf]; omega⟩
                  rw [HST.out]; simp
                | false =>
                  rw [hg] at hd2 HST
                  clear hg
                  go_wp2
                  refine ⟨⟨u + 1, by omega, ?_, by go_num, trivial⟩, by simp [intOf]; omega⟩
                  rw [HST.out]; simp
            · obtain rfl : u = M := by omega
              have h2 : (l.take u).any (Cn.litH m) = Cn.clH m l := by rw [HM.out, List.take_length]; rfl
              rw [h2]
              clear h2
              cases hg : Cn.clH m l with
              | true =>
                have HG := Lib.hid hg
                clear hg
                go_wp2
                refine ⟨⟨t + 1, by omega, by go_num, trivial, Lib.hid ?_⟩, by simp [intOf]; omega⟩
                unfold Cn.allH
                rw [all_step _ HL.out.1, HG.out]
                have := HT.out
                unfold Cn.allH at this
                rw [this]; rfl
              | false =>
                have HG := Lib.hid hg
                clear hg
                go_wp2
                go_ret
                refine ⟨?_, HGW.out.trans HG1.out⟩
                rw [HR.out, show Cn.allH m L = false from all_not HL.out.1 HG.out, Bool.and_false]; rfl
        · obtain rfl : t = N := by omega
          go_wp2
          go_ret
          have h2 := HT.out
          rw [HN.out, List.take_length] at h2
          refine ⟨?_, HGW.out.trans HG1.out⟩
          rw [HR.out, h2, xT HKV.out]; rfl
    · have e1 : ((K : Int) != vs + 1) = true := by simp [hkv]
      have HKV := Lib.hid hkv
      clear hkv hok
      have HCH := Lib.hid hch
      clear hch
      go_enter Tryd.func14, Tryd.ntmps14
      go_wp2_with (rw [← hW0]; go_at_call 12; refine HCH.out.mono ?_; rintro e w1 ⟨rfl, hg1⟩; have d0 := hg1.cell c0 (by simp); have d1 := hg1.cell c1 (by simp); have HG1 := Lib.hid hg1; clear hg1)
      go_ret
      refine ⟨?_, HGW.out.trans HG1.out⟩
      rw [HR.out, xF HKV.out, Bool.and_false, Bool.false_and]; rfl
  · have e1 : (C != 0) = true := by simp [hc]
    have HCC := Lib.hid hc
    clear hc
    have HCH := Lib.hid hch
    clear hch
    go_enter Tryd.func14, Tryd.ntmps14
    go_wp2_with (rw [← hW0]; go_at_call 12; refine HCH.out.mono ?_; rintro e w1 ⟨rfl, hg1⟩; have HG1 := Lib.hid hg1; clear hg1)
    go_ret
    refine ⟨?_, HGW.out.trans HG1.out⟩
    rw [HR.out, xF HCC.out, Bool.false_and, Bool.false_and]; rfl
end Go.Proofs.YtdhgopcfjomjaaaDoor
