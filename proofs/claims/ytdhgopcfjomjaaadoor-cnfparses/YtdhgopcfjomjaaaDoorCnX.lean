/- metronomelaw23.CnfHolds: the walk. -/
import Derived.Test.YtdhgopcfjomjaaaDoorCnW
namespace Go.Proofs.YtdhgopcfjomjaaaDoor
open Go.RowKit Go.Maps Go.WideMaps
open Cn (I64)

theorem hsOn {W0 V V' : World} {b : Nat} {x y : Value} (h : V.cell? ⟨b, 0, none⟩ = some x ∧ V.cell? ⟨b, 1, none⟩ = some y ∧ Hid (W0.grownBy V none)) (hg : V.grownBy V' none) : V'.cell? ⟨b, 0, none⟩ = some x ∧ V'.cell? ⟨b, 1, none⟩ = some y ∧ Hid (W0.grownBy V' none) :=
  ⟨hg.cell h.1 (by simp), hg.cell h.2.1 (by simp), Lib.hid (h.2.2.out.trans hg)⟩
theorem hsDrew {W0 V : World} {b : Nat} {x y : Value} (h : V.cell? ⟨b, 0, none⟩ = some x ∧ V.cell? ⟨b, 1, none⟩ = some y ∧ Hid (W0.grownBy V none)) : V.drew.cell? ⟨b, 0, none⟩ = some x ∧ V.drew.cell? ⟨b, 1, none⟩ = some y ∧ Hid (W0.grownBy V.drew none) := hsOn h (gdrew V none)
set_option maxHeartbeats 4000000 in
set_option maxRecDepth 100000 in
theorem cnfHolds_run (w : World) (f : Cn.Fm) (a : Option Addr) (cap : Nat) (ma : Option Addr) (m : List Bool) (mc : Nat) (h : RowsAt w a f.cl) (hm : f.cl.length ≤ 140737488351232) (hv : I64 f.vars) (hb : BoolsAt w ma m) (hml : m.length ≤ 9223372036854775807) (ht : Tab w) :
    Calls Tryd.prog 3 #[.agg #[.int .i64 f.vars, .slice a f.cl.length cap], .slice ma m.length mc] w fun e w' => e = .returned (.bool true) ∧ w.grownBy w' none := by
  obtain ⟨W0, hW0⟩ : ∃ W0, W0 = w.alloc (.cells #[.int .i64 f.vars, .slice a f.cl.length cap] 24) := ⟨_, rfl⟩
  have hg0 : w.grownBy W0 none := by rw [hW0]; exact World.grownBy_alloc _ _ _
  have c0 : W0.cell? ⟨w.heap.size, 0, none⟩ = some (.int .i64 f.vars) := by rw [hW0]; simp
  have c1 : W0.cell? ⟨w.heap.size, 1, none⟩ = some (.slice a f.cl.length cap) := by rw [hW0]; simp
  have hal := alive23_any W0 (ht.on hg0)
  have hbg := fun V (hg : W0.grownBy V none) => big23_any V f a cap ((h.on hg0).on hg) hm
  have hch := fun V (hg : W0.grownBy V none) => check_any V f a cap ((h.on hg0).on hg) hm
  have hrc := fun V (hg : W0.grownBy V none) => rcheck_any V f a cap ((h.on hg0).on hg) hm hv
  have hho := fun V (hg : W0.grownBy V none) => holds_any V f a cap ma m mc ((h.on hg0).on hg) hm hv ((hb.on hg0).on hg) hml
  have hrh := fun V (hg : W0.grownBy V none) => rholds_any V f a cap ma m mc ((h.on hg0).on hg) hm hv ((hb.on hg0).on hg) hml
  have hnum := fun k V => num23_any k V
  have HH := Lib.hid (And.intro hal (And.intro hbg (And.intro hch (And.intro hrc (And.intro hho (And.intro hrh hg0))))))
  obtain ⟨vs, hvs⟩ : ∃ vs, vs = f.vars := ⟨_, rfl⟩
  obtain ⟨N, hN⟩ : ∃ N, N = f.cl.length := ⟨_, rfl⟩
  obtain ⟨K, hK⟩ : ∃ K, K = m.length := ⟨_, rfl⟩
  rw [← hvs, ← hN, ← hK] at HH
  rw [← hvs] at c0
  rw [← hN] at c1
  rw [← hvs, ← hN] at hW0 ⊢
  rw [← hK] at hml ⊢
  clear hal hbg hch hrc hho hrh hvs hN hK h hm hv hb ht hg0
  obtain ⟨bg, hbg⟩ : ∃ bg, bg = bigF f := ⟨_, rfl⟩
  rw [← hbg] at HH
  clear hbg
  cases bg with
  | true =>
    go_enter Tryd.func3, Tryd.ntmps3
    go_wp2_with (first
      | (rw [← hW0]; go_at_call 8; refine HH.out.1.mono ?_; rintro e w1 ⟨rfl, hg1⟩; have d0 := hg1.cell c0 (by simp); have d1 := hg1.cell c1 (by simp); have H1 := Lib.hid hg1; clear hg1 c0 c1)
      | (go_at_call 9; refine (HH.out.2.1 _ H1.out).mono ?_; rintro e w2 ⟨rfl, hg2⟩; have H2 := Lib.hid hg2; clear hg2))
    go_ret
    exact ⟨rfl, HH.out.2.2.2.2.2.2.trans (H1.out.trans H2.out)⟩
  | false =>
    by_cases hk : 5000 < K
    · have e1 : decide ((5000 : Int) < (K : Int)) = true := xT (by omega)
      clear hk
      go_enter Tryd.func3, Tryd.ntmps3
      go_wp2_with (first
        | (rw [← hW0]; go_at_call 8; refine HH.out.1.mono ?_; rintro e w1 ⟨rfl, hg1⟩; have d0 := hg1.cell c0 (by simp); have d1 := hg1.cell c1 (by simp); have H1 := Lib.hid hg1; clear hg1 c0 c1)
        | (go_at_call 9; refine (HH.out.2.1 _ H1.out).mono ?_; rintro e w2 ⟨rfl, hg2⟩; have H2 := Lib.hid hg2; clear hg2))
      go_ret
      exact ⟨rfl, HH.out.2.2.2.2.2.2.trans (H1.out.trans H2.out)⟩
    · have e1 : decide ((5000 : Int) < (K : Int)) = false := xF (by omega)
      clear hk
      obtain ⟨C, hC⟩ : ∃ C, C = Cn.check f := ⟨_, rfl⟩
      obtain ⟨Y, hY⟩ : ∃ Y, Y = Cn.holds f m := ⟨_, rfl⟩
      rw [← hC, ← hY] at HH
      clear hC hY
      go_enter Tryd.func3, Tryd.ntmps3
      go_upto_region 6 with (first
        | (rw [← hW0]; go_at_call 8; refine HH.out.1.mono ?_; rintro e w1 ⟨rfl, hg1⟩; have d0 := hg1.cell c0 (by simp); have d1 := hg1.cell c1 (by simp); have H1 := Lib.hid hg1; clear hg1 c0 c1)
        | (go_at_call 9; refine (HH.out.2.1 _ H1.out).mono ?_; rintro e w2 ⟨rfl, hg2⟩; have b0 := hg2.cell d0 (by simp); have b1 := hg2.cell d1 (by simp); have H2 := Lib.hid (H1.out.trans hg2); clear hg2 d0 d1)
        | (go_at_call 10; refine (HH.out.2.2.1 _ H2.out).mono ?_; rintro e w3 ⟨rfl, hg3⟩; have a0 := hg3.cell b0 (by simp); have a1 := hg3.cell b1 (by simp); have H3 := Lib.hid (H2.out.trans hg3); clear hg3 b0 b1))
      have hS : w3.cell? ⟨w.heap.size, 0, none⟩ = some (.int .i64 vs) ∧ w3.cell? ⟨w.heap.size, 1, none⟩ = some (.slice a N cap) ∧ Hid (W0.grownBy w3 none) := ⟨a0, a1, H3⟩
      clear hW0 a0 a1
      have hSd := hsDrew hS
      go_region_held3 (fun V => V.cell? ⟨w.heap.size, 0, none⟩ = some (.int .i64 vs) ∧ V.cell? ⟨w.heap.size, 1, none⟩ = some (.slice a N cap) ∧ Hid (W0.grownBy V none)) (first | exact hS6 | exact hS5 | exact hS4 | exact hSd | exact hS)
        (first
          | (go_at_call 11; refine (hnum _ _).mono ?_; rintro e w9 ⟨rfl, hw9⟩; obtain rfl := hw9.symm)
          | (go_at_call 12; refine (HH.out.2.2.2.1 _ hSd.2.2.out).mono ?_; rintro e w4 ⟨rfl, hg4⟩; have hS4 := hsOn hSd hg4; clear hg4)
          | (go_at_call 13; refine (HH.out.2.2.2.2.1 _ hS4.2.2.out).mono ?_; rintro e w5 ⟨rfl, hg5⟩; have hS5 := hsOn hS4 hg5; clear hg5)
          | (go_at_call 14; refine (HH.out.2.2.2.2.2.1 _ hS5.2.2.out).mono ?_; rintro e w6 ⟨rfl, hg6⟩; have hS6 := hsOn hS5 hg6; clear hg6))
      go_wp2
      go_ret
      exact ⟨rfl, HH.out.2.2.2.2.2.2.trans hS6.2.2.out⟩
theorem cnfHolds_all (w : World) (f : Cn.Fm) (a : Option Addr) (cap : Nat) (m : List Bool) (ma : Option Addr) (mc : Nat) (h : RowsAt w a f.cl) (hm : f.cl.length ≤ 140737488351232) (hv : I64 f.vars) (hb : BoolsAt w ma m) (hml : m.length ≤ 9223372036854775807) (ht : Tab w) :
    Calls Tryd.prog 3 #[.agg #[.int .i64 f.vars, .slice a f.cl.length cap], .slice ma m.length mc] w fun e w' => e = .returned (.bool true) ∧ w.grownBy w' none := cnfHolds_run w f a cap ma m mc h hm hv hb hml ht
end Go.Proofs.YtdhgopcfjomjaaaDoor
