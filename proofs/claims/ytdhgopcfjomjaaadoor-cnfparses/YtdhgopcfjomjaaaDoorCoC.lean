/- metronomeref22.Of of what is no net, or of wires of none; SameFormula. -/
import Derived.Test.YtdhgopcfjomjaaaDoorCoB
namespace Go.Proofs.YtdhgopcfjomjaaaDoor
open Go.RowKit Go.Maps Go.WideMaps
open Cn (I64)

theorem rof_end {w w1 : World} {s : Nat} (hg : w.grownBy w1 none) (hs : w.heap.size ≤ s) (r1 : w1.heap[s]? = some (.cells #[.int .i64 0, .slice none 0 0] 24 (0, 0))) :
    ∀ Wf, Wf = (w1.setCell ⟨s, 0, none⟩ (.int .i64 0)).setCell ⟨s, 1, none⟩ (.slice none 0 0) → Wf.cell? ⟨s, 0, none⟩ = some (.int .i64 0) ∧ Wf.cell? ⟨s, 1, none⟩ = some (.slice none 0 0) ∧ w.grownBy Wf none := by
  intro Wf hWf
  have p1 : Wf.heap[s]? = some (.cells #[.int .i64 0, .slice none 0 0] 24 (0, 0)) := by
    rw [hWf]; exact heap_setCell_same _ _ 1 _ _ _ (heap_setCell_same _ _ 0 _ _ _ r1)
  have hkf : Kp [s] w1 Wf := by rw [hWf]; exact ((Kp.refl _ w1).set (by simp) _).set (by simp) _
  exact ⟨cell_of_row _ _ 0 _ _ _ p1, cell_of_row _ _ 1 _ _ _ p1, Kp.grown hg hkf (fun k hk => by simp at hk; omega)⟩

set_option maxRecDepth 100000 in
set_option maxHeartbeats 4000000 in
theorem rof_net (w : World) (na : Option Addr) (n : List Cn.Gt) (nc : Nat) (wa : Option Addr) (m : Nat) (wc : Nat) (hG : GatesAt w na n) (hnl : n.length ≤ 5000) (hne : Cn.netE n ≠ 0) :
    Calls Tryd.prog 17 #[.agg #[.slice na n.length nc], .slice wa m wc] w (OfP w 0 [] (Cn.netE n)) := by
  obtain ⟨N, hN⟩ : ∃ N, N = n.length := ⟨_, rfl⟩
  obtain ⟨E, hE⟩ : ∃ E, E = Cn.netE n := ⟨_, rfl⟩
  obtain ⟨W0, hW0⟩ : ∃ W0, W0 = (w.alloc (.cells #[.slice na N nc] 35)).alloc (.cells #[.int .i64 0, .slice none 0 0] 24) := ⟨_, rfl⟩
  have hg0 : w.grownBy W0 none := by rw [hW0]; exact al2g _ _ _
  have ha := al2 w (.cells #[.slice na N nc] 35) (.cells #[.int .i64 0, .slice none 0 0] 24)
  rw [← hW0] at ha
  have hck := rchecknet_any W0 na n nc (hG.on hg0) (by omega)
  rw [← hE] at hne hck ⊢
  rw [← hN] at hck hnl ⊢
  have e1 : (E != 0) = true := by simp [hne]
  have HCK := Lib.hid hck
  have HA := Lib.hid (And.intro ha hg0)
  clear hN hck hG ha hg0 hne hE
  go_enter Tryd.func17, Tryd.ntmps17
  go_wp2_with (rw [← hW0]; go_at_call 32; refine HCK.out.mono ?_; rintro e w1 ⟨rfl, hg1⟩; have r1 := (hg1.block _ (gl HA.out.1.2) (by simp)).trans HA.out.1.2; have d0 := frozen_of_row _ _ 0 _ _ r1; have d1 := frozen_of_row _ _ 1 _ _ r1; have c0 : w1.cell? ⟨w.heap.size + 1, 0, none⟩ = some (.int .i64 0) := cell_of_row _ _ 0 _ _ _ r1; have c1 : w1.cell? ⟨w.heap.size + 1, 1, none⟩ = some (.slice none 0 0) := cell_of_row _ _ 1 _ _ _ r1; have H1 := Lib.hid (And.intro hg1 r1); clear hg1 hW0 r1)
  obtain ⟨Wf, hWf⟩ : ∃ Wf, Wf = ((w1).setCell ⟨w.heap.size + 1, 0, none⟩ (.int .i64 0)).setCell ⟨w.heap.size + 1, 1, none⟩ (.slice none 0 0) := ⟨_, rfl⟩
  obtain ⟨y0, y1, hgz⟩ := rof_end (HA.out.2.trans H1.out.1) (Nat.le_succ _) H1.out.2 Wf hWf
  have HF := Lib.hid (ofP_none (E := E) hgz)
  rw [← hWf]
  clear hWf c0 c1 d0 d1 hgz
  refine bodyPost_ret (v := .tuple #[.agg #[.int .i64 0, .slice none 0 0], .int .i64 E]) ?_ rfl HF.out
  rw [results_cell_tmp rfl]
  go_simp
set_option maxRecDepth 100000 in
set_option maxHeartbeats 4000000 in
theorem rof_wire (w : World) (na : Option Addr) (n : List Cn.Gt) (nc : Nat) (wa : Option Addr) (ws : List Int) (wc : Nat) (hG : GatesAt w na n) (hW : NumsAt w wa ws) (hnl : n.length ≤ 5000) (hwl : ws.length ≤ 1000) (hne : Cn.netE n = 0) (hwo : Cn.wiresOk n ws = false) :
    Calls Tryd.prog 17 #[.agg #[.slice na n.length nc], .slice wa ws.length wc] w (OfP w 0 [] 1) := by
  obtain ⟨N, hN⟩ : ∃ N, N = n.length := ⟨_, rfl⟩
  obtain ⟨M, hM⟩ : ∃ M, M = ws.length := ⟨_, rfl⟩
  obtain ⟨W0, hW0⟩ : ∃ W0, W0 = (w.alloc (.cells #[.slice na N nc] 35)).alloc (.cells #[.int .i64 0, .slice none 0 0] 24) := ⟨_, rfl⟩
  have hg0 : w.grownBy W0 none := by rw [hW0]; exact al2g _ _ _
  have ha := al2 w (.cells #[.slice na N nc] 35) (.cells #[.int .i64 0, .slice none 0 0] 24)
  rw [← hW0] at ha
  have hck := rchecknet_any W0 na n nc (hG.on hg0) (by omega)
  rw [hne] at hck
  rw [← hN] at hck hnl ⊢
  rw [← hM] at hwl ⊢
  have HN := Lib.hid (And.intro hN hM)
  have HGW := Lib.hid (And.intro hW hwo)
  have HCK := Lib.hid hck
  have HA := Lib.hid (And.intro ha hg0)
  clear hN hM hck hG hW ha hg0 hne hwo
  go_enter Tryd.func17, Tryd.ntmps17
  go_wp2_with (rw [← hW0]; go_at_call 32; refine HCK.out.mono ?_; rintro e w1 ⟨rfl, hg1⟩; have b0 : w1.cell? ⟨w.heap.size, 0, none⟩ = some (.slice na N nc) := cell_of_row w1 w.heap.size 0 _ _ _ ((hg1.block _ (gl HA.out.1.1) (by simp)).trans HA.out.1.1); have r1 := (hg1.block _ (gl HA.out.1.2) (by simp)).trans HA.out.1.2; have H1 := Lib.hid (And.intro hg1 r1); clear hg1 hW0 r1)
  have hn64 : N ≤ 9223372036854775807 := by omega
  have hm64 : M ≤ 9223372036854775807 := by omega
  have hw2 : wrap64 (2 * (N : Int)) = 2 * (N : Int) := by unfold wrap64; omega
  go_loopw [7] (fun iv wr => ∃ t : Nat, t ≤ M ∧ iv = .int .i64 (t : Int) ∧ Hid (Cn.wiresOk n (ws.take t) = true ∧ w1.grownBy wr none)) (fun iv _ => M - (intOf iv).toNat)
  case atStart => exact ⟨0, Nat.zero_le _, rfl, Lib.hid ⟨rfl, World.grownBy.refl _ _⟩⟩
  case round =>
    obtain ⟨t, ht, rfl, HT⟩ := hrel
    have d0 := HT.out.2.cell b0 (by simp)
    have r1 := (HT.out.2.block _ (gl H1.out.2) (by simp)).trans H1.out.2
    have f0 := frozen_of_row _ _ 0 _ _ r1
    have f1 := frozen_of_row _ _ 1 _ _ r1
    have c0 : wr.cell? ⟨w.heap.size + 1, 0, none⟩ = some (.int .i64 0) := cell_of_row _ _ 0 _ _ _ r1
    have c1 : wr.cell? ⟨w.heap.size + 1, 1, none⟩ = some (.slice none 0 0) := cell_of_row _ _ 1 _ _ _ r1
    have HR := Lib.hid r1
    clear r1 b0
    by_cases hlt : t < M
    · obtain ⟨x, hx⟩ : ∃ x, ws[t]? = some x := ⟨_, List.getElem?_eq_getElem (by rw [← HN.out.2]; exact hlt)⟩
      obtain ⟨b, o, rfl, hc⟩ := (HGW.out.1.on (HA.out.2.trans (H1.out.1.trans HT.out.2))) t x hx
      have hst := all_step (fun w => decide (0 ≤ w) && decide (w < 2 * (n.length : Int))) hx
      have HS := Lib.hid hst
      clear hst hx
      by_cases h1 : x < 0
      · have e1 : decide (x < 0) = true := xT h1
        clear h1 hw2
        go_upto_region 7 with fail
        go_quiet (fail)
        go_wp2
        obtain ⟨Wf, hWf⟩ : ∃ Wf, Wf = ((wr.drewN nq).setCell ⟨w.heap.size + 1, 0, none⟩ (.int .i64 0)).setCell ⟨w.heap.size + 1, 1, none⟩ (.slice none 0 0) := ⟨_, rfl⟩
        obtain ⟨y0, y1, hgz⟩ := rof_end (HA.out.2.trans (H1.out.1.trans (HT.out.2.trans (gdrewN wr nq none)))) (Nat.le_succ _) HR.out Wf hWf
        have HF := Lib.hid (ofP_none (E := 1) hgz)
        rw [← hWf]
        clear hWf c0 c1 f0 f1 d0 hgz
        refine bodyPost_ret (v := .tuple #[.agg #[.int .i64 0, .slice none 0 0], .int .i64 1]) ?_ rfl HF.out
        rw [results_cell_tmp rfl]
        go_simp
      · have e1 : decide (x < 0) = false := xF h1
        by_cases h2 : 2 * (N : Int) ≤ x
        · have e2 : decide (2 * (N : Int) ≤ x) = true := xT h2
          clear h1 h2
          go_upto_region 7 with fail
          go_quiet (fail)
          clear hw2
          go_wp2
          obtain ⟨Wf, hWf⟩ : ∃ Wf, Wf = ((wr.drewN nq).setCell ⟨w.heap.size + 1, 0, none⟩ (.int .i64 0)).setCell ⟨w.heap.size + 1, 1, none⟩ (.slice none 0 0) := ⟨_, rfl⟩
          obtain ⟨y0, y1, hgz⟩ := rof_end (HA.out.2.trans (H1.out.1.trans (HT.out.2.trans (gdrewN wr nq none)))) (Nat.le_succ _) HR.out Wf hWf
          have HF := Lib.hid (ofP_none (E := 1) hgz)
          rw [← hWf]
          clear hWf c0 c1 f0 f1 d0 hgz
          refine bodyPost_ret (v := .tuple #[.agg #[.int .i64 0, .slice none 0 0], .int .i64 1]) ?_ rfl HF.out
          rw [results_cell_tmp rfl]
          go_simp
        · have e2 : decide (2 * (N : Int) ≤ x) = false := xF h2
          have HX : Hid ((decide (0 ≤ x) && decide (x < 2 * (n.length : Int))) = true) := Lib.hid (by rw [← HN.out.1, xT (show 0 ≤ x by omega), xT (show x < 2 * (N : Int) by omega)]; rfl)
          clear h1 h2
          go_upto_region 7 with fail
          go_quiet (fail)
          go_wp2
          refine ⟨⟨t + 1, by omega, by go_num, Lib.hid ⟨?_, HT.out.2.trans (gdrewN _ _ _)⟩⟩, by simp [intOf]; omega⟩
          unfold Cn.wiresOk
          rw [HS.out, HX.out]
          have := HT.out.1
          unfold Cn.wiresOk at this
          rw [this]; rfl
    · exfalso
      obtain rfl : t = M := by omega
      have h2 := HT.out.1
      rw [HN.out.2, List.take_length, HGW.out.2] at h2
      cases h2
theorem rof_any (w : World) (na : Option Addr) (n : List Cn.Gt) (nc : Nat) (wa : Option Addr) (ws : List Int) (wc : Nat) (hG : GatesAt w na n) (hW : NumsAt w wa ws) (hnl : n.length ≤ 5000) (hwl : ws.length ≤ 1000) :
    Calls Tryd.prog 17 #[.agg #[.slice na n.length nc], .slice wa ws.length wc] w (OfP w (ofV n ws).2.vars (ofV n ws).2.cl (ofV n ws).1) := by
  unfold ofV
  by_cases h1 : Cn.netE n = 0
  · rw [if_pos h1]
    cases h2 : Cn.wiresOk n ws with
    | true => rw [if_pos rfl]; exact rof_ok w na n nc wa ws wc hG hW hnl hwl h1 h2
    | false => rw [if_neg (by decide)]; exact rof_wire w na n nc wa ws wc hG hW hnl hwl h1 h2
  · rw [if_neg h1]
    exact rof_net w na n nc wa ws.length wc hG hnl h1
end Go.Proofs.YtdhgopcfjomjaaaDoor
