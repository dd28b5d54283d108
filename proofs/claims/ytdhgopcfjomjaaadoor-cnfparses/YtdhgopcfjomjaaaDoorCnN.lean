/- cnf.Of of what is no net, or of wires of none. -/
import Derived.Test.YtdhgopcfjomjaaaDoorCnL
namespace Go.Proofs.YtdhgopcfjomjaaaDoor
open Go.RowKit Go.Maps Go.WideMaps Go.Shelf
open Cn (I64)
attribute [local go_sem] Oper.semAt_some

theorem ofP_none {w W : World} {E : Int} (hg : w.grownBy W none) : OfP w 0 [] E (.returned (.tuple #[.agg #[.int .i64 0, .slice none 0 0], .int .i64 E])) W :=
  ⟨none, 0, rfl, Nat.le_refl _, RowsIn.nil _ _ _, hg⟩

theorem of_end {w w1 : World} {s : Nat} {E : Int} (hg : w.grownBy w1 none) (hs : w.heap.size ≤ s) (r1 : w1.heap[s]? = some (.cells #[.int .i64 0, .slice none 0 0] 24 (0, 0))) (r2 : w1.heap[s + 1]? = some (.cells #[.int .i64 0] 28 (0, 0))) :
    ∀ Wf, Wf = ((w1.setCell ⟨s, 0, none⟩ (.int .i64 0)).setCell ⟨s, 1, none⟩ (.slice none 0 0)).setCell ⟨s + 1, 0, none⟩ (.int .i64 E) → Wf.cell? ⟨s, 0, none⟩ = some (.int .i64 0) ∧ Wf.cell? ⟨s, 1, none⟩ = some (.slice none 0 0) ∧ Wf.cell? ⟨s + 1, 0, none⟩ = some (.int .i64 E) ∧ w.grownBy Wf none := by
  intro Wf hWf
  have p1 : Wf.heap[s]? = some (.cells #[.int .i64 0, .slice none 0 0] 24 (0, 0)) := by
    rw [hWf, heap_setCell_other _ _ _ _ (by simp)]
    exact heap_setCell_same _ _ 1 _ _ _ (heap_setCell_same _ _ 0 _ _ _ r1)
  have p2 : Wf.heap[s + 1]? = some (.cells #[.int .i64 E] 28 (0, 0)) := by
    rw [hWf]
    exact heap_setCell_same _ _ 0 _ _ _ ((heap_setCell_other _ _ (s + 1) _ (by simp)).trans ((heap_setCell_other _ _ (s + 1) _ (by simp)).trans r2))
  have hkf : Kp [s, s + 1] w1 Wf := by rw [hWf]; exact (((Kp.refl _ w1).set (by simp) _).set (by simp) _).set (by simp) _
  exact ⟨cell_of_row _ _ 0 _ _ _ p1, cell_of_row _ _ 1 _ _ _ p1, cell_of_row _ _ 0 _ _ _ p2, Kp.grown hg hkf (fun k hk => by simp at hk; omega)⟩
set_option maxRecDepth 100000 in
set_option maxHeartbeats 4000000 in
theorem of_net (w : World) (na : Option Addr) (n : List Cn.Gt) (nc : Nat) (wa : Option Addr) (m : Nat) (wc : Nat) (hG : GatesAt w na n) (hnl : n.length ≤ 5000) (hne : Cn.netE n ≠ 0) :
    Calls Tryd.prog 16 #[.agg #[.slice na n.length nc], .slice wa m wc] w (OfP w 0 [] (Cn.netE n)) := by
  obtain ⟨N, hN⟩ : ∃ N, N = n.length := ⟨_, rfl⟩
  obtain ⟨E, hE⟩ : ∃ E, E = Cn.netE n := ⟨_, rfl⟩
  obtain ⟨W0, hW0⟩ : ∃ W0, W0 = ((w.alloc (.cells #[.slice na N nc] 35)).alloc (.cells #[.int .i64 0, .slice none 0 0] 24)).alloc (.cells #[.int .i64 0] 28) := ⟨_, rfl⟩
  have hg0 : w.grownBy W0 none := by rw [hW0]; exact (World.grownBy_alloc _ _ none).trans ((World.grownBy_alloc _ _ none).trans (World.grownBy_alloc _ _ none))
  have ha := al3 w (.cells #[.slice na N nc] 35) (.cells #[.int .i64 0, .slice none 0 0] 24) (.cells #[.int .i64 0] 28)
  rw [← hW0] at ha
  have hck := gcheck_any W0 na n nc (hG.on hg0) (by omega)
  rw [← hE] at hne hck ⊢
  rw [← hN] at hck hnl ⊢
  have e1 : (E != 0) = true := by simp [hne]
  have HCK := Lib.hid hck
  have HA := Lib.hid (And.intro ha hg0)
  clear hN hck hG ha hg0 hne hE
  refine (callsIn_wide (n := 9)).1 ?_
  refine callsIn_of_wp_marks Tryd.func16 rfl trivial ?_ rfl
  simp only [Tryd.ntmps16, List.size_toArray, List.length_cons, List.length_nil, Nat.reduceAdd, Nat.reduceSub, Array.replicate_succ, Array.replicate_zero, List.push_toArray, List.append_toArray, List.nil_append, List.cons_append]
  gi_wp2_with (refine ⟨trivial, ?_⟩; rw [← hW0]; gi_at_call 29; refine (callsIn_wide.2 HCK.out).mono ?_; rintro e w1 ⟨rfl, hg1⟩; have H1 := Lib.hid hg1; have r1 := (hg1.block _ (gl HA.out.1.2.1) (by simp)).trans HA.out.1.2.1; have r2 := (hg1.block _ (gl HA.out.1.2.2) (by simp)).trans HA.out.1.2.2; have d0 := frozen_of_row _ _ 0 _ _ r1; have d1 := frozen_of_row _ _ 1 _ _ r1; have d2 : w1.frozen? ⟨w.heap.size + 1 + 1, 0, none⟩ = false := frozen_of_row _ _ 0 _ _ r2; have c0 : w1.cell? ⟨w.heap.size + 1, 0, none⟩ = some (.int .i64 0) := cell_of_row _ _ 0 _ _ _ r1; have c1 : w1.cell? ⟨w.heap.size + 1, 1, none⟩ = some (.slice none 0 0) := cell_of_row _ _ 1 _ _ _ r1; have c2 : w1.cell? ⟨w.heap.size + 1 + 1, 0, none⟩ = some (.int .i64 0) := cell_of_row _ _ 0 _ _ _ r2; have HR := Lib.hid (And.intro r1 r2); clear hg1 hW0 r1 r2)
  obtain ⟨Wf, hWf⟩ : ∃ Wf, Wf = ((w1.setCell ⟨w.heap.size + 1, 0, none⟩ (.int .i64 0)).setCell ⟨w.heap.size + 1, 1, none⟩ (.slice none 0 0)).setCell ⟨w.heap.size + 1 + 1, 0, none⟩ (.int .i64 E) := ⟨_, rfl⟩
  rw [← hWf]
  obtain ⟨y0, y1, y2, hgz⟩ := of_end (HA.out.2.trans H1.out) (Nat.le_succ _) HR.out.1 HR.out.2 Wf hWf
  have HF := Lib.hid (ofP_none (E := E) hgz)
  clear hWf c0 c1 c2 d0 d1 d2 hgz
  show LeavesInM Fence.wide 9 Tryd.prog _ _ _ [] .returning Wf
  simp [LeavesInM, LeavesIn, results, Tryd.results16, go_sem, y0, y1, y2]
  exact HF.out

set_option maxRecDepth 100000 in
set_option maxHeartbeats 4000000 in
theorem of_wire (w : World) (na : Option Addr) (n : List Cn.Gt) (nc : Nat) (wa : Option Addr) (ws : List Int) (wc : Nat) (hG : GatesAt w na n) (hW : NumsAt w wa ws) (hnl : n.length ≤ 5000) (hwl : ws.length ≤ 1000) (hne : Cn.netE n = 0) (hwo : Cn.wiresOk n ws = false) :
    Calls Tryd.prog 16 #[.agg #[.slice na n.length nc], .slice wa ws.length wc] w (OfP w 0 [] 1) := by
  obtain ⟨N, hN⟩ : ∃ N, N = n.length := ⟨_, rfl⟩
  obtain ⟨M, hM⟩ : ∃ M, M = ws.length := ⟨_, rfl⟩
  obtain ⟨W0, hW0⟩ : ∃ W0, W0 = ((w.alloc (.cells #[.slice na N nc] 35)).alloc (.cells #[.int .i64 0, .slice none 0 0] 24)).alloc (.cells #[.int .i64 0] 28) := ⟨_, rfl⟩
  have hg0 : w.grownBy W0 none := by rw [hW0]; exact (World.grownBy_alloc _ _ none).trans ((World.grownBy_alloc _ _ none).trans (World.grownBy_alloc _ _ none))
  have ha := al3 w (.cells #[.slice na N nc] 35) (.cells #[.int .i64 0, .slice none 0 0] 24) (.cells #[.int .i64 0] 28)
  rw [← hW0] at ha
  have hck := gcheck_any W0 na n nc (hG.on hg0) (by omega)
  rw [hne] at hck
  rw [← hN] at hck hnl ⊢
  rw [← hM] at hwl ⊢
  have HN := Lib.hid (And.intro hN hM)
  have HGW := Lib.hid (And.intro hW hwo)
  have HCK := Lib.hid hck
  have HA := Lib.hid (And.intro ha hg0)
  clear hN hM hck hG hW ha hg0 hne hwo
  refine (callsIn_wide (n := 9)).1 ?_
  refine callsIn_of_wp_marks Tryd.func16 rfl trivial ?_ rfl
  simp only [Tryd.ntmps16, List.size_toArray, List.length_cons, List.length_nil, Nat.reduceAdd, Nat.reduceSub, Array.replicate_succ, Array.replicate_zero, List.push_toArray, List.append_toArray, List.nil_append, List.cons_append]
  gi_wp2_with (refine ⟨trivial, ?_⟩; rw [← hW0]; gi_at_call 29; refine (callsIn_wide.2 HCK.out).mono ?_; rintro e w1 ⟨rfl, hg1⟩; have H1 := Lib.hid hg1; have r1 := (hg1.block _ (gl HA.out.1.2.1) (by simp)).trans HA.out.1.2.1; have r2 := (hg1.block _ (gl HA.out.1.2.2) (by simp)).trans HA.out.1.2.2; have d0 := frozen_of_row _ _ 0 _ _ r1; have d1 := frozen_of_row _ _ 1 _ _ r1; have d2 : w1.frozen? ⟨w.heap.size + 1 + 1, 0, none⟩ = false := frozen_of_row _ _ 0 _ _ r2; have c0 : w1.cell? ⟨w.heap.size + 1, 0, none⟩ = some (.int .i64 0) := cell_of_row _ _ 0 _ _ _ r1; have c1 : w1.cell? ⟨w.heap.size + 1, 1, none⟩ = some (.slice none 0 0) := cell_of_row _ _ 1 _ _ _ r1; have c2 : w1.cell? ⟨w.heap.size + 1 + 1, 0, none⟩ = some (.int .i64 0) := cell_of_row _ _ 0 _ _ _ r2; have HR := Lib.hid (And.intro r1 r2); have b0 : w1.cell? ⟨w.heap.size, 0, none⟩ = some (.slice na N nc) := cell_of_row w1 w.heap.size 0 _ _ _ ((hg1.block _ (gl HA.out.1.1) (by simp)).trans HA.out.1.1); clear hg1 hW0 r1 r2)
  have hn64 : N ≤ 9223372036854775807 := by omega
  have hm64 : M ≤ 9223372036854775807 := by omega
  have hw2 : wrap64 (2 * (N : Int)) = 2 * (N : Int) := by unfold wrap64; omega
  gi_loopw [20] (fun iv wr => ∃ t : Nat, t ≤ M ∧ iv = .int .i64 (t : Int) ∧ w1 = wr ∧ Hid (Cn.wiresOk n (ws.take t) = true)) (fun iv _ => M - (intOf iv).toNat)
  case atStart => exact ⟨0, Nat.zero_le _, rfl, rfl, Lib.hid rfl⟩
  case round =>
    obtain ⟨t, ht, rfl, rfl, HT⟩ := hrel
    by_cases hlt : t < M
    · obtain ⟨x, hx⟩ : ∃ x, ws[t]? = some x := ⟨_, List.getElem?_eq_getElem (by rw [← HN.out.2]; exact hlt)⟩
      obtain ⟨b, o, rfl, hc⟩ := (HGW.out.1.on (HA.out.2.trans H1.out)) t x hx
      have hst := all_step (fun w => decide (0 ≤ w) && decide (w < 2 * (n.length : Int))) hx
      have HS := Lib.hid hst
      clear hst hx
      by_cases h1 : x < 0
      · have e1 : decide (x < 0) = true := xT h1
        clear h1 hw2
        gi_wp2
        obtain ⟨Wf, hWf⟩ : ∃ Wf, Wf = ((w1.setCell ⟨w.heap.size + 1, 0, none⟩ (.int .i64 0)).setCell ⟨w.heap.size + 1, 1, none⟩ (.slice none 0 0)).setCell ⟨w.heap.size + 1 + 1, 0, none⟩ (.int .i64 1) := ⟨_, rfl⟩
        rw [← hWf]
        obtain ⟨y0, y1, y2, hgz⟩ := of_end (HA.out.2.trans H1.out) (Nat.le_succ _) HR.out.1 HR.out.2 Wf hWf
        have HF := Lib.hid (ofP_none (E := 1) hgz)
        clear hWf c0 c1 c2 d0 d1 d2 hgz
        show LeavesInM Fence.wide 9 Tryd.prog _ _ _ [] .returning Wf
        simp [LeavesInM, LeavesIn, results, Tryd.results16, go_sem, y0, y1, y2]
        exact HF.out
      · have e1 : decide (x < 0) = false := xF h1
        by_cases h2 : 2 * (N : Int) ≤ x
        · have e2 : decide (2 * (N : Int) ≤ x) = true := xT h2
          clear h1 h2
          gi_wp2
          obtain ⟨Wf, hWf⟩ : ∃ Wf, Wf = ((w1.setCell ⟨w.heap.size + 1, 0, none⟩ (.int .i64 0)).setCell ⟨w.heap.size + 1, 1, none⟩ (.slice none 0 0)).setCell ⟨w.heap.size + 1 + 1, 0, none⟩ (.int .i64 1) := ⟨_, rfl⟩
          rw [← hWf]
          obtain ⟨y0, y1, y2, hgz⟩ := of_end (HA.out.2.trans H1.out) (Nat.le_succ _) HR.out.1 HR.out.2 Wf hWf
          have HF := Lib.hid (ofP_none (E := 1) hgz)
          clear hWf c0 c1 c2 d0 d1 d2 hgz
          show LeavesInM Fence.wide 9 Tryd.prog _ _ _ [] .returning Wf
          simp [LeavesInM, LeavesIn, results, Tryd.results16, go_sem, y0, y1, y2]
          exact HF.out
        · have e2 : decide (2 * (N : Int) ≤ x) = false := xF h2
          have HX : Hid ((decide (0 ≤ x) && decide (x < 2 * (n.length : Int))) = true) := Lib.hid (by rw [← HN.out.1, xT (show 0 ≤ x by omega), xT (show x < 2 * (N : Int) by omega)]; rfl)
          clear h1 h2
          gi_wp2
          refine ⟨⟨t + 1, by omega, by go_num, trivial, Lib.hid ?_⟩, by simp [intOf]; omega⟩
          unfold Cn.wiresOk
          rw [HS.out, HX.out]
          have := HT.out
          unfold Cn.wiresOk at this
          rw [this]; rfl
    · exfalso
      obtain rfl : t = M := by omega
      have h2 := HT.out
      rw [HN.out.2, List.take_length, HGW.out.2] at h2
      cases h2

/-- what Of tells of a net and wires -/
def ofV (n : List Cn.Gt) (ws : List Int) : Int × Cn.Fm := if Cn.netE n = 0 then (if Cn.wiresOk n ws = true then (0, ⟨n.length, Cn.ofC n ws⟩) else (1, ⟨0, []⟩)) else (Cn.netE n, ⟨0, []⟩)
theorem of_any (w : World) (na : Option Addr) (n : List Cn.Gt) (nc : Nat) (wa : Option Addr) (ws : List Int) (wc : Nat) (hG : GatesAt w na n) (hW : NumsAt w wa ws) (hnl : n.length ≤ 5000) (hwl : ws.length ≤ 1000) :
    Calls Tryd.prog 16 #[.agg #[.slice na n.length nc], .slice wa ws.length wc] w (OfP w (ofV n ws).2.vars (ofV n ws).2.cl (ofV n ws).1) := by
  unfold ofV
  by_cases h1 : Cn.netE n = 0
  · rw [if_pos h1]
    cases h2 : Cn.wiresOk n ws with
    | true => rw [if_pos rfl]; exact of_ok w na n nc wa ws wc hG hW hnl hwl h1 h2
    | false => rw [if_neg (by decide)]; exact of_wire w na n nc wa ws wc hG hW hnl hwl h1 h2
  · rw [if_neg h1]
    exact of_net w na n nc wa ws.length wc hG hnl h1
end Go.Proofs.YtdhgopcfjomjaaaDoor
