/- Stage 19: CodeWrong, some of its cases (written by mkceh.py). -/
import Derived.Test.YtcjainfcndlllaaCeG
namespace Go.Proofs.Ytcjainfcndlllaa
open Go.RowKit Go.Maps Go.WideMaps

set_option maxHeartbeats 4000000 in
set_option maxRecDepth 100000 in
theorem cw_15 (hC : CCheck) (hWr : CWrite) (w : World) : Calls Try.prog 5 #[.int .i64 15] w fun e w' => e = .returned (.bool true) ∧ w.grownBy w' none := by
  have hal := alive19_any hC hWr w
  have hsm := fun wx => small_rows wx
  go_enter Try.func5, Try.ntmps5
  go_wp2_with (go_at_call 8; refine hal.mono ?_; rintro e w1 ⟨rfl, hg1⟩; refine Hid.out ?_)
  clear hal
  refine Lib.hid ?_
  go_wp2_with (go_at_call 13; refine (hsm _).mono ?_; rintro e w3 ⟨rfl, hk, hb, hg3, hs3⟩; refine Hid.out ?_)
  rw [World.size_alloc] at hk hb hs3
  refine Lib.hid ?_
  clear hsm
  go_wp2_with (with_reducible refine hold_st ?_)
  refine Lib.hid ?_
  refine store_lastc #[.slice (some ⟨w1.heap.size + 1 + 1, 0, none⟩) 2 2, .int .i64 1, .int .i64 1, .int .i64 0, .int .i64 2, .slice none 0 0, .slice (some ⟨w1.heap.size + 1 + 1 + 1, 0, none⟩) 5 5] ?hp ?hv ?hi ?ho ?h1 ?hK
  case hp => rw [hs3]; rfl
  case hv => rfl
  case hi => kernel_rfl
  case ho => rfl
  case h1 => exact small_one _ _
  have HW := Lib.hid (Cw.start hg1 [.slice (some ⟨w1.heap.size + 1 + 1, 0, none⟩) 2 2, .int .i64 1, .int .i64 1, .int .i64 0, .int .i64 2, .slice none 0 0, .slice (some ⟨w1.heap.size + 1 + 1 + 1, 0, none⟩) 5 5] hk hb hg3 hs3)
  clear hk hb hg3 hs3
  obtain ⟨W4, hW4⟩ : ∃ W4, W4 = w3.alloc (.cells #[.slice (some ⟨w1.heap.size + 1 + 1, 0, none⟩) 2 2, .int .i64 1, .int .i64 1, .int .i64 0, .int .i64 2, .slice none 0 0, .slice (some ⟨w1.heap.size + 1 + 1 + 1, 0, none⟩) 5 5] 25) := ⟨_, rfl⟩
  rw [← hW4] at HW ⊢
  clear hW4
  clear hg1
  obtain ⟨V, hV⟩ : ∃ V, V = w1.heap.size := ⟨_, rfl⟩
  rw [← hV] at HW ⊢
  clear hV
  have k1 : W4.cell? ⟨V + 1 + 1 + 1 + 1, 6, none⟩ = some (.slice (some ⟨V + 1 + 1 + 1, 0, none⟩) 5 5) := (cell_of_row W4 _ 6 _ _ _ HW.out.crow).trans rfl
  have z1 := Lib.frozen_of_heap HW.out.crow 6
  obtain ⟨i0, hi, hz0, hzs, hzb⟩ := info_parts info_i
  have hlt : V + 1 + 1 + 1 + 1 < W4.heap.size := (Array.getElem?_eq_some_iff.1 HW.out.crow).1
  have HL := Lib.hid hlt
  clear hlt
  have HA := Lib.hid (HW.out.alloc (.cells (insC [⟨9, 0, 0⟩]).toArray 33))
  go_wp2_with (at_builtin; refine wpList_append_grows _ rfl _ _ 23 rfl 33 i0 _ 3 24 Try.underlying23 hi hz0 hzs hzb rfl (by decide) (some ⟨V + 1 + 1 + 1, 0, none⟩) 3 3 (insC (Cd.small.body.take 3)) rfl (fun e => by cases e) rfl ?c0 ⟨W4.heap.size, 0, none⟩ 1 1 (insC [⟨9, 0, 0⟩]) rfl rfl ?c1 ?c2 (by decide) (by unfold maxLen; decide) (by decide) ?_)
  case c0 =>
    rintro _ ⟨⟩ j u hj
    have e : (⟨V + 1 + 1 + 1, 0, none⟩ : Addr).add j = ⟨V + 1 + 1 + 1, j, none⟩ := by unfold Addr.add; split <;> simp_all
    have hj2 : (insC Cd.small.body)[j]? = some u := by
      have e2 : insC Cd.small.body = insC (Cd.small.body.take 3) ++ insC (Cd.small.body.drop 3) := by rw [← insC_append, List.take_append_drop]
      rw [e2, List.getElem?_append_left (List.getElem?_eq_some_iff.1 hj).1]
      exact hj
    rw [e]
    exact (row_cell HA.out.brow j).trans hj2
  case c1 =>
    intro j u hj
    have e : (⟨W4.heap.size, 0, none⟩ : Addr).add j = ⟨W4.heap.size, j, none⟩ := by unfold Addr.add; split <;> simp_all
    rw [e]
    exact (row_cell (heap_alloc_new W4 (.cells (insC [⟨9, 0, 0⟩]).toArray 33)) j).trans hj
  case c2 => intro u hu; simp [insC] at hu; rcases hu with rfl | rfl | rfl <;> rfl
  intro v' w5 hown hgr
  have HB := Lib.hid (HA.out.on hgr)
  have hb2 : V + 1 + 1 + 1 + 1 < W4.heap.size + 1 := by have := HL.out; omega
  have hown2 : (w5.setCell ⟨V + 1 + 1 + 1 + 1, 6, none⟩ v').ownsRow (W4.heap.size + 1) 33 3 v' (Cd.small.body.take 3 ++ [(⟨9, 0, 0⟩ : Cd.Ins)]).length (insC (Cd.small.body.take 3 ++ [(⟨9, 0, 0⟩ : Cd.Ins)])) := own_set hown hb2 6 v'
  obtain ⟨a', c', hv', hin⟩ := InssAt.own hown2
  have hv2 : v' = .slice a' 4 c' := hv'
  clear hv'
  subst hv2
  have HI := Lib.hid hin
  clear hown hown2 hgr hin HA HW hb2 HL
  have k2 : w5.cell? ⟨V + 1 + 1 + 1 + 1, 6, none⟩ = some (.slice (some ⟨V + 1 + 1 + 1, 0, none⟩) 5 5) := (cell_of_row _ _ 6 _ _ _ HB.out.crow).trans rfl
  have z2 := Lib.frozen_of_heap HB.out.crow 6
  go_wp2_with (with_reducible refine hold_ld ?_)
  have HN := Lib.hid (HB.out.setC 6 (.slice a' 4 c'))
  obtain ⟨W5, hW5⟩ : ∃ W5, W5 = w5.setCell ⟨V + 1 + 1 + 1 + 1, 6, none⟩ (.slice a' 4 c') := ⟨_, rfl⟩
  rw [← hW5] at HN HI ⊢
  have hini : NumsAt W5 none ({ Cd.small with body := Cd.small.body.take 3 ++ [(⟨9, 0, 0⟩ : Cd.Ins)] }).init := NumsAt.nil _ _
  have hbod : InssAt W5 a' ({ Cd.small with body := Cd.small.body.take 3 ++ [(⟨9, 0, 0⟩ : Cd.Ins)] }).body := HI.out
  clear hW5 HB k1 z1 k2 z2 HI
  have hck := hC W5 ({ Cd.small with body := Cd.small.body.take 3 ++ [(⟨9, 0, 0⟩ : Cd.Ins)] }) (some ⟨V + 1 + 1, 0, none⟩) 2 none 0 a' c' ⟨nums_row HN.out.krow, hini, hbod⟩ (by unfold I64s Cd.small Cd.I64 maxLen; refine ⟨by decide, by decide, by decide, by decide, by decide, by decide, by decide, by decide, by decide, by decide⟩) (by exact Nat.le_refl _)
  rw [show Cd.check ({ Cd.small with body := Cd.small.body.take 3 ++ [(⟨9, 0, 0⟩ : Cd.Ins)] }) = 50 by decide +kernel, show codeV ({ Cd.small with body := Cd.small.body.take 3 ++ [(⟨9, 0, 0⟩ : Cd.Ins)] }) (some ⟨V + 1 + 1, 0, none⟩) 2 none 0 a' c' = #[.slice (some ⟨V + 1 + 1, 0, none⟩) 2 2, .int .i64 1, .int .i64 1, .int .i64 0, .int .i64 2, .slice none 0 0, .slice a' 4 c'] from rfl] at hck
  have hr := HN.out.crow
  have y0 := cell_of_row _ _ 0 _ _ _ hr
  have y1 := cell_of_row _ _ 1 _ _ _ hr
  have y2 := cell_of_row _ _ 2 _ _ _ hr
  have y3 := cell_of_row _ _ 3 _ _ _ hr
  have y4 := cell_of_row _ _ 4 _ _ _ hr
  have y5 := cell_of_row _ _ 5 _ _ _ hr
  have y6 := cell_of_row _ _ 6 _ _ _ hr
  clear hr hini hbod
  refine Lib.hid ?_
  have hnum := fun k wx => num19_any k wx
  go_wp2_with (go_at_call 10; refine hck.mono ?_; rintro e w6 ⟨rfl, hg6⟩; refine Hid.out ?_)
  have v7 : w6.cell? ⟨V, 15, none⟩ = some (.int .i64 50) := hg6.cell ((cell_of_row W5 _ 15 _ _ _ HN.out.vrow).trans rfl) (by simp)
  have HG := Lib.hid (HN.out.gr.trans hg6)
  clear hck HN hg6 y0 y1 y2 y3 y4 y5 y6
  refine Lib.hid ?_
  go_upto_region 50 with fail
  go_quiet (first | (go_at_call 11; refine Calls.quiet_of_same (hnum _ _)))
  go_wp2
  go_ret
  exact ⟨rfl, ⟨HG.out.os, HG.out.tape, HG.out.output, HG.out.size, HG.out.block⟩⟩

set_option maxHeartbeats 4000000 in
set_option maxRecDepth 100000 in
theorem cw_18 (hC : CCheck) (hWr : CWrite) (w : World) : Calls Try.prog 5 #[.int .i64 18] w fun e w' => e = .returned (.bool true) ∧ w.grownBy w' none := by
  have hal := alive19_any hC hWr w
  have hsm := fun wx => small_rows wx
  go_enter Try.func5, Try.ntmps5
  go_wp2_with (go_at_call 8; refine hal.mono ?_; rintro e w1 ⟨rfl, hg1⟩; refine Hid.out ?_)
  clear hal
  refine Lib.hid ?_
  go_wp2_with (go_at_call 13; refine (hsm _).mono ?_; rintro e w3 ⟨rfl, hk, hb, hg3, hs3⟩; refine Hid.out ?_)
  rw [World.size_alloc] at hk hb hs3
  refine Lib.hid ?_
  clear hsm
  go_wp2_with (with_reducible refine hold_st ?_)
  refine Lib.hid ?_
  refine store_lastc #[.slice (some ⟨w1.heap.size + 1 + 1, 0, none⟩) 2 2, .int .i64 1, .int .i64 1, .int .i64 0, .int .i64 2, .slice none 0 0, .slice (some ⟨w1.heap.size + 1 + 1 + 1, 0, none⟩) 5 5] ?hp ?hv ?hi ?ho ?h1 ?hK
  case hp => rw [hs3]; rfl
  case hv => rfl
  case hi => kernel_rfl
  case ho => rfl
  case h1 => exact small_one _ _
  have HW := Lib.hid (Cw.start hg1 [.slice (some ⟨w1.heap.size + 1 + 1, 0, none⟩) 2 2, .int .i64 1, .int .i64 1, .int .i64 0, .int .i64 2, .slice none 0 0, .slice (some ⟨w1.heap.size + 1 + 1 + 1, 0, none⟩) 5 5] hk hb hg3 hs3)
  clear hk hb hg3 hs3
  obtain ⟨W4, hW4⟩ : ∃ W4, W4 = w3.alloc (.cells #[.slice (some ⟨w1.heap.size + 1 + 1, 0, none⟩) 2 2, .int .i64 1, .int .i64 1, .int .i64 0, .int .i64 2, .slice none 0 0, .slice (some ⟨w1.heap.size + 1 + 1 + 1, 0, none⟩) 5 5] 25) := ⟨_, rfl⟩
  rw [← hW4] at HW ⊢
  clear hW4
  clear hg1
  obtain ⟨V, hV⟩ : ∃ V, V = w1.heap.size := ⟨_, rfl⟩
  rw [← hV] at HW ⊢
  clear hV
  obtain ⟨i0, hi, hz0, hzs, hzb⟩ := info_parts info_i
  go_upto_region 42 with fail
  refine wp_region_L (S := fun w' => Cw w w' V [2, 2] Cd.small.body [.slice (some ⟨V + 1 + 1, 0, none⟩) 2 2, .int .i64 1, .int .i64 1, .int .i64 0, .int .i64 2, .slice none 0 0, .slice (some ⟨V + 1 + 1 + 1, 0, none⟩) 5 5]) (Z := [9]) (by kernel_rfl) ?_
  have hS : Cw w W4.drew V [2, 2] Cd.small.body [.slice (some ⟨V + 1 + 1, 0, none⟩) 2 2, .int .i64 1, .int .i64 1, .int .i64 0, .int .i64 2, .slice none 0 0, .slice (some ⟨V + 1 + 1 + 1, 0, none⟩) 5 5] := HW.out.on ⟨rfl, rfl, rfl, Nat.le_refl _, fun _ _ _ => rfl⟩
  obtain ⟨Wd, hWd⟩ : ∃ Wd, Wd = W4.drew := ⟨_, rfl⟩
  rw [← hWd] at hS ⊢
  clear hWd HW
  (try simp only [Act.put, sA, sB, sC])
  refine t1 0 119 (.agg #[.int .i64 7, .int .i64 1, .int .i64 0]) hS ?_
  (try simp only [Act.put, sA, sB, sC])
  refine t1 2 121 (.agg #[.int .i64 5, .int .i64 99, .int .i64 99]) hS ?_
  (try simp only [Act.put, sA, sB, sC])
  refine t1 5 124 (.pointer (some ⟨V + 1 + 1 + 1 + 1, 6, none⟩)) hS ?_
  (try simp only [Act.put, sA, sB, sC])
  refine t2 6 125 (.slice (some ⟨V + 1 + 1 + 1, 0, none⟩) 5 5) (fun w' hw' => ?_) hS ?_
  · have c6 : w'.cell? ⟨V + 1 + 1 + 1 + 1, 6, none⟩ = some (.slice (some ⟨V + 1 + 1 + 1, 0, none⟩) 5 5) := (cell_of_row _ _ 6 _ _ _ hw'.crow).trans rfl
    clear hw' hS
    go_simp
  (try simp only [Act.put, sA, sB, sC])
  refine wpL_both (i := 1) (j := 3) (by kernel_rfl) ?_ ?_
  · have hS1 := hS.alloc (.cells (insC [⟨7, 1, 0⟩]).toArray 33)
    have hS2 := hS1.alloc (.cells (insC [⟨5, 99, 99⟩]).toArray 33)
    have hnb := heap_alloc_new (Wd.alloc (.cells (insC [⟨7, 1, 0⟩]).toArray 33)) (.cells (insC [⟨5, 99, 99⟩]).toArray 33)
    rw [World.size_alloc] at hnb
    refine wpOp_val (d := 120) (v := .slice (some ⟨Wd.heap.size, 0, none⟩) 1 1) (w' := Wd.alloc (.cells (insC [⟨7, 1, 0⟩]).toArray 33)) rfl rfl (by kernel_rfl) (by kernel_rfl) ⟨fun _ => hS1, ?_⟩
    (try simp only [Act.put, sA, sB, sC])
    refine wpL_val (i := 3) (d := 122) (v := .slice (some ⟨(Wd.alloc (.cells (insC [⟨7, 1, 0⟩]).toArray 33)).heap.size, 0, none⟩) 1 1) (w' := ((Wd.alloc (.cells (insC [⟨7, 1, 0⟩]).toArray 33)).alloc (.cells (insC [⟨5, 99, 99⟩]).toArray 33))) (by kernel_rfl) rfl rfl (by kernel_rfl) (by kernel_rfl) hS2 ?_
    rw [World.size_alloc Wd (.cells (insC [⟨7, 1, 0⟩]).toArray 33)]
    (try simp only [Act.put, sA, sB, sC])
    have r1 : ((Wd.alloc (.cells (insC [⟨7, 1, 0⟩]).toArray 33)).alloc (.cells (insC [⟨5, 99, 99⟩]).toArray 33)).heap[Wd.heap.size]? = some (.cells (insC [⟨7, 1, 0⟩]).toArray 33) := alloc_row (heap_alloc_new Wd (.cells (insC [⟨7, 1, 0⟩]).toArray 33)) _
    have r2 : ((Wd.alloc (.cells (insC [⟨7, 1, 0⟩]).toArray 33)).alloc (.cells (insC [⟨5, 99, 99⟩]).toArray 33)).heap[Wd.heap.size + 1]? = some (.cells (insC [⟨5, 99, 99⟩]).toArray 33) := hnb
    obtain ⟨X, hX⟩ : ∃ X, X = ((Wd.alloc (.cells (insC [⟨7, 1, 0⟩]).toArray 33)).alloc (.cells (insC [⟨5, 99, 99⟩]).toArray 33)) := ⟨_, rfl⟩
    rw [← hX] at hS2 r1 r2 ⊢
    clear hX hnb hS1
    refine wpL_one (i := 4) (by kernel_rfl) (wpOp_now rfl (by kernel_rfl) (fun K' hK => ?_))
    refine wp_append_grows1 X (.tmp 120) (.tmp 122) 23 rfl 33 i0 _ 3 24 Try.underlying23 hi hz0 hzs hzb rfl (by decide) ⟨Wd.heap.size, 0, none⟩ 1 1 (insC [⟨7, 1, 0⟩]) rfl rfl (row_cells r1) ⟨Wd.heap.size + 1, 0, none⟩ 1 1 (insC [⟨5, 99, 99⟩]) rfl rfl (row_cells r2) (by decide) (by unfold maxLen; decide) (by decide) (fun v1 x1 hown1 hg1 => hK _ _ ⟨fun _ => hS2.on hg1, ?_⟩)
    (try simp only [Act.put, sA])
    have hlx : V + 1 + 1 + 1 + 1 < X.heap.size := (Array.getElem?_eq_some_iff.1 hS2.crow).1
    have hS3 := hS2.on hg1
    refine wpL_one (i := 7) (by kernel_rfl) (wpOp_now rfl (by kernel_rfl) (fun K' hK => ?_))
    refine wp_append_own x1 (.tmp 123) (.tmp 125) 23 rfl X.heap.size 33 i0 _ 3 24 Try.underlying23 hi hz0 hzs hzb rfl (by decide) v1 2 (insC [⟨7, 1, 0⟩, ⟨5, 99, 99⟩]) rfl hown1 ⟨V + 1 + 1 + 1, 0, none⟩ 5 5 (insC Cd.small.body) rfl rfl (row_cells hS3.brow) (by intro u hu; simp [insC, Cd.small] at hu; rcases hu with rfl | rfl | rfl | rfl | rfl | rfl | rfl | rfl | rfl | rfl | rfl | rfl | rfl | rfl | rfl <;> rfl) (by unfold maxLen; decide) (by decide) hg1.size (fun v2 x2 hown2 hg2 _ => ?_)
    have hS4 := hS3.onto hg2 (fun k e => Nat.lt_of_lt_of_le hlx (hown1.lt k e).1)
    refine hK _ _ ⟨fun _ => hS4, ?_⟩
    (try simp only [Act.put])
    refine t1 8 127 (.pointer (some ⟨V + 1 + 1 + 1 + 1, 6, none⟩)) hS4 ?_
    (try simp only [Act.put])
    have hown3 : (x2.setCell ⟨V + 1 + 1 + 1 + 1, 6, none⟩ v2).ownsRow X.heap.size 33 3 v2 ([(⟨7, 1, 0⟩ : Cd.Ins), ⟨5, 99, 99⟩] ++ Cd.small.body).length (insC ([(⟨7, 1, 0⟩ : Cd.Ins), ⟨5, 99, 99⟩] ++ Cd.small.body)) := own_set hown2 hlx 6 v2
    obtain ⟨a', c', hv', hin⟩ := InssAt.own hown3
    have hv2 : v2 = .slice a' 7 c' := hv'
    clear hv'
    subst hv2
    have HI := Lib.hid hin
    have HB := Lib.hid hS4
    have k2 : x2.cell? ⟨V + 1 + 1 + 1 + 1, 6, none⟩ = some (.slice (some ⟨V + 1 + 1 + 1, 0, none⟩) 5 5) := (cell_of_row _ _ 6 _ _ _ HB.out.crow).trans rfl
    have z2 := Lib.frozen_of_heap HB.out.crow 6
    clear hown1 hown2 hown3 hin hg1 hg2 hS hS2 hS3 hS4 r1 r2 hlx
    refine wpL_one (i := 9) (by kernel_rfl) (wpOp_now rfl (by kernel_rfl) (fun K' hK => ?_))
    unfold Oper.wp
    go_simp
    refine hK _ _ ⟨fun h => absurd (List.mem_singleton.2 rfl) h, ?_⟩
    refine wpL_done (by kernel_rfl) ?_ _
    go_wp2_with (with_reducible refine hold_ld ?_)
    have HN := Lib.hid (HB.out.setC 6 (.slice a' 7 c'))
    obtain ⟨W5, hW5⟩ : ∃ W5, W5 = x2.setCell ⟨V + 1 + 1 + 1 + 1, 6, none⟩ (.slice a' 7 c') := ⟨_, rfl⟩
    rw [← hW5] at HN HI ⊢
    have hini : NumsAt W5 none ({ Cd.small with body := [(⟨7, 1, 0⟩ : Cd.Ins), ⟨5, 99, 99⟩] ++ Cd.small.body }).init := NumsAt.nil _ _
    have hbod : InssAt W5 a' ({ Cd.small with body := [(⟨7, 1, 0⟩ : Cd.Ins), ⟨5, 99, 99⟩] ++ Cd.small.body }).body := HI.out
    clear hW5 HB k2 z2 HI
    have hck := hC W5 ({ Cd.small with body := [(⟨7, 1, 0⟩ : Cd.Ins), ⟨5, 99, 99⟩] ++ Cd.small.body }) (some ⟨V + 1 + 1, 0, none⟩) 2 none 0 a' c' ⟨nums_row HN.out.krow, hini, hbod⟩ (by unfold I64s Cd.small Cd.I64 maxLen; refine ⟨by decide, by decide, by decide, by decide, by decide, by decide, by decide, by decide, by decide, by decide⟩) (by exact Nat.le_refl _)
    rw [show Cd.check ({ Cd.small with body := [(⟨7, 1, 0⟩ : Cd.Ins), ⟨5, 99, 99⟩] ++ Cd.small.body }) = 0 by decide +kernel, show codeV ({ Cd.small with body := [(⟨7, 1, 0⟩ : Cd.Ins), ⟨5, 99, 99⟩] ++ Cd.small.body }) (some ⟨V + 1 + 1, 0, none⟩) 2 none 0 a' c' = #[.slice (some ⟨V + 1 + 1, 0, none⟩) 2 2, .int .i64 1, .int .i64 1, .int .i64 0, .int .i64 2, .slice none 0 0, .slice a' 7 c'] from rfl] at hck
    have hr := HN.out.crow
    have y0 := cell_of_row _ _ 0 _ _ _ hr
    have y1 := cell_of_row _ _ 1 _ _ _ hr
    have y2 := cell_of_row _ _ 2 _ _ _ hr
    have y3 := cell_of_row _ _ 3 _ _ _ hr
    have y4 := cell_of_row _ _ 4 _ _ _ hr
    have y5 := cell_of_row _ _ 5 _ _ _ hr
    have y6 := cell_of_row _ _ 6 _ _ _ hr
    clear hr hini hbod
    refine Lib.hid ?_
    have hnum := fun k wx => num19_any k wx
    go_wp2_with (go_at_call 10; refine hck.mono ?_; rintro e w6 ⟨rfl, hg6⟩; refine Hid.out ?_)
    have v7 : w6.cell? ⟨V, 18, none⟩ = some (.int .i64 0) := hg6.cell ((cell_of_row W5 _ 18 _ _ _ HN.out.vrow).trans rfl) (by simp)
    have HG := Lib.hid (HN.out.gr.trans hg6)
    clear hck HN hg6 y0 y1 y2 y3 y4 y5 y6
    refine Lib.hid ?_
    go_upto_region 50 with fail
    go_quiet (first | (go_at_call 11; refine Calls.quiet_of_same (hnum _ _)))
    go_wp2
    go_ret
    exact ⟨rfl, ⟨HG.out.os, HG.out.tape, HG.out.output, HG.out.size, HG.out.block⟩⟩
  · have hS1 := hS.alloc (.cells (insC [⟨5, 99, 99⟩]).toArray 33)
    have hS2 := hS1.alloc (.cells (insC [⟨7, 1, 0⟩]).toArray 33)
    have hnb := heap_alloc_new (Wd.alloc (.cells (insC [⟨5, 99, 99⟩]).toArray 33)) (.cells (insC [⟨7, 1, 0⟩]).toArray 33)
    rw [World.size_alloc] at hnb
    refine wpOp_val (d := 122) (v := .slice (some ⟨Wd.heap.size, 0, none⟩) 1 1) (w' := Wd.alloc (.cells (insC [⟨5, 99, 99⟩]).toArray 33)) rfl rfl (by kernel_rfl) (by kernel_rfl) ⟨fun _ => hS1, ?_⟩
    (try simp only [Act.put, sA, sB, sC])
    refine wpL_val (i := 1) (d := 120) (v := .slice (some ⟨(Wd.alloc (.cells (insC [⟨5, 99, 99⟩]).toArray 33)).heap.size, 0, none⟩) 1 1) (w' := ((Wd.alloc (.cells (insC [⟨5, 99, 99⟩]).toArray 33)).alloc (.cells (insC [⟨7, 1, 0⟩]).toArray 33))) (by kernel_rfl) rfl rfl (by kernel_rfl) (by kernel_rfl) hS2 ?_
    rw [World.size_alloc Wd (.cells (insC [⟨5, 99, 99⟩]).toArray 33)]
    (try simp only [Act.put, sA, sB, sC])
    have r1 : ((Wd.alloc (.cells (insC [⟨5, 99, 99⟩]).toArray 33)).alloc (.cells (insC [⟨7, 1, 0⟩]).toArray 33)).heap[Wd.heap.size + 1]? = some (.cells (insC [⟨7, 1, 0⟩]).toArray 33) := hnb
    have r2 : ((Wd.alloc (.cells (insC [⟨5, 99, 99⟩]).toArray 33)).alloc (.cells (insC [⟨7, 1, 0⟩]).toArray 33)).heap[Wd.heap.size]? = some (.cells (insC [⟨5, 99, 99⟩]).toArray 33) := alloc_row (heap_alloc_new Wd (.cells (insC [⟨5, 99, 99⟩]).toArray 33)) _
    obtain ⟨X, hX⟩ : ∃ X, X = ((Wd.alloc (.cells (insC [⟨5, 99, 99⟩]).toArray 33)).alloc (.cells (insC [⟨7, 1, 0⟩]).toArray 33)) := ⟨_, rfl⟩
    rw [← hX] at hS2 r1 r2 ⊢
    clear hX hnb hS1
    refine wpL_one (i := 4) (by kernel_rfl) (wpOp_now rfl (by kernel_rfl) (fun K' hK => ?_))
    refine wp_append_grows1 X (.tmp 120) (.tmp 122) 23 rfl 33 i0 _ 3 24 Try.underlying23 hi hz0 hzs hzb rfl (by decide) ⟨Wd.heap.size + 1, 0, none⟩ 1 1 (insC [⟨7, 1, 0⟩]) rfl rfl (row_cells r1) ⟨Wd.heap.size, 0, none⟩ 1 1 (insC [⟨5, 99, 99⟩]) rfl rfl (row_cells r2) (by decide) (by unfold maxLen; decide) (by decide) (fun v1 x1 hown1 hg1 => hK _ _ ⟨fun _ => hS2.on hg1, ?_⟩)
    (try simp only [Act.put, sA])
    have hlx : V + 1 + 1 + 1 + 1 < X.heap.size := (Array.getElem?_eq_some_iff.1 hS2.crow).1
    have hS3 := hS2.on hg1
    refine wpL_one (i := 7) (by kernel_rfl) (wpOp_now rfl (by kernel_rfl) (fun K' hK => ?_))
    refine wp_append_own x1 (.tmp 123) (.tmp 125) 23 rfl X.heap.size 33 i0 _ 3 24 Try.underlying23 hi hz0 hzs hzb rfl (by decide) v1 2 (insC [⟨7, 1, 0⟩, ⟨5, 99, 99⟩]) rfl hown1 ⟨V + 1 + 1 + 1, 0, none⟩ 5 5 (insC Cd.small.body) rfl rfl (row_cells hS3.brow) (by intro u hu; simp [insC, Cd.small] at hu; rcases hu with rfl | rfl | rfl | rfl | rfl | rfl | rfl | rfl | rfl | rfl | rfl | rfl | rfl | rfl | rfl <;> rfl) (by unfold maxLen; decide) (by decide) hg1.size (fun v2 x2 hown2 hg2 _ => ?_)
    have hS4 := hS3.onto hg2 (fun k e => Nat.lt_of_lt_of_le hlx (hown1.lt k e).1)
    refine hK _ _ ⟨fun _ => hS4, ?_⟩
    (try simp only [Act.put])
    refine t1 8 127 (.pointer (some ⟨V + 1 + 1 + 1 + 1, 6, none⟩)) hS4 ?_
    (try simp only [Act.put])
    have hown3 : (x2.setCell ⟨V + 1 + 1 + 1 + 1, 6, none⟩ v2).ownsRow X.heap.size 33 3 v2 ([(⟨7, 1, 0⟩ : Cd.Ins), ⟨5, 99, 99⟩] ++ Cd.small.body).length (insC ([(⟨7, 1, 0⟩ : Cd.Ins), ⟨5, 99, 99⟩] ++ Cd.small.body)) := own_set hown2 hlx 6 v2
    obtain ⟨a', c', hv', hin⟩ := InssAt.own hown3
    have hv2 : v2 = .slice a' 7 c' := hv'
    clear hv'
    subst hv2
    have HI := Lib.hid hin
    have HB := Lib.hid hS4
    have k2 : x2.cell? ⟨V + 1 + 1 + 1 + 1, 6, none⟩ = some (.slice (some ⟨V + 1 + 1 + 1, 0, none⟩) 5 5) := (cell_of_row _ _ 6 _ _ _ HB.out.crow).trans rfl
    have z2 := Lib.frozen_of_heap HB.out.crow 6
    clear hown1 hown2 hown3 hin hg1 hg2 hS hS2 hS3 hS4 r1 r2 hlx
    refine wpL_one (i := 9) (by kernel_rfl) (wpOp_now rfl (by kernel_rfl) (fun K' hK => ?_))
    unfold Oper.wp
    go_simp
    refine hK _ _ ⟨fun h => absurd (List.mem_singleton.2 rfl) h, ?_⟩
    refine wpL_done (by kernel_rfl) ?_ _
    go_wp2_with (with_reducible refine hold_ld ?_)
    have HN := Lib.hid (HB.out.setC 6 (.slice a' 7 c'))
    obtain ⟨W5, hW5⟩ : ∃ W5, W5 = x2.setCell ⟨V + 1 + 1 + 1 + 1, 6, none⟩ (.slice a' 7 c') := ⟨_, rfl⟩
    rw [← hW5] at HN HI ⊢
    have hini : NumsAt W5 none ({ Cd.small with body := [(⟨7, 1, 0⟩ : Cd.Ins), ⟨5, 99, 99⟩] ++ Cd.small.body }).init := NumsAt.nil _ _
    have hbod : InssAt W5 a' ({ Cd.small with body := [(⟨7, 1, 0⟩ : Cd.Ins), ⟨5, 99, 99⟩] ++ Cd.small.body }).body := HI.out
    clear hW5 HB k2 z2 HI
    have hck := hC W5 ({ Cd.small with body := [(⟨7, 1, 0⟩ : Cd.Ins), ⟨5, 99, 99⟩] ++ Cd.small.body }) (some ⟨V + 1 + 1, 0, none⟩) 2 none 0 a' c' ⟨nums_row HN.out.krow, hini, hbod⟩ (by unfold I64s Cd.small Cd.I64 maxLen; refine ⟨by decide, by decide, by decide, by decide, by decide, by decide, by decide, by decide, by decide, by decide⟩) (by exact Nat.le_refl _)
    rw [show Cd.check ({ Cd.small with body := [(⟨7, 1, 0⟩ : Cd.Ins), ⟨5, 99, 99⟩] ++ Cd.small.body }) = 0 by decide +kernel, show codeV ({ Cd.small with body := [(⟨7, 1, 0⟩ : Cd.Ins), ⟨5, 99, 99⟩] ++ Cd.small.body }) (some ⟨V + 1 + 1, 0, none⟩) 2 none 0 a' c' = #[.slice (some ⟨V + 1 + 1, 0, none⟩) 2 2, .int .i64 1, .int .i64 1, .int .i64 0, .int .i64 2, .slice none 0 0, .slice a' 7 c'] from rfl] at hck
    have hr := HN.out.crow
    have y0 := cell_of_row _ _ 0 _ _ _ hr
    have y1 := cell_of_row _ _ 1 _ _ _ hr
    have y2 := cell_of_row _ _ 2 _ _ _ hr
    have y3 := cell_of_row _ _ 3 _ _ _ hr
    have y4 := cell_of_row _ _ 4 _ _ _ hr
    have y5 := cell_of_row _ _ 5 _ _ _ hr
    have y6 := cell_of_row _ _ 6 _ _ _ hr
    clear hr hini hbod
    refine Lib.hid ?_
    have hnum := fun k wx => num19_any k wx
    go_wp2_with (go_at_call 10; refine hck.mono ?_; rintro e w6 ⟨rfl, hg6⟩; refine Hid.out ?_)
    have v7 : w6.cell? ⟨V, 18, none⟩ = some (.int .i64 0) := hg6.cell ((cell_of_row W5 _ 18 _ _ _ HN.out.vrow).trans rfl) (by simp)
    have HG := Lib.hid (HN.out.gr.trans hg6)
    clear hck HN hg6 y0 y1 y2 y3 y4 y5 y6
    refine Lib.hid ?_
    go_upto_region 50 with fail
    go_quiet (first | (go_at_call 11; refine Calls.quiet_of_same (hnum _ _)))
    go_wp2
    go_ret
    exact ⟨rfl, ⟨HG.out.os, HG.out.tape, HG.out.output, HG.out.size, HG.out.block⟩⟩

end Go.Proofs.Ytcjainfcndlllaa
