/- Stage 19: CodeWrong, some of its cases (written by mkceh.py). -/
import Derived.Test.YtcjainfcndlllaaCeG
namespace Go.Proofs.Ytcjainfcndlllaa
open Go.RowKit Go.Maps Go.WideMaps

set_option maxHeartbeats 4000000 in
set_option maxRecDepth 100000 in
theorem cw_16 (hC : CCheck) (hWr : CWrite) (w : World) : Calls Try.prog 5 #[.int .i64 16] w fun e w' => e = .returned (.bool true) ∧ w.grownBy w' none := by
  have hal := alive19_any hC hWr w
  have hsm := fun wx => small_rows wx
  go_enter Try.func5, Try.ntmps5
  go_wp2_with (go_at_call 8; refine hal.mono ?_; rintro e w1 ⟨rfl, hg1⟩; refine Hid.out ?_)
  clear hal
  refine Lib.hid ?_
  go_wp2_with (go_at_call 13; refine (hsm _).mono ?_; rintro e w3 ⟨rfl, hk, hb, hg3, hs3⟩; refine Hid.out ?_)
  rw [World.size_alloc] at hk hb hs3
  refine Lib.hid ?_
  clear hsm
  go_wp2_with (with_reducible refine hold_st ?_)
  refine Lib.hid ?_
  refine store_lastc #[.slice (some ⟨w1.heap.size + 1 + 1, 0, none⟩) 2 2, .int .i64 1, .int .i64 1, .int .i64 0, .int .i64 2, .slice none 0 0, .slice (some ⟨w1.heap.size + 1 + 1 + 1, 0, none⟩) 5 5] ?hp ?hv ?hi ?ho ?h1 ?hK
  case hp => rw [hs3]; rfl
  case hv => rfl
  case hi => kernel_rfl
  case ho => rfl
  case h1 => exact small_one _ _
  have HW := Lib.hid (Cw.start hg1 [.slice (some ⟨w1.heap.size + 1 + 1, 0, none⟩) 2 2, .int .i64 1, .int .i64 1, .int .i64 0, .int .i64 2, .slice none 0 0, .slice (some ⟨w1.heap.size + 1 + 1 + 1, 0, none⟩) 5 5] hk hb hg3 hs3)
  clear hk hb hg3 hs3
  obtain ⟨W4, hW4⟩ : ∃ W4, W4 = w3.alloc (.cells #[.slice (some ⟨w1.heap.size + 1 + 1, 0, none⟩) 2 2, .int .i64 1, .int .i64 1, .int .i64 0, .int .i64 2, .slice none 0 0, .slice (some ⟨w1.heap.size + 1 + 1 + 1, 0, none⟩) 5 5] 25) := ⟨_, rfl⟩
  rw [← hW4] at HW ⊢
  clear hW4
  clear hg1
  obtain ⟨V, hV⟩ : ∃ V, V = w1.heap.size := ⟨_, rfl⟩
  rw [← hV] at HW ⊢
  clear hV
  have k1 : W4.cell? ⟨V + 1 + 1 + 1 + 1, 6, none⟩ = some (.slice (some ⟨V + 1 + 1 + 1, 0, none⟩) 5 5) := (cell_of_row W4 _ 6 _ _ _ HW.out.crow).trans rfl
  have z1 := Lib.frozen_of_heap HW.out.crow 6
  have k2 : W4.cell? ⟨V + 1 + 1 + 1, 9, none⟩ = some (.int .i64 3) := (cell_of_row W4 _ 9 _ _ _ HW.out.brow).trans rfl
  have z2 := Lib.frozen_of_heap HW.out.brow 9
  have k3 : W4.cell? ⟨V + 1 + 1 + 1, 10, none⟩ = some (.int .i64 1) := (cell_of_row W4 _ 10 _ _ _ HW.out.brow).trans rfl
  have z3 := Lib.frozen_of_heap HW.out.brow 10
  have k4 : W4.cell? ⟨V + 1 + 1 + 1, 11, none⟩ = some (.int .i64 0) := (cell_of_row W4 _ 11 _ _ _ HW.out.brow).trans rfl
  have z4 := Lib.frozen_of_heap HW.out.brow 11
  go_wp2_with (with_reducible refine hold_ld ?_)
  have HN := Lib.hid ((((HW.out.setB (bs' := Cd.small.body.set 3 ⟨8, 1, 0⟩) 9 (.int .i64 8) rfl).setB (bs' := Cd.small.body.set 3 ⟨8, 0, 0⟩) 10 (.int .i64 0) rfl).setB (bs' := Cd.small.body.set 3 ⟨8, 0, 0⟩) 11 (.int .i64 0) rfl))
  obtain ⟨W5, hW5⟩ : ∃ W5, W5 = (((W4.setCell ⟨V + 1 + 1 + 1, 9, none⟩ (.int .i64 8)).setCell ⟨V + 1 + 1 + 1, 10, none⟩ (.int .i64 0)).setCell ⟨V + 1 + 1 + 1, 11, none⟩ (.int .i64 0)) := ⟨_, rfl⟩
  rw [← hW5] at HN ⊢
  have hini : NumsAt W5 none ({ Cd.small with body := Cd.small.body.set 3 ⟨8, 0, 0⟩ }).init := NumsAt.nil _ _
  have hbod : InssAt W5 (some ⟨V + 1 + 1 + 1, 0, none⟩) ({ Cd.small with body := Cd.small.body.set 3 ⟨8, 0, 0⟩ }).body := inss_row HN.out.brow
  clear hW5 HW k1 z1 k2 z2 k3 z3 k4 z4
  have hck := hC W5 ({ Cd.small with body := Cd.small.body.set 3 ⟨8, 0, 0⟩ }) (some ⟨V + 1 + 1, 0, none⟩) 2 none 0 (some ⟨V + 1 + 1 + 1, 0, none⟩) 5 ⟨nums_row HN.out.krow, hini, hbod⟩ (by unfold I64s Cd.small Cd.I64 maxLen; refine ⟨by decide, by decide, by decide, by decide, by decide, by decide, by decide, by decide, by decide, by decide⟩) (by exact Nat.le_refl _)
  rw [show Cd.check ({ Cd.small with body := Cd.small.body.set 3 ⟨8, 0, 0⟩ }) = 50 by decide +kernel, show codeV ({ Cd.small with body := Cd.small.body.set 3 ⟨8, 0, 0⟩ }) (some ⟨V + 1 + 1, 0, none⟩) 2 none 0 (some ⟨V + 1 + 1 + 1, 0, none⟩) 5 = #[.slice (some ⟨V + 1 + 1, 0, none⟩) 2 2, .int .i64 1, .int .i64 1, .int .i64 0, .int .i64 2, .slice none 0 0, .slice (some ⟨V + 1 + 1 + 1, 0, none⟩) 5 5] from rfl] at hck
  have hr := HN.out.crow
  have y0 := cell_of_row _ _ 0 _ _ _ hr
  have y1 := cell_of_row _ _ 1 _ _ _ hr
  have y2 := cell_of_row _ _ 2 _ _ _ hr
  have y3 := cell_of_row _ _ 3 _ _ _ hr
  have y4 := cell_of_row _ _ 4 _ _ _ hr
  have y5 := cell_of_row _ _ 5 _ _ _ hr
  have y6 := cell_of_row _ _ 6 _ _ _ hr
  clear hr hini hbod
  refine Lib.hid ?_
  have hnum := fun k wx => num19_any k wx
  go_wp2_with (go_at_call 10; refine hck.mono ?_; rintro e w6 ⟨rfl, hg6⟩; refine Hid.out ?_)
  have v7 : w6.cell? ⟨V, 16, none⟩ = some (.int .i64 50) := hg6.cell ((cell_of_row W5 _ 16 _ _ _ HN.out.vrow).trans rfl) (by simp)
  have HG := Lib.hid (HN.out.gr.trans hg6)
  clear hck HN hg6 y0 y1 y2 y3 y4 y5 y6
  refine Lib.hid ?_
  go_upto_region 50 with fail
  go_quiet (first | (go_at_call 11; refine Calls.quiet_of_same (hnum _ _)))
  go_wp2
  go_ret
  exact ⟨rfl, ⟨HG.out.os, HG.out.tape, HG.out.output, HG.out.size, HG.out.block⟩⟩

set_option maxHeartbeats 4000000 in
set_option maxRecDepth 100000 in
theorem cw_17 (hC : CCheck) (hWr : CWrite) (w : World) : Calls Try.prog 5 #[.int .i64 17] w fun e w' => e = .returned (.bool true) ∧ w.grownBy w' none := by
  have hal := alive19_any hC hWr w
  have hsm := fun wx => small_rows wx
  go_enter Try.func5, Try.ntmps5
  go_wp2_with (go_at_call 8; refine hal.mono ?_; rintro e w1 ⟨rfl, hg1⟩; refine Hid.out ?_)
  clear hal
  refine Lib.hid ?_
  go_wp2_with (go_at_call 13; refine (hsm _).mono ?_; rintro e w3 ⟨rfl, hk, hb, hg3, hs3⟩; refine Hid.out ?_)
  rw [World.size_alloc] at hk hb hs3
  refine Lib.hid ?_
  clear hsm
  go_wp2_with (with_reducible refine hold_st ?_)
  refine Lib.hid ?_
  refine store_lastc #[.slice (some ⟨w1.heap.size + 1 + 1, 0, none⟩) 2 2, .int .i64 1, .int .i64 1, .int .i64 0, .int .i64 2, .slice none 0 0, .slice (some ⟨w1.heap.size + 1 + 1 + 1, 0, none⟩) 5 5] ?hp ?hv ?hi ?ho ?h1 ?hK
  case hp => rw [hs3]; rfl
  case hv => rfl
  case hi => kernel_rfl
  case ho => rfl
  case h1 => exact small_one _ _
  have HW := Lib.hid (Cw.start hg1 [.slice (some ⟨w1.heap.size + 1 + 1, 0, none⟩) 2 2, .int .i64 1, .int .i64 1, .int .i64 0, .int .i64 2, .slice none 0 0, .slice (some ⟨w1.heap.size + 1 + 1 + 1, 0, none⟩) 5 5] hk hb hg3 hs3)
  clear hk hb hg3 hs3
  obtain ⟨W4, hW4⟩ : ∃ W4, W4 = w3.alloc (.cells #[.slice (some ⟨w1.heap.size + 1 + 1, 0, none⟩) 2 2, .int .i64 1, .int .i64 1, .int .i64 0, .int .i64 2, .slice none 0 0, .slice (some ⟨w1.heap.size + 1 + 1 + 1, 0, none⟩) 5 5] 25) := ⟨_, rfl⟩
  rw [← hW4] at HW ⊢
  clear hW4
  clear hg1
  obtain ⟨V, hV⟩ : ∃ V, V = w1.heap.size := ⟨_, rfl⟩
  rw [← hV] at HW ⊢
  clear hV
  have k1 : W4.cell? ⟨V + 1 + 1 + 1 + 1, 6, none⟩ = some (.slice (some ⟨V + 1 + 1 + 1, 0, none⟩) 5 5) := (cell_of_row W4 _ 6 _ _ _ HW.out.crow).trans rfl
  have z1 := Lib.frozen_of_heap HW.out.crow 6
  have k2 : W4.cell? ⟨V + 1 + 1 + 1, 3, none⟩ = some (.int .i64 1) := (cell_of_row W4 _ 3 _ _ _ HW.out.brow).trans rfl
  have z2 := Lib.frozen_of_heap HW.out.brow 3
  have k3 : W4.cell? ⟨V + 1 + 1 + 1, 4, none⟩ = some (.int .i64 1) := (cell_of_row W4 _ 4 _ _ _ HW.out.brow).trans rfl
  have z3 := Lib.frozen_of_heap HW.out.brow 4
  have k4 : W4.cell? ⟨V + 1 + 1 + 1, 5, none⟩ = some (.int .i64 2) := (cell_of_row W4 _ 5 _ _ _ HW.out.brow).trans rfl
  have z4 := Lib.frozen_of_heap HW.out.brow 5
  go_wp2_with (with_reducible refine hold_ld ?_)
  have HN := Lib.hid ((((HW.out.setB (bs' := Cd.small.body.set 1 ⟨3, 1, 2⟩) 3 (.int .i64 3) rfl).setB (bs' := Cd.small.body.set 1 ⟨3, 1, 2⟩) 4 (.int .i64 1) rfl).setB (bs' := Cd.small.body.set 1 ⟨3, 1, 0⟩) 5 (.int .i64 0) rfl))
  obtain ⟨W5, hW5⟩ : ∃ W5, W5 = (((W4.setCell ⟨V + 1 + 1 + 1, 3, none⟩ (.int .i64 3)).setCell ⟨V + 1 + 1 + 1, 4, none⟩ (.int .i64 1)).setCell ⟨V + 1 + 1 + 1, 5, none⟩ (.int .i64 0)) := ⟨_, rfl⟩
  rw [← hW5] at HN ⊢
  have hini : NumsAt W5 none ({ Cd.small with body := Cd.small.body.set 1 ⟨3, 1, 0⟩ }).init := NumsAt.nil _ _
  have hbod : InssAt W5 (some ⟨V + 1 + 1 + 1, 0, none⟩) ({ Cd.small with body := Cd.small.body.set 1 ⟨3, 1, 0⟩ }).body := inss_row HN.out.brow
  clear hW5 HW k1 z1 k2 z2 k3 z3 k4 z4
  have hck := hC W5 ({ Cd.small with body := Cd.small.body.set 1 ⟨3, 1, 0⟩ }) (some ⟨V + 1 + 1, 0, none⟩) 2 none 0 (some ⟨V + 1 + 1 + 1, 0, none⟩) 5 ⟨nums_row HN.out.krow, hini, hbod⟩ (by unfold I64s Cd.small Cd.I64 maxLen; refine ⟨by decide, by decide, by decide, by decide, by decide, by decide, by decide, by decide, by decide, by decide⟩) (by exact Nat.le_refl _)
  rw [show Cd.check ({ Cd.small with body := Cd.small.body.set 1 ⟨3, 1, 0⟩ }) = 50 by decide +kernel, show codeV ({ Cd.small with body := Cd.small.body.set 1 ⟨3, 1, 0⟩ }) (some ⟨V + 1 + 1, 0, none⟩) 2 none 0 (some ⟨V + 1 + 1 + 1, 0, none⟩) 5 = #[.slice (some ⟨V + 1 + 1, 0, none⟩) 2 2, .int .i64 1, .int .i64 1, .int .i64 0, .int .i64 2, .slice none 0 0, .slice (some ⟨V + 1 + 1 + 1, 0, none⟩) 5 5] from rfl] at hck
  have hr := HN.out.crow
  have y0 := cell_of_row _ _ 0 _ _ _ hr
  have y1 := cell_of_row _ _ 1 _ _ _ hr
  have y2 := cell_of_row _ _ 2 _ _ _ hr
  have y3 := cell_of_row _ _ 3 _ _ _ hr
  have y4 := cell_of_row _ _ 4 _ _ _ hr
  have y5 := cell_of_row _ _ 5 _ _ _ hr
  have y6 := cell_of_row _ _ 6 _ _ _ hr
  clear hr hini hbod
  refine Lib.hid ?_
  have hnum := fun k wx => num19_any k wx
  go_wp2_with (go_at_call 10; refine hck.mono ?_; rintro e w6 ⟨rfl, hg6⟩; refine Hid.out ?_)
  have v7 : w6.cell? ⟨V, 17, none⟩ = some (.int .i64 50) := hg6.cell ((cell_of_row W5 _ 17 _ _ _ HN.out.vrow).trans rfl) (by simp)
  have HG := Lib.hid (HN.out.gr.trans hg6)
  clear hck HN hg6 y0 y1 y2 y3 y4 y5 y6
  refine Lib.hid ?_
  go_upto_region 50 with fail
  go_quiet (first | (go_at_call 11; refine Calls.quiet_of_same (hnum _ _)))
  go_wp2
  go_ret
  exact ⟨rfl, ⟨HG.out.os, HG.out.tape, HG.out.output, HG.out.size, HG.out.block⟩⟩

set_option maxHeartbeats 4000000 in
set_option maxRecDepth 100000 in
theorem cw_19 (hC : CCheck) (hWr : CWrite) (w : World) : Calls Try.prog 5 #[.int .i64 19] w fun e w' => e = .returned (.bool true) ∧ w.grownBy w' none := by
  have hal := alive19_any hC hWr w
  have hsm := fun wx => small_rows wx
  go_enter Try.func5, Try.ntmps5
  go_wp2_with (go_at_call 8; refine hal.mono ?_; rintro e w1 ⟨rfl, hg1⟩; refine Hid.out ?_)
  clear hal
  refine Lib.hid ?_
  go_wp2_with (go_at_call 13; refine (hsm _).mono ?_; rintro e w3 ⟨rfl, hk, hb, hg3, hs3⟩; refine Hid.out ?_)
  rw [World.size_alloc] at hk hb hs3
  refine Lib.hid ?_
  clear hsm
  go_wp2_with (with_reducible refine hold_st ?_)
  refine Lib.hid ?_
  refine store_lastc #[.slice (some ⟨w1.heap.size + 1 + 1, 0, none⟩) 2 2, .int .i64 1, .int .i64 1, .int .i64 0, .int .i64 2, .slice none 0 0, .slice (some ⟨w1.heap.size + 1 + 1 + 1, 0, none⟩) 5 5] ?hp ?hv ?hi ?ho ?h1 ?hK
  case hp => rw [hs3]; rfl
  case hv => rfl
  case hi => kernel_rfl
  case ho => rfl
  case h1 => exact small_one _ _
  have HW := Lib.hid (Cw.start hg1 [.slice (some ⟨w1.heap.size + 1 + 1, 0, none⟩) 2 2, .int .i64 1, .int .i64 1, .int .i64 0, .int .i64 2, .slice none 0 0, .slice (some ⟨w1.heap.size + 1 + 1 + 1, 0, none⟩) 5 5] hk hb hg3 hs3)
  clear hk hb hg3 hs3
  obtain ⟨W4, hW4⟩ : ∃ W4, W4 = w3.alloc (.cells #[.slice (some ⟨w1.heap.size + 1 + 1, 0, none⟩) 2 2, .int .i64 1, .int .i64 1, .int .i64 0, .int .i64 2, .slice none 0 0, .slice (some ⟨w1.heap.size + 1 + 1 + 1, 0, none⟩) 5 5] 25) := ⟨_, rfl⟩
  rw [← hW4] at HW ⊢
  clear hW4
  clear hg1
  obtain ⟨V, hV⟩ : ∃ V, V = w1.heap.size := ⟨_, rfl⟩
  rw [← hV] at HW ⊢
  clear hV
  have k1 : W4.cell? ⟨V + 1 + 1 + 1 + 1, 4, none⟩ = some (.int .i64 2) := (cell_of_row W4 _ 4 _ _ _ HW.out.crow).trans rfl
  have z1 := Lib.frozen_of_heap HW.out.crow 4
  go_wp2_with (with_reducible refine hold_ld ?_)
  have HN := Lib.hid (HW.out.setC 4 (.int .i64 65))
  obtain ⟨W5, hW5⟩ : ∃ W5, W5 = W4.setCell ⟨V + 1 + 1 + 1 + 1, 4, none⟩ (.int .i64 65) := ⟨_, rfl⟩
  rw [← hW5] at HN ⊢
  have hini : NumsAt W5 none ({ Cd.small with stack := 65 }).init := NumsAt.nil _ _
  have hbod : InssAt W5 (some ⟨V + 1 + 1 + 1, 0, none⟩) ({ Cd.small with stack := 65 }).body := inss_row HN.out.brow
  clear hW5 HW k1 z1 
  have hck := hC W5 ({ Cd.small with stack := 65 }) (some ⟨V + 1 + 1, 0, none⟩) 2 none 0 (some ⟨V + 1 + 1 + 1, 0, none⟩) 5 ⟨nums_row HN.out.krow, hini, hbod⟩ (by unfold I64s Cd.small Cd.I64 maxLen; refine ⟨by decide, by decide, by decide, by decide, by decide, by decide, by decide, by decide, by decide, by decide⟩) (by exact Nat.le_refl _)
  rw [show Cd.check ({ Cd.small with stack := 65 }) = 2 by decide +kernel, show codeV ({ Cd.small with stack := 65 }) (some ⟨V + 1 + 1, 0, none⟩) 2 none 0 (some ⟨V + 1 + 1 + 1, 0, none⟩) 5 = #[.slice (some ⟨V + 1 + 1, 0, none⟩) 2 2, .int .i64 1, .int .i64 1, .int .i64 0, .int .i64 65, .slice none 0 0, .slice (some ⟨V + 1 + 1 + 1, 0, none⟩) 5 5] from rfl] at hck
  have hr := HN.out.crow
  have y0 := cell_of_row _ _ 0 _ _ _ hr
  have y1 := cell_of_row _ _ 1 _ _ _ hr
  have y2 := cell_of_row _ _ 2 _ _ _ hr
  have y3 := cell_of_row _ _ 3 _ _ _ hr
  have y4 := cell_of_row _ _ 4 _ _ _ hr
  have y5 := cell_of_row _ _ 5 _ _ _ hr
  have y6 := cell_of_row _ _ 6 _ _ _ hr
  clear hr hini hbod
  refine Lib.hid ?_
  have hnum := fun k wx => num19_any k wx
  go_wp2_with (go_at_call 10; refine hck.mono ?_; rintro e w6 ⟨rfl, hg6⟩; refine Hid.out ?_)
  have v7 : w6.cell? ⟨V, 19, none⟩ = some (.int .i64 2) := hg6.cell ((cell_of_row W5 _ 19 _ _ _ HN.out.vrow).trans rfl) (by simp)
  have HG := Lib.hid (HN.out.gr.trans hg6)
  clear hck HN hg6 y0 y1 y2 y3 y4 y5 y6
  refine Lib.hid ?_
  go_upto_region 50 with fail
  go_quiet (first | (go_at_call 11; refine Calls.quiet_of_same (hnum _ _)))
  go_wp2
  go_ret
  exact ⟨rfl, ⟨HG.out.os, HG.out.tape, HG.out.output, HG.out.size, HG.out.block⟩⟩

set_option maxHeartbeats 4000000 in
set_option maxRecDepth 100000 in
theorem cw_20 (hC : CCheck) (hWr : CWrite) (w : World) : Calls Try.prog 5 #[.int .i64 20] w fun e w' => e = .returned (.bool true) ∧ w.grownBy w' none := by
  have hal := alive19_any hC hWr w
  have hsm := fun wx => small_rows wx
  go_enter Try.func5, Try.ntmps5
  go_wp2_with (go_at_call 8; refine hal.mono ?_; rintro e w1 ⟨rfl, hg1⟩; refine Hid.out ?_)
  clear hal
  refine Lib.hid ?_
  go_wp2_with (go_at_call 13; refine (hsm _).mono ?_; rintro e w3 ⟨rfl, hk, hb, hg3, hs3⟩; refine Hid.out ?_)
  rw [World.size_alloc] at hk hb hs3
  refine Lib.hid ?_
  clear hsm
  go_wp2_with (with_reducible refine hold_st ?_)
  refine Lib.hid ?_
  refine store_lastc #[.slice (some ⟨w1.heap.size + 1 + 1, 0, none⟩) 2 2, .int .i64 1, .int .i64 1, .int .i64 0, .int .i64 2, .slice none 0 0, .slice (some ⟨w1.heap.size + 1 + 1 + 1, 0, none⟩) 5 5] ?hp ?hv ?hi ?ho ?h1 ?hK
  case hp => rw [hs3]; rfl
  case hv => rfl
  case hi => kernel_rfl
  case ho => rfl
  case h1 => exact small_one _ _
  have HW := Lib.hid (Cw.start hg1 [.slice (some ⟨w1.heap.size + 1 + 1, 0, none⟩) 2 2, .int .i64 1, .int .i64 1, .int .i64 0, .int .i64 2, .slice none 0 0, .slice (some ⟨w1.heap.size + 1 + 1 + 1, 0, none⟩) 5 5] hk hb hg3 hs3)
  clear hk hb hg3 hs3
  obtain ⟨W4, hW4⟩ : ∃ W4, W4 = w3.alloc (.cells #[.slice (some ⟨w1.heap.size + 1 + 1, 0, none⟩) 2 2, .int .i64 1, .int .i64 1, .int .i64 0, .int .i64 2, .slice none 0 0, .slice (some ⟨w1.heap.size + 1 + 1 + 1, 0, none⟩) 5 5] 25) := ⟨_, rfl⟩
  rw [← hW4] at HW ⊢
  clear hW4
  clear hg1
  obtain ⟨V, hV⟩ : ∃ V, V = w1.heap.size := ⟨_, rfl⟩
  rw [← hV] at HW ⊢
  clear hV
  have k1 : W4.cell? ⟨V + 1 + 1 + 1 + 1, 4, none⟩ = some (.int .i64 2) := (cell_of_row W4 _ 4 _ _ _ HW.out.crow).trans rfl
  have z1 := Lib.frozen_of_heap HW.out.crow 4
  go_wp2_with (with_reducible refine hold_ld ?_)
  have HN := Lib.hid (HW.out.setC 4 (.int .i64 (-1)))
  obtain ⟨W5, hW5⟩ : ∃ W5, W5 = W4.setCell ⟨V + 1 + 1 + 1 + 1, 4, none⟩ (.int .i64 (-1)) := ⟨_, rfl⟩
  rw [← hW5] at HN ⊢
  have hini : NumsAt W5 none ({ Cd.small with stack := -1 }).init := NumsAt.nil _ _
  have hbod : InssAt W5 (some ⟨V + 1 + 1 + 1, 0, none⟩) ({ Cd.small with stack := -1 }).body := inss_row HN.out.brow
  clear hW5 HW k1 z1 
  have hck := hC W5 ({ Cd.small with stack := -1 }) (some ⟨V + 1 + 1, 0, none⟩) 2 none 0 (some ⟨V + 1 + 1 + 1, 0, none⟩) 5 ⟨nums_row HN.out.krow, hini, hbod⟩ (by unfold I64s Cd.small Cd.I64 maxLen; refine ⟨by decide, by decide, by decide, by decide, by decide, by decide, by decide, by decide, by decide, by decide⟩) (by exact Nat.le_refl _)
  rw [show Cd.check ({ Cd.small with stack := -1 }) = 40 by decide +kernel, show codeV ({ Cd.small with stack := -1 }) (some ⟨V + 1 + 1, 0, none⟩) 2 none 0 (some ⟨V + 1 + 1 + 1, 0, none⟩) 5 = #[.slice (some ⟨V + 1 + 1, 0, none⟩) 2 2, .int .i64 1, .int .i64 1, .int .i64 0, .int .i64 (-1), .slice none 0 0, .slice (some ⟨V + 1 + 1 + 1, 0, none⟩) 5 5] from rfl] at hck
  have hr := HN.out.crow
  have y0 := cell_of_row _ _ 0 _ _ _ hr
  have y1 := cell_of_row _ _ 1 _ _ _ hr
  have y2 := cell_of_row _ _ 2 _ _ _ hr
  have y3 := cell_of_row _ _ 3 _ _ _ hr
  have y4 := cell_of_row _ _ 4 _ _ _ hr
  have y5 := cell_of_row _ _ 5 _ _ _ hr
  have y6 := cell_of_row _ _ 6 _ _ _ hr
  clear hr hini hbod
  refine Lib.hid ?_
  have hnum := fun k wx => num19_any k wx
  go_wp2_with (go_at_call 10; refine hck.mono ?_; rintro e w6 ⟨rfl, hg6⟩; refine Hid.out ?_)
  have v7 : w6.cell? ⟨V, 20, none⟩ = some (.int .i64 40) := hg6.cell ((cell_of_row W5 _ 20 _ _ _ HN.out.vrow).trans rfl) (by simp)
  have HG := Lib.hid (HN.out.gr.trans hg6)
  clear hck HN hg6 y0 y1 y2 y3 y4 y5 y6
  refine Lib.hid ?_
  go_upto_region 50 with fail
  go_quiet (first | (go_at_call 11; refine Calls.quiet_of_same (hnum _ _)))
  go_wp2
  go_ret
  exact ⟨rfl, ⟨HG.out.os, HG.out.tape, HG.out.output, HG.out.size, HG.out.block⟩⟩

set_option maxHeartbeats 4000000 in
set_option maxRecDepth 100000 in
theorem cw_21 (hC : CCheck) (hWr : CWrite) (w : World) : Calls Try.prog 5 #[.int .i64 21] w fun e w' => e = .returned (.bool true) ∧ w.grownBy w' none := by
  have hal := alive19_any hC hWr w
  have hsm := fun wx => small_rows wx
  go_enter Try.func5, Try.ntmps5
  go_wp2_with (go_at_call 8; refine hal.mono ?_; rintro e w1 ⟨rfl, hg1⟩; refine Hid.out ?_)
  clear hal
  refine Lib.hid ?_
  go_wp2_with (go_at_call 13; refine (hsm _).mono ?_; rintro e w3 ⟨rfl, hk, hb, hg3, hs3⟩; refine Hid.out ?_)
  rw [World.size_alloc] at hk hb hs3
  refine Lib.hid ?_
  clear hsm
  go_wp2_with (with_reducible refine hold_st ?_)
  refine Lib.hid ?_
  refine store_lastc #[.slice (some ⟨w1.heap.size + 1 + 1, 0, none⟩) 2 2, .int .i64 1, .int .i64 1, .int .i64 0, .int .i64 2, .slice none 0 0, .slice (some ⟨w1.heap.size + 1 + 1 + 1, 0, none⟩) 5 5] ?hp ?hv ?hi ?ho ?h1 ?hK
  case hp => rw [hs3]; rfl
  case hv => rfl
  case hi => kernel_rfl
  case ho => rfl
  case h1 => exact small_one _ _
  have HW := Lib.hid (Cw.start hg1 [.slice (some ⟨w1.heap.size + 1 + 1, 0, none⟩) 2 2, .int .i64 1, .int .i64 1, .int .i64 0, .int .i64 2, .slice none 0 0, .slice (some ⟨w1.heap.size + 1 + 1 + 1, 0, none⟩) 5 5] hk hb hg3 hs3)
  clear hk hb hg3 hs3
  obtain ⟨W4, hW4⟩ : ∃ W4, W4 = w3.alloc (.cells #[.slice (some ⟨w1.heap.size + 1 + 1, 0, none⟩) 2 2, .int .i64 1, .int .i64 1, .int .i64 0, .int .i64 2, .slice none 0 0, .slice (some ⟨w1.heap.size + 1 + 1 + 1, 0, none⟩) 5 5] 25) := ⟨_, rfl⟩
  rw [← hW4] at HW ⊢
  clear hW4
  clear hg1
  obtain ⟨V, hV⟩ : ∃ V, V = w1.heap.size := ⟨_, rfl⟩
  rw [← hV] at HW ⊢
  clear hV
  have k1 : W4.cell? ⟨V + 1 + 1 + 1 + 1, 6, none⟩ = some (.slice (some ⟨V + 1 + 1 + 1, 0, none⟩) 5 5) := (cell_of_row W4 _ 6 _ _ _ HW.out.crow).trans rfl
  have z1 := Lib.frozen_of_heap HW.out.crow 6
  have k2 : W4.cell? ⟨V + 1 + 1 + 1, 6, none⟩ = some (.int .i64 5) := (cell_of_row W4 _ 6 _ _ _ HW.out.brow).trans rfl
  have z2 := Lib.frozen_of_heap HW.out.brow 6
  have k3 : W4.cell? ⟨V + 1 + 1 + 1, 7, none⟩ = some (.int .i64 3) := (cell_of_row W4 _ 7 _ _ _ HW.out.brow).trans rfl
  have z3 := Lib.frozen_of_heap HW.out.brow 7
  have k4 : W4.cell? ⟨V + 1 + 1 + 1, 8, none⟩ = some (.int .i64 2) := (cell_of_row W4 _ 8 _ _ _ HW.out.brow).trans rfl
  have z4 := Lib.frozen_of_heap HW.out.brow 8
  go_wp2_with (with_reducible refine hold_ld ?_)
  have HN := Lib.hid ((((HW.out.setB (bs' := Cd.small.body.set 2 ⟨6, 3, 2⟩) 6 (.int .i64 6) rfl).setB (bs' := Cd.small.body.set 2 ⟨6, 6, 2⟩) 7 (.int .i64 6) rfl).setB (bs' := Cd.small.body.set 2 ⟨6, 6, 2⟩) 8 (.int .i64 2) rfl))
  obtain ⟨W5, hW5⟩ : ∃ W5, W5 = (((W4.setCell ⟨V + 1 + 1 + 1, 6, none⟩ (.int .i64 6)).setCell ⟨V + 1 + 1 + 1, 7, none⟩ (.int .i64 6)).setCell ⟨V + 1 + 1 + 1, 8, none⟩ (.int .i64 2)) := ⟨_, rfl⟩
  rw [← hW5] at HN ⊢
  have hini : NumsAt W5 none ({ Cd.small with body := Cd.small.body.set 2 ⟨6, 6, 2⟩ }).init := NumsAt.nil _ _
  have hbod : InssAt W5 (some ⟨V + 1 + 1 + 1, 0, none⟩) ({ Cd.small with body := Cd.small.body.set 2 ⟨6, 6, 2⟩ }).body := inss_row HN.out.brow
  clear hW5 HW k1 z1 k2 z2 k3 z3 k4 z4
  have hck := hC W5 ({ Cd.small with body := Cd.small.body.set 2 ⟨6, 6, 2⟩ }) (some ⟨V + 1 + 1, 0, none⟩) 2 none 0 (some ⟨V + 1 + 1 + 1, 0, none⟩) 5 ⟨nums_row HN.out.krow, hini, hbod⟩ (by unfold I64s Cd.small Cd.I64 maxLen; refine ⟨by decide, by decide, by decide, by decide, by decide, by decide, by decide, by decide, by decide, by decide⟩) (by exact Nat.le_refl _)
  rw [show Cd.check ({ Cd.small with body := Cd.small.body.set 2 ⟨6, 6, 2⟩ }) = 50 by decide +kernel, show codeV ({ Cd.small with body := Cd.small.body.set 2 ⟨6, 6, 2⟩ }) (some ⟨V + 1 + 1, 0, none⟩) 2 none 0 (some ⟨V + 1 + 1 + 1, 0, none⟩) 5 = #[.slice (some ⟨V + 1 + 1, 0, none⟩) 2 2, .int .i64 1, .int .i64 1, .int .i64 0, .int .i64 2, .slice none 0 0, .slice (some ⟨V + 1 + 1 + 1, 0, none⟩) 5 5] from rfl] at hck
  have hr := HN.out.crow
  have y0 := cell_of_row _ _ 0 _ _ _ hr
  have y1 := cell_of_row _ _ 1 _ _ _ hr
  have y2 := cell_of_row _ _ 2 _ _ _ hr
  have y3 := cell_of_row _ _ 3 _ _ _ hr
  have y4 := cell_of_row _ _ 4 _ _ _ hr
  have y5 := cell_of_row _ _ 5 _ _ _ hr
  have y6 := cell_of_row _ _ 6 _ _ _ hr
  clear hr hini hbod
  refine Lib.hid ?_
  have hnum := fun k wx => num19_any k wx
  go_wp2_with (go_at_call 10; refine hck.mono ?_; rintro e w6 ⟨rfl, hg6⟩; refine Hid.out ?_)
  have v7 : w6.cell? ⟨V, 21, none⟩ = some (.int .i64 50) := hg6.cell ((cell_of_row W5 _ 21 _ _ _ HN.out.vrow).trans rfl) (by simp)
  have HG := Lib.hid (HN.out.gr.trans hg6)
  clear hck HN hg6 y0 y1 y2 y3 y4 y5 y6
  refine Lib.hid ?_
  go_upto_region 50 with fail
  go_quiet (first | (go_at_call 11; refine Calls.quiet_of_same (hnum _ _)))
  go_wp2
  go_ret
  exact ⟨rfl, ⟨HG.out.os, HG.out.tape, HG.out.output, HG.out.size, HG.out.block⟩⟩

end Go.Proofs.Ytcjainfcndlllaa
