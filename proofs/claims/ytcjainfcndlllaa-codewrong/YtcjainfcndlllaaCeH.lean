/- Stage 19: CodeWrong, some of its cases (written by mkceh.py). -/
import Derived.Test.YtcjainfcndlllaaCeG
namespace Go.Proofs.Ytcjainfcndlllaa
open Go.RowKit Go.Maps Go.WideMaps

set_option maxHeartbeats 4000000 in
set_option maxRecDepth 100000 in
theorem cw_0 (hC : CCheck) (hWr : CWrite) (w : World) : Calls Try.prog 5 #[.int .i64 0] w fun e w' => e = .returned (.bool true) ∧ w.grownBy w' none := by
  have hal := alive19_any hC hWr w
  have hsm := fun wx => small_rows wx
  go_enter Try.func5, Try.ntmps5
  go_wp2_with (go_at_call 8; refine hal.mono ?_; rintro e w1 ⟨rfl, hg1⟩; refine Hid.out ?_)
  clear hal
  refine Lib.hid ?_
  go_wp2_with (go_at_call 13; refine (hsm _).mono ?_; rintro e w3 ⟨rfl, hk, hb, hg3, hs3⟩; refine Hid.out ?_)
  rw [World.size_alloc] at hk hb hs3
  refine Lib.hid ?_
  clear hsm
  go_wp2_with (with_reducible refine hold_st ?_)
  refine Lib.hid ?_
  refine store_lastc #[.slice (some ⟨w1.heap.size + 1 + 1, 0, none⟩) 2 2, .int .i64 1, .int .i64 1, .int .i64 0, .int .i64 2, .slice none 0 0, .slice (some ⟨w1.heap.size + 1 + 1 + 1, 0, none⟩) 5 5] ?hp ?hv ?hi ?ho ?h1 ?hK
  case hp => rw [hs3]; rfl
  case hv => rfl
  case hi => kernel_rfl
  case ho => rfl
  case h1 => exact small_one _ _
  have HW := Lib.hid (Cw.start hg1 [.slice (some ⟨w1.heap.size + 1 + 1, 0, none⟩) 2 2, .int .i64 1, .int .i64 1, .int .i64 0, .int .i64 2, .slice none 0 0, .slice (some ⟨w1.heap.size + 1 + 1 + 1, 0, none⟩) 5 5] hk hb hg3 hs3)
  clear hk hb hg3 hs3
  obtain ⟨W4, hW4⟩ : ∃ W4, W4 = w3.alloc (.cells #[.slice (some ⟨w1.heap.size + 1 + 1, 0, none⟩) 2 2, .int .i64 1, .int .i64 1, .int .i64 0, .int .i64 2, .slice none 0 0, .slice (some ⟨w1.heap.size + 1 + 1 + 1, 0, none⟩) 5 5] 25) := ⟨_, rfl⟩
  rw [← hW4] at HW ⊢
  clear hW4
  clear hg1
  obtain ⟨V, hV⟩ : ∃ V, V = w1.heap.size := ⟨_, rfl⟩
  rw [← hV] at HW ⊢
  clear hV
  go_wp2_with (with_reducible refine hold_ld ?_)
  have HN := Lib.hid (HW.out)
  obtain ⟨W5, hW5⟩ : ∃ W5, W5 = W4 := ⟨_, rfl⟩
  rw [← hW5] at HN ⊢
  have hini : NumsAt W5 none (Cd.small).init := NumsAt.nil _ _
  have hbod : InssAt W5 (some ⟨V + 1 + 1 + 1, 0, none⟩) (Cd.small).body := inss_row HN.out.brow
  clear hW5 HW 
  have hck := hC W5 (Cd.small) (some ⟨V + 1 + 1, 0, none⟩) 2 none 0 (some ⟨V + 1 + 1 + 1, 0, none⟩) 5 ⟨nums_row HN.out.krow, hini, hbod⟩ (by unfold I64s Cd.small Cd.I64 maxLen; refine ⟨by decide, by decide, by decide, by decide, by decide, by decide, by decide, by decide, by decide, by decide⟩) (by exact Nat.le_refl _)
  rw [show Cd.check (Cd.small) = 0 by decide +kernel, show codeV (Cd.small) (some ⟨V + 1 + 1, 0, none⟩) 2 none 0 (some ⟨V + 1 + 1 + 1, 0, none⟩) 5 = #[.slice (some ⟨V + 1 + 1, 0, none⟩) 2 2, .int .i64 1, .int .i64 1, .int .i64 0, .int .i64 2, .slice none 0 0, .slice (some ⟨V + 1 + 1 + 1, 0, none⟩) 5 5] from rfl] at hck
  have hr := HN.out.crow
  have y0 := cell_of_row _ _ 0 _ _ _ hr
  have y1 := cell_of_row _ _ 1 _ _ _ hr
  have y2 := cell_of_row _ _ 2 _ _ _ hr
  have y3 := cell_of_row _ _ 3 _ _ _ hr
  have y4 := cell_of_row _ _ 4 _ _ _ hr
  have y5 := cell_of_row _ _ 5 _ _ _ hr
  have y6 := cell_of_row _ _ 6 _ _ _ hr
  clear hr hini hbod
  refine Lib.hid ?_
  have hnum := fun k wx => num19_any k wx
  go_wp2_with (go_at_call 10; refine hck.mono ?_; rintro e w6 ⟨rfl, hg6⟩; refine Hid.out ?_)
  have v7 : w6.cell? ⟨V, 0, none⟩ = some (.int .i64 0) := hg6.cell ((cell_of_row W5 _ 0 _ _ _ HN.out.vrow).trans rfl) (by simp)
  have HG := Lib.hid (HN.out.gr.trans hg6)
  clear hck HN hg6 y0 y1 y2 y3 y4 y5 y6
  refine Lib.hid ?_
  go_upto_region 50 with fail
  go_quiet (first | (go_at_call 11; refine Calls.quiet_of_same (hnum _ _)))
  go_wp2
  go_ret
  exact ⟨rfl, ⟨HG.out.os, HG.out.tape, HG.out.output, HG.out.size, HG.out.block⟩⟩

set_option maxHeartbeats 4000000 in
set_option maxRecDepth 100000 in
theorem cw_1 (hC : CCheck) (hWr : CWrite) (w : World) : Calls Try.prog 5 #[.int .i64 1] w fun e w' => e = .returned (.bool true) ∧ w.grownBy w' none := by
  have hal := alive19_any hC hWr w
  have hsm := fun wx => small_rows wx
  go_enter Try.func5, Try.ntmps5
  go_wp2_with (go_at_call 8; refine hal.mono ?_; rintro e w1 ⟨rfl, hg1⟩; refine Hid.out ?_)
  clear hal
  refine Lib.hid ?_
  go_wp2_with (go_at_call 13; refine (hsm _).mono ?_; rintro e w3 ⟨rfl, hk, hb, hg3, hs3⟩; refine Hid.out ?_)
  rw [World.size_alloc] at hk hb hs3
  refine Lib.hid ?_
  clear hsm
  go_wp2_with (with_reducible refine hold_st ?_)
  refine Lib.hid ?_
  refine store_lastc #[.slice (some ⟨w1.heap.size + 1 + 1, 0, none⟩) 2 2, .int .i64 1, .int .i64 1, .int .i64 0, .int .i64 2, .slice none 0 0, .slice (some ⟨w1.heap.size + 1 + 1 + 1, 0, none⟩) 5 5] ?hp ?hv ?hi ?ho ?h1 ?hK
  case hp => rw [hs3]; rfl
  case hv => rfl
  case hi => kernel_rfl
  case ho => rfl
  case h1 => exact small_one _ _
  have HW := Lib.hid (Cw.start hg1 [.slice (some ⟨w1.heap.size + 1 + 1, 0, none⟩) 2 2, .int .i64 1, .int .i64 1, .int .i64 0, .int .i64 2, .slice none 0 0, .slice (some ⟨w1.heap.size + 1 + 1 + 1, 0, none⟩) 5 5] hk hb hg3 hs3)
  clear hk hb hg3 hs3
  obtain ⟨W4, hW4⟩ : ∃ W4, W4 = w3.alloc (.cells #[.slice (some ⟨w1.heap.size + 1 + 1, 0, none⟩) 2 2, .int .i64 1, .int .i64 1, .int .i64 0, .int .i64 2, .slice none 0 0, .slice (some ⟨w1.heap.size + 1 + 1 + 1, 0, none⟩) 5 5] 25) := ⟨_, rfl⟩
  rw [← hW4] at HW ⊢
  clear hW4
  clear hg1
  obtain ⟨V, hV⟩ : ∃ V, V = w1.heap.size := ⟨_, rfl⟩
  rw [← hV] at HW ⊢
  clear hV
  have k1 : W4.cell? ⟨V + 1 + 1 + 1 + 1, 1, none⟩ = some (.int .i64 1) := (cell_of_row W4 _ 1 _ _ _ HW.out.crow).trans rfl
  have z1 := Lib.frozen_of_heap HW.out.crow 1
  go_wp2_with (with_reducible refine hold_ld ?_)
  have HN := Lib.hid (HW.out.setC 1 (.int .i64 (-1)))
  obtain ⟨W5, hW5⟩ : ∃ W5, W5 = W4.setCell ⟨V + 1 + 1 + 1 + 1, 1, none⟩ (.int .i64 (-1)) := ⟨_, rfl⟩
  rw [← hW5] at HN ⊢
  have hini : NumsAt W5 none ({ Cd.small with ins := -1 }).init := NumsAt.nil _ _
  have hbod : InssAt W5 (some ⟨V + 1 + 1 + 1, 0, none⟩) ({ Cd.small with ins := -1 }).body := inss_row HN.out.brow
  clear hW5 HW k1 z1 
  have hck := hC W5 ({ Cd.small with ins := -1 }) (some ⟨V + 1 + 1, 0, none⟩) 2 none 0 (some ⟨V + 1 + 1 + 1, 0, none⟩) 5 ⟨nums_row HN.out.krow, hini, hbod⟩ (by unfold I64s Cd.small Cd.I64 maxLen; refine ⟨by decide, by decide, by decide, by decide, by decide, by decide, by decide, by decide, by decide, by decide⟩) (by exact Nat.le_refl _)
  rw [show Cd.check ({ Cd.small with ins := -1 }) = 40 by decide +kernel, show codeV ({ Cd.small with ins := -1 }) (some ⟨V + 1 + 1, 0, none⟩) 2 none 0 (some ⟨V + 1 + 1 + 1, 0, none⟩) 5 = #[.slice (some ⟨V + 1 + 1, 0, none⟩) 2 2, .int .i64 (-1), .int .i64 1, .int .i64 0, .int .i64 2, .slice none 0 0, .slice (some ⟨V + 1 + 1 + 1, 0, none⟩) 5 5] from rfl] at hck
  have hr := HN.out.crow
  have y0 := cell_of_row _ _ 0 _ _ _ hr
  have y1 := cell_of_row _ _ 1 _ _ _ hr
  have y2 := cell_of_row _ _ 2 _ _ _ hr
  have y3 := cell_of_row _ _ 3 _ _ _ hr
  have y4 := cell_of_row _ _ 4 _ _ _ hr
  have y5 := cell_of_row _ _ 5 _ _ _ hr
  have y6 := cell_of_row _ _ 6 _ _ _ hr
  clear hr hini hbod
  refine Lib.hid ?_
  have hnum := fun k wx => num19_any k wx
  go_wp2_with (go_at_call 10; refine hck.mono ?_; rintro e w6 ⟨rfl, hg6⟩; refine Hid.out ?_)
  have v7 : w6.cell? ⟨V, 1, none⟩ = some (.int .i64 40) := hg6.cell ((cell_of_row W5 _ 1 _ _ _ HN.out.vrow).trans rfl) (by simp)
  have HG := Lib.hid (HN.out.gr.trans hg6)
  clear hck HN hg6 y0 y1 y2 y3 y4 y5 y6
  refine Lib.hid ?_
  go_upto_region 50 with fail
  go_quiet (first | (go_at_call 11; refine Calls.quiet_of_same (hnum _ _)))
  go_wp2
  go_ret
  exact ⟨rfl, ⟨HG.out.os, HG.out.tape, HG.out.output, HG.out.size, HG.out.block⟩⟩

set_option maxHeartbeats 4000000 in
set_option maxRecDepth 100000 in
theorem cw_2 (hC : CCheck) (hWr : CWrite) (w : World) : Calls Try.prog 5 #[.int .i64 2] w fun e w' => e = .returned (.bool true) ∧ w.grownBy w' none := by
  have hal := alive19_any hC hWr w
  have hsm := fun wx => small_rows wx
  go_enter Try.func5, Try.ntmps5
  go_wp2_with (go_at_call 8; refine hal.mono ?_; rintro e w1 ⟨rfl, hg1⟩; refine Hid.out ?_)
  clear hal
  refine Lib.hid ?_
  go_wp2_with (go_at_call 13; refine (hsm _).mono ?_; rintro e w3 ⟨rfl, hk, hb, hg3, hs3⟩; refine Hid.out ?_)
  rw [World.size_alloc] at hk hb hs3
  refine Lib.hid ?_
  clear hsm
  go_wp2_with (with_reducible refine hold_st ?_)
  refine Lib.hid ?_
  refine store_lastc #[.slice (some ⟨w1.heap.size + 1 + 1, 0, none⟩) 2 2, .int .i64 1, .int .i64 1, .int .i64 0, .int .i64 2, .slice none 0 0, .slice (some ⟨w1.heap.size + 1 + 1 + 1, 0, none⟩) 5 5] ?hp ?hv ?hi ?ho ?h1 ?hK
  case hp => rw [hs3]; rfl
  case hv => rfl
  case hi => kernel_rfl
  case ho => rfl
  case h1 => exact small_one _ _
  have HW := Lib.hid (Cw.start hg1 [.slice (some ⟨w1.heap.size + 1 + 1, 0, none⟩) 2 2, .int .i64 1, .int .i64 1, .int .i64 0, .int .i64 2, .slice none 0 0, .slice (some ⟨w1.heap.size + 1 + 1 + 1, 0, none⟩) 5 5] hk hb hg3 hs3)
  clear hk hb hg3 hs3
  obtain ⟨W4, hW4⟩ : ∃ W4, W4 = w3.alloc (.cells #[.slice (some ⟨w1.heap.size + 1 + 1, 0, none⟩) 2 2, .int .i64 1, .int .i64 1, .int .i64 0, .int .i64 2, .slice none 0 0, .slice (some ⟨w1.heap.size + 1 + 1 + 1, 0, none⟩) 5 5] 25) := ⟨_, rfl⟩
  rw [← hW4] at HW ⊢
  clear hW4
  clear hg1
  obtain ⟨V, hV⟩ : ∃ V, V = w1.heap.size := ⟨_, rfl⟩
  rw [← hV] at HW ⊢
  clear hV
  have k1 : W4.cell? ⟨V + 1 + 1 + 1 + 1, 2, none⟩ = some (.int .i64 1) := (cell_of_row W4 _ 2 _ _ _ HW.out.crow).trans rfl
  have z1 := Lib.frozen_of_heap HW.out.crow 2
  go_wp2_with (with_reducible refine hold_ld ?_)
  have HN := Lib.hid (HW.out.setC 2 (.int .i64 3))
  obtain ⟨W5, hW5⟩ : ∃ W5, W5 = W4.setCell ⟨V + 1 + 1 + 1 + 1, 2, none⟩ (.int .i64 3) := ⟨_, rfl⟩
  rw [← hW5] at HN ⊢
  have hini : NumsAt W5 none ({ Cd.small with outs := 3 }).init := NumsAt.nil _ _
  have hbod : InssAt W5 (some ⟨V + 1 + 1 + 1, 0, none⟩) ({ Cd.small with outs := 3 }).body := inss_row HN.out.brow
  clear hW5 HW k1 z1 
  have hck := hC W5 ({ Cd.small with outs := 3 }) (some ⟨V + 1 + 1, 0, none⟩) 2 none 0 (some ⟨V + 1 + 1 + 1, 0, none⟩) 5 ⟨nums_row HN.out.krow, hini, hbod⟩ (by unfold I64s Cd.small Cd.I64 maxLen; refine ⟨by decide, by decide, by decide, by decide, by decide, by decide, by decide, by decide, by decide, by decide⟩) (by exact Nat.le_refl _)
  rw [show Cd.check ({ Cd.small with outs := 3 }) = 40 by decide +kernel, show codeV ({ Cd.small with outs := 3 }) (some ⟨V + 1 + 1, 0, none⟩) 2 none 0 (some ⟨V + 1 + 1 + 1, 0, none⟩) 5 = #[.slice (some ⟨V + 1 + 1, 0, none⟩) 2 2, .int .i64 1, .int .i64 3, .int .i64 0, .int .i64 2, .slice none 0 0, .slice (some ⟨V + 1 + 1 + 1, 0, none⟩) 5 5] from rfl] at hck
  have hr := HN.out.crow
  have y0 := cell_of_row _ _ 0 _ _ _ hr
  have y1 := cell_of_row _ _ 1 _ _ _ hr
  have y2 := cell_of_row _ _ 2 _ _ _ hr
  have y3 := cell_of_row _ _ 3 _ _ _ hr
  have y4 := cell_of_row _ _ 4 _ _ _ hr
  have y5 := cell_of_row _ _ 5 _ _ _ hr
  have y6 := cell_of_row _ _ 6 _ _ _ hr
  clear hr hini hbod
  refine Lib.hid ?_
  have hnum := fun k wx => num19_any k wx
  go_wp2_with (go_at_call 10; refine hck.mono ?_; rintro e w6 ⟨rfl, hg6⟩; refine Hid.out ?_)
  have v7 : w6.cell? ⟨V, 2, none⟩ = some (.int .i64 40) := hg6.cell ((cell_of_row W5 _ 2 _ _ _ HN.out.vrow).trans rfl) (by simp)
  have HG := Lib.hid (HN.out.gr.trans hg6)
  clear hck HN hg6 y0 y1 y2 y3 y4 y5 y6
  refine Lib.hid ?_
  go_upto_region 50 with fail
  go_quiet (first | (go_at_call 11; refine Calls.quiet_of_same (hnum _ _)))
  go_wp2
  go_ret
  exact ⟨rfl, ⟨HG.out.os, HG.out.tape, HG.out.output, HG.out.size, HG.out.block⟩⟩

set_option maxHeartbeats 4000000 in
set_option maxRecDepth 100000 in
theorem cw_3 (hC : CCheck) (hWr : CWrite) (w : World) : Calls Try.prog 5 #[.int .i64 3] w fun e w' => e = .returned (.bool true) ∧ w.grownBy w' none := by
  have hal := alive19_any hC hWr w
  have hsm := fun wx => small_rows wx
  go_enter Try.func5, Try.ntmps5
  go_wp2_with (go_at_call 8; refine hal.mono ?_; rintro e w1 ⟨rfl, hg1⟩; refine Hid.out ?_)
  clear hal
  refine Lib.hid ?_
  go_wp2_with (go_at_call 13; refine (hsm _).mono ?_; rintro e w3 ⟨rfl, hk, hb, hg3, hs3⟩; refine Hid.out ?_)
  rw [World.size_alloc] at hk hb hs3
  refine Lib.hid ?_
  clear hsm
  go_wp2_with (with_reducible refine hold_st ?_)
  refine Lib.hid ?_
  refine store_lastc #[.slice (some ⟨w1.heap.size + 1 + 1, 0, none⟩) 2 2, .int .i64 1, .int .i64 1, .int .i64 0, .int .i64 2, .slice none 0 0, .slice (some ⟨w1.heap.size + 1 + 1 + 1, 0, none⟩) 5 5] ?hp ?hv ?hi ?ho ?h1 ?hK
  case hp => rw [hs3]; rfl
  case hv => rfl
  case hi => kernel_rfl
  case ho => rfl
  case h1 => exact small_one _ _
  have HW := Lib.hid (Cw.start hg1 [.slice (some ⟨w1.heap.size + 1 + 1, 0, none⟩) 2 2, .int .i64 1, .int .i64 1, .int .i64 0, .int .i64 2, .slice none 0 0, .slice (some ⟨w1.heap.size + 1 + 1 + 1, 0, none⟩) 5 5] hk hb hg3 hs3)
  clear hk hb hg3 hs3
  obtain ⟨W4, hW4⟩ : ∃ W4, W4 = w3.alloc (.cells #[.slice (some ⟨w1.heap.size + 1 + 1, 0, none⟩) 2 2, .int .i64 1, .int .i64 1, .int .i64 0, .int .i64 2, .slice none 0 0, .slice (some ⟨w1.heap.size + 1 + 1 + 1, 0, none⟩) 5 5] 25) := ⟨_, rfl⟩
  rw [← hW4] at HW ⊢
  clear hW4
  clear hg1
  obtain ⟨V, hV⟩ : ∃ V, V = w1.heap.size := ⟨_, rfl⟩
  rw [← hV] at HW ⊢
  clear hV
  have k1 : W4.cell? ⟨V + 1 + 1 + 1 + 1, 0, none⟩ = some (.slice (some ⟨V + 1 + 1, 0, none⟩) 2 2) := (cell_of_row W4 _ 0 _ _ _ HW.out.crow).trans rfl
  have z1 := Lib.frozen_of_heap HW.out.crow 0
  have k2 : W4.cell? ⟨V + 1 + 1, 0, none⟩ = some (.int .i64 2) := (cell_of_row W4 _ 0 _ _ _ HW.out.krow).trans rfl
  have z2 := Lib.frozen_of_heap HW.out.krow 0
  go_wp2_with (with_reducible refine hold_ld ?_)
  have HN := Lib.hid (HW.out.setK 0 0)
  obtain ⟨W5, hW5⟩ : ∃ W5, W5 = W4.setCell ⟨V + 1 + 1, 0, none⟩ (.int .i64 0) := ⟨_, rfl⟩
  rw [← hW5] at HN ⊢
  have hini : NumsAt W5 none ({ Cd.small with kinds := [0, 2] }).init := NumsAt.nil _ _
  have hbod : InssAt W5 (some ⟨V + 1 + 1 + 1, 0, none⟩) ({ Cd.small with kinds := [0, 2] }).body := inss_row HN.out.brow
  clear hW5 HW k1 z1 k2 z2
  have hck := hC W5 ({ Cd.small with kinds := [0, 2] }) (some ⟨V + 1 + 1, 0, none⟩) 2 none 0 (some ⟨V + 1 + 1 + 1, 0, none⟩) 5 ⟨nums_row HN.out.krow, hini, hbod⟩ (by unfold I64s Cd.small Cd.I64 maxLen; refine ⟨by decide, by decide, by decide, by decide, by decide, by decide, by decide, by decide, by decide, by decide⟩) (by exact Nat.le_refl _)
  rw [show Cd.check ({ Cd.small with kinds := [0, 2] }) = 40 by decide +kernel, show codeV ({ Cd.small with kinds := [0, 2] }) (some ⟨V + 1 + 1, 0, none⟩) 2 none 0 (some ⟨V + 1 + 1 + 1, 0, none⟩) 5 = #[.slice (some ⟨V + 1 + 1, 0, none⟩) 2 2, .int .i64 1, .int .i64 1, .int .i64 0, .int .i64 2, .slice none 0 0, .slice (some ⟨V + 1 + 1 + 1, 0, none⟩) 5 5] from rfl] at hck
  have hr := HN.out.crow
  have y0 := cell_of_row _ _ 0 _ _ _ hr
  have y1 := cell_of_row _ _ 1 _ _ _ hr
  have y2 := cell_of_row _ _ 2 _ _ _ hr
  have y3 := cell_of_row _ _ 3 _ _ _ hr
  have y4 := cell_of_row _ _ 4 _ _ _ hr
  have y5 := cell_of_row _ _ 5 _ _ _ hr
  have y6 := cell_of_row _ _ 6 _ _ _ hr
  clear hr hini hbod
  refine Lib.hid ?_
  have hnum := fun k wx => num19_any k wx
  go_wp2_with (go_at_call 10; refine hck.mono ?_; rintro e w6 ⟨rfl, hg6⟩; refine Hid.out ?_)
  have v7 : w6.cell? ⟨V, 3, none⟩ = some (.int .i64 40) := hg6.cell ((cell_of_row W5 _ 3 _ _ _ HN.out.vrow).trans rfl) (by simp)
  have HG := Lib.hid (HN.out.gr.trans hg6)
  clear hck HN hg6 y0 y1 y2 y3 y4 y5 y6
  refine Lib.hid ?_
  go_upto_region 50 with fail
  go_quiet (first | (go_at_call 11; refine Calls.quiet_of_same (hnum _ _)))
  go_wp2
  go_ret
  exact ⟨rfl, ⟨HG.out.os, HG.out.tape, HG.out.output, HG.out.size, HG.out.block⟩⟩

set_option maxHeartbeats 4000000 in
set_option maxRecDepth 100000 in
theorem cw_5 (hC : CCheck) (hWr : CWrite) (w : World) : Calls Try.prog 5 #[.int .i64 5] w fun e w' => e = .returned (.bool true) ∧ w.grownBy w' none := by
  have hal := alive19_any hC hWr w
  have hsm := fun wx => small_rows wx
  go_enter Try.func5, Try.ntmps5
  go_wp2_with (go_at_call 8; refine hal.mono ?_; rintro e w1 ⟨rfl, hg1⟩; refine Hid.out ?_)
  clear hal
  refine Lib.hid ?_
  go_wp2_with (go_at_call 13; refine (hsm _).mono ?_; rintro e w3 ⟨rfl, hk, hb, hg3, hs3⟩; refine Hid.out ?_)
  rw [World.size_alloc] at hk hb hs3
  refine Lib.hid ?_
  clear hsm
  go_wp2_with (with_reducible refine hold_st ?_)
  refine Lib.hid ?_
  refine store_lastc #[.slice (some ⟨w1.heap.size + 1 + 1, 0, none⟩) 2 2, .int .i64 1, .int .i64 1, .int .i64 0, .int .i64 2, .slice none 0 0, .slice (some ⟨w1.heap.size + 1 + 1 + 1, 0, none⟩) 5 5] ?hp ?hv ?hi ?ho ?h1 ?hK
  case hp => rw [hs3]; rfl
  case hv => rfl
  case hi => kernel_rfl
  case ho => rfl
  case h1 => exact small_one _ _
  have HW := Lib.hid (Cw.start hg1 [.slice (some ⟨w1.heap.size + 1 + 1, 0, none⟩) 2 2, .int .i64 1, .int .i64 1, .int .i64 0, .int .i64 2, .slice none 0 0, .slice (some ⟨w1.heap.size + 1 + 1 + 1, 0, none⟩) 5 5] hk hb hg3 hs3)
  clear hk hb hg3 hs3
  obtain ⟨W4, hW4⟩ : ∃ W4, W4 = w3.alloc (.cells #[.slice (some ⟨w1.heap.size + 1 + 1, 0, none⟩) 2 2, .int .i64 1, .int .i64 1, .int .i64 0, .int .i64 2, .slice none 0 0, .slice (some ⟨w1.heap.size + 1 + 1 + 1, 0, none⟩) 5 5] 25) := ⟨_, rfl⟩
  rw [← hW4] at HW ⊢
  clear hW4
  clear hg1
  obtain ⟨V, hV⟩ : ∃ V, V = w1.heap.size := ⟨_, rfl⟩
  rw [← hV] at HW ⊢
  clear hV
  have k1 : W4.cell? ⟨V + 1 + 1 + 1 + 1, 6, none⟩ = some (.slice (some ⟨V + 1 + 1 + 1, 0, none⟩) 5 5) := (cell_of_row W4 _ 6 _ _ _ HW.out.crow).trans rfl
  have z1 := Lib.frozen_of_heap HW.out.crow 6
  go_wp2_with (with_reducible refine hold_ld ?_)
  have HN := Lib.hid (HW.out.setC 6 (.slice none 0 0))
  obtain ⟨W5, hW5⟩ : ∃ W5, W5 = W4.setCell ⟨V + 1 + 1 + 1 + 1, 6, none⟩ (.slice none 0 0) := ⟨_, rfl⟩
  rw [← hW5] at HN ⊢
  have hini : NumsAt W5 none ({ Cd.small with body := [] }).init := NumsAt.nil _ _
  have hbod : InssAt W5 none ({ Cd.small with body := [] }).body := fun i x hi => by simp at hi
  clear hW5 HW k1 z1 
  have hck := hC W5 ({ Cd.small with body := [] }) (some ⟨V + 1 + 1, 0, none⟩) 2 none 0 none 0 ⟨nums_row HN.out.krow, hini, hbod⟩ (by unfold I64s Cd.small Cd.I64 maxLen; refine ⟨by decide, by decide, by decide, by decide, by decide, by decide, by decide, by decide, by decide, by decide⟩) (by exact Nat.le_refl _)
  rw [show Cd.check ({ Cd.small with body := [] }) = 40 by decide +kernel, show codeV ({ Cd.small with body := [] }) (some ⟨V + 1 + 1, 0, none⟩) 2 none 0 none 0 = #[.slice (some ⟨V + 1 + 1, 0, none⟩) 2 2, .int .i64 1, .int .i64 1, .int .i64 0, .int .i64 2, .slice none 0 0, .slice none 0 0] from rfl] at hck
  have hr := HN.out.crow
  have y0 := cell_of_row _ _ 0 _ _ _ hr
  have y1 := cell_of_row _ _ 1 _ _ _ hr
  have y2 := cell_of_row _ _ 2 _ _ _ hr
  have y3 := cell_of_row _ _ 3 _ _ _ hr
  have y4 := cell_of_row _ _ 4 _ _ _ hr
  have y5 := cell_of_row _ _ 5 _ _ _ hr
  have y6 := cell_of_row _ _ 6 _ _ _ hr
  clear hr hini hbod
  refine Lib.hid ?_
  have hnum := fun k wx => num19_any k wx
  go_wp2_with (go_at_call 10; refine hck.mono ?_; rintro e w6 ⟨rfl, hg6⟩; refine Hid.out ?_)
  have v7 : w6.cell? ⟨V, 5, none⟩ = some (.int .i64 40) := hg6.cell ((cell_of_row W5 _ 5 _ _ _ HN.out.vrow).trans rfl) (by simp)
  have HG := Lib.hid (HN.out.gr.trans hg6)
  clear hck HN hg6 y0 y1 y2 y3 y4 y5 y6
  refine Lib.hid ?_
  go_upto_region 50 with fail
  go_quiet (first | (go_at_call 11; refine Calls.quiet_of_same (hnum _ _)))
  go_wp2
  go_ret
  exact ⟨rfl, ⟨HG.out.os, HG.out.tape, HG.out.output, HG.out.size, HG.out.block⟩⟩

end Go.Proofs.Ytcjainfcndlllaa
