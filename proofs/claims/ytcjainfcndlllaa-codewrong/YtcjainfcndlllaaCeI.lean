/- Stage 19: CodeWrong, some of its cases (written by mkceh.py). -/
import Derived.Test.YtcjainfcndlllaaCeG
namespace Go.Proofs.Ytcjainfcndlllaa
open Go.RowKit Go.Maps Go.WideMaps

set_option maxHeartbeats 4000000 in
set_option maxRecDepth 100000 in
theorem cw_4 (hC : CCheck) (hWr : CWrite) (w : World) : Calls Try.prog 5 #[.int .i64 4] w fun e w' => e = .returned (.bool true) ∧ w.grownBy w' none := by
  have hal := alive19_any hC hWr w
  have hsm := fun wx => small_rows wx
  go_enter Try.func5, Try.ntmps5
  go_wp2_with (go_at_call 8; refine hal.mono ?_; rintro e w1 ⟨rfl, hg1⟩; refine Hid.out ?_)
  clear hal
  refine Lib.hid ?_
  go_wp2_with (go_at_call 13; refine (hsm _).mono ?_; rintro e w3 ⟨rfl, hk, hb, hg3, hs3⟩; refine Hid.out ?_)
  rw [World.size_alloc] at hk hb hs3
  refine Lib.hid ?_
  clear hsm
  go_wp2_with (with_reducible refine hold_st ?_)
  refine Lib.hid ?_
  refine store_lastc #[.slice (some ⟨w1.heap.size + 1 + 1, 0, none⟩) 2 2, .int .i64 1, .int .i64 1, .int .i64 0, .int .i64 2, .slice none 0 0, .slice (some ⟨w1.heap.size + 1 + 1 + 1, 0, none⟩) 5 5] ?hp ?hv ?hi ?ho ?h1 ?hK
  case hp => rw [hs3]; rfl
  case hv => rfl
  case hi => kernel_rfl
  case ho => rfl
  case h1 => exact small_one _ _
  have HW := Lib.hid (Cw.start hg1 [.slice (some ⟨w1.heap.size + 1 + 1, 0, none⟩) 2 2, .int .i64 1, .int .i64 1, .int .i64 0, .int .i64 2, .slice none 0 0, .slice (some ⟨w1.heap.size + 1 + 1 + 1, 0, none⟩) 5 5] hk hb hg3 hs3)
  clear hk hb hg3 hs3
  obtain ⟨W4, hW4⟩ : ∃ W4, W4 = w3.alloc (.cells #[.slice (some ⟨w1.heap.size + 1 + 1, 0, none⟩) 2 2, .int .i64 1, .int .i64 1, .int .i64 0, .int .i64 2, .slice none 0 0, .slice (some ⟨w1.heap.size + 1 + 1 + 1, 0, none⟩) 5 5] 25) := ⟨_, rfl⟩
  rw [← hW4] at HW ⊢
  clear hW4
  clear hg1
  obtain ⟨V, hV⟩ : ∃ V, V = w1.heap.size := ⟨_, rfl⟩
  rw [← hV] at HW ⊢
  clear hV
  have HA := HW.out.alloc (.cells #[.int .i64 1] 3)
  have k1 : (W4.alloc (.cells #[.int .i64 1] 3)).cell? ⟨V + 1 + 1 + 1 + 1, 5, none⟩ = some (.slice none 0 0) := (cell_of_row _ _ 5 _ _ _ HA.crow).trans rfl
  have z1 := Lib.frozen_of_heap HA.crow 5
  go_wp2_with (with_reducible refine hold_ld ?_)
  have hlt : V + 1 + 1 + 1 + 1 < W4.heap.size := (Array.getElem?_eq_some_iff.1 HW.out.crow).1
  have hnew := set_other (heap_alloc_new W4 (.cells #[.int .i64 1] 3)) (show W4.heap.size ≠ V + 1 + 1 + 1 + 1 by omega) 5 (.slice (some ⟨W4.heap.size, 0, none⟩) 1 1)
  have HN := Lib.hid (HA.setC 5 (.slice (some ⟨W4.heap.size, 0, none⟩) 1 1))
  obtain ⟨W5, hW5⟩ : ∃ W5, W5 = (W4.alloc (.cells #[.int .i64 1] 3)).setCell ⟨V + 1 + 1 + 1 + 1, 5, none⟩ (.slice (some ⟨W4.heap.size, 0, none⟩) 1 1) := ⟨_, rfl⟩
  rw [← hW5] at HN hnew ⊢
  obtain ⟨A4, hA4⟩ : ∃ A4, A4 = W4.heap.size := ⟨_, rfl⟩
  rw [← hA4] at HN hnew ⊢
  have hini : NumsAt W5 (some ⟨A4, 0, none⟩) ({ Cd.small with init := [1] }).init := nums_row (l := [1]) hnew
  have hbod : InssAt W5 (some ⟨V + 1 + 1 + 1, 0, none⟩) ({ Cd.small with init := [1] }).body := inss_row HN.out.brow
  clear hW5 hA4 HW k1 z1 hnew HA hlt
  have hck := hC W5 ({ Cd.small with init := [1] }) (some ⟨V + 1 + 1, 0, none⟩) 2 (some ⟨A4, 0, none⟩) 1 (some ⟨V + 1 + 1 + 1, 0, none⟩) 5 ⟨nums_row HN.out.krow, hini, hbod⟩ (by unfold I64s Cd.small Cd.I64 maxLen; refine ⟨by decide, by decide, by decide, by decide, by decide, by decide, by decide, by decide, by decide, by decide⟩) (by exact Nat.le_refl _)
  rw [show Cd.check ({ Cd.small with init := [1] }) = 40 by decide +kernel, show codeV ({ Cd.small with init := [1] }) (some ⟨V + 1 + 1, 0, none⟩) 2 (some ⟨A4, 0, none⟩) 1 (some ⟨V + 1 + 1 + 1, 0, none⟩) 5 = #[.slice (some ⟨V + 1 + 1, 0, none⟩) 2 2, .int .i64 1, .int .i64 1, .int .i64 0, .int .i64 2, .slice (some ⟨A4, 0, none⟩) 1 1, .slice (some ⟨V + 1 + 1 + 1, 0, none⟩) 5 5] from rfl] at hck
  have hr := HN.out.crow
  have y0 := cell_of_row _ _ 0 _ _ _ hr
  have y1 := cell_of_row _ _ 1 _ _ _ hr
  have y2 := cell_of_row _ _ 2 _ _ _ hr
  have y3 := cell_of_row _ _ 3 _ _ _ hr
  have y4 := cell_of_row _ _ 4 _ _ _ hr
  have y5 := cell_of_row _ _ 5 _ _ _ hr
  have y6 := cell_of_row _ _ 6 _ _ _ hr
  clear hr hini hbod
  refine Lib.hid ?_
  have hnum := fun k wx => num19_any k wx
  go_wp2_with (go_at_call 10; refine hck.mono ?_; rintro e w6 ⟨rfl, hg6⟩; refine Hid.out ?_)
  have v7 : w6.cell? ⟨V, 4, none⟩ = some (.int .i64 40) := hg6.cell ((cell_of_row W5 _ 4 _ _ _ HN.out.vrow).trans rfl) (by simp)
  have HG := Lib.hid (HN.out.gr.trans hg6)
  clear hck HN hg6 y0 y1 y2 y3 y4 y5 y6
  refine Lib.hid ?_
  go_upto_region 50 with fail
  go_quiet (first | (go_at_call 11; refine Calls.quiet_of_same (hnum _ _)))
  go_wp2
  go_ret
  exact ⟨rfl, ⟨HG.out.os, HG.out.tape, HG.out.output, HG.out.size, HG.out.block⟩⟩

set_option maxHeartbeats 4000000 in
set_option maxRecDepth 100000 in
theorem cw_6 (hC : CCheck) (hWr : CWrite) (w : World) : Calls Try.prog 5 #[.int .i64 6] w fun e w' => e = .returned (.bool true) ∧ w.grownBy w' none := by
  have hal := alive19_any hC hWr w
  have hsm := fun wx => small_rows wx
  go_enter Try.func5, Try.ntmps5
  go_wp2_with (go_at_call 8; refine hal.mono ?_; rintro e w1 ⟨rfl, hg1⟩; refine Hid.out ?_)
  clear hal
  refine Lib.hid ?_
  go_wp2_with (go_at_call 13; refine (hsm _).mono ?_; rintro e w3 ⟨rfl, hk, hb, hg3, hs3⟩; refine Hid.out ?_)
  rw [World.size_alloc] at hk hb hs3
  refine Lib.hid ?_
  clear hsm
  go_wp2_with (with_reducible refine hold_st ?_)
  refine Lib.hid ?_
  refine store_lastc #[.slice (some ⟨w1.heap.size + 1 + 1, 0, none⟩) 2 2, .int .i64 1, .int .i64 1, .int .i64 0, .int .i64 2, .slice none 0 0, .slice (some ⟨w1.heap.size + 1 + 1 + 1, 0, none⟩) 5 5] ?hp ?hv ?hi ?ho ?h1 ?hK
  case hp => rw [hs3]; rfl
  case hv => rfl
  case hi => kernel_rfl
  case ho => rfl
  case h1 => exact small_one _ _
  have HW := Lib.hid (Cw.start hg1 [.slice (some ⟨w1.heap.size + 1 + 1, 0, none⟩) 2 2, .int .i64 1, .int .i64 1, .int .i64 0, .int .i64 2, .slice none 0 0, .slice (some ⟨w1.heap.size + 1 + 1 + 1, 0, none⟩) 5 5] hk hb hg3 hs3)
  clear hk hb hg3 hs3
  obtain ⟨W4, hW4⟩ : ∃ W4, W4 = w3.alloc (.cells #[.slice (some ⟨w1.heap.size + 1 + 1, 0, none⟩) 2 2, .int .i64 1, .int .i64 1, .int .i64 0, .int .i64 2, .slice none 0 0, .slice (some ⟨w1.heap.size + 1 + 1 + 1, 0, none⟩) 5 5] 25) := ⟨_, rfl⟩
  rw [← hW4] at HW ⊢
  clear hW4
  clear hg1
  obtain ⟨V, hV⟩ : ∃ V, V = w1.heap.size := ⟨_, rfl⟩
  rw [← hV] at HW ⊢
  clear hV
  have k1 : W4.cell? ⟨V + 1 + 1 + 1 + 1, 6, none⟩ = some (.slice (some ⟨V + 1 + 1 + 1, 0, none⟩) 5 5) := (cell_of_row W4 _ 6 _ _ _ HW.out.crow).trans rfl
  have z1 := Lib.frozen_of_heap HW.out.crow 6
  go_wp2_with (with_reducible refine hold_ld ?_)
  have HN := Lib.hid (HW.out.setC 6 (.slice (some ⟨V + 1 + 1 + 1, 0, none⟩) 4 5))
  obtain ⟨W5, hW5⟩ : ∃ W5, W5 = W4.setCell ⟨V + 1 + 1 + 1 + 1, 6, none⟩ (.slice (some ⟨V + 1 + 1 + 1, 0, none⟩) 4 5) := ⟨_, rfl⟩
  rw [← hW5] at HN ⊢
  have hini : NumsAt W5 none ({ Cd.small with body := Cd.small.body.take 4 }).init := NumsAt.nil _ _
  have hbod : InssAt W5 (some ⟨V + 1 + 1 + 1, 0, none⟩) ({ Cd.small with body := Cd.small.body.take 4 }).body := (inss_row HN.out.brow).take 4
  clear hW5 HW k1 z1 
  have hck := hC W5 ({ Cd.small with body := Cd.small.body.take 4 }) (some ⟨V + 1 + 1, 0, none⟩) 2 none 0 (some ⟨V + 1 + 1 + 1, 0, none⟩) 5 ⟨nums_row HN.out.krow, hini, hbod⟩ (by unfold I64s Cd.small Cd.I64 maxLen; refine ⟨by decide, by decide, by decide, by decide, by decide, by decide, by decide, by decide, by decide, by decide⟩) (by exact Nat.le_refl _)
  rw [show Cd.check ({ Cd.small with body := Cd.small.body.take 4 }) = 40 by decide +kernel, show codeV ({ Cd.small with body := Cd.small.body.take 4 }) (some ⟨V + 1 + 1, 0, none⟩) 2 none 0 (some ⟨V + 1 + 1 + 1, 0, none⟩) 5 = #[.slice (some ⟨V + 1 + 1, 0, none⟩) 2 2, .int .i64 1, .int .i64 1, .int .i64 0, .int .i64 2, .slice none 0 0, .slice (some ⟨V + 1 + 1 + 1, 0, none⟩) 4 5] from rfl] at hck
  have hr := HN.out.crow
  have y0 := cell_of_row _ _ 0 _ _ _ hr
  have y1 := cell_of_row _ _ 1 _ _ _ hr
  have y2 := cell_of_row _ _ 2 _ _ _ hr
  have y3 := cell_of_row _ _ 3 _ _ _ hr
  have y4 := cell_of_row _ _ 4 _ _ _ hr
  have y5 := cell_of_row _ _ 5 _ _ _ hr
  have y6 := cell_of_row _ _ 6 _ _ _ hr
  clear hr hini hbod
  refine Lib.hid ?_
  have hnum := fun k wx => num19_any k wx
  go_wp2_with (go_at_call 10; refine hck.mono ?_; rintro e w6 ⟨rfl, hg6⟩; refine Hid.out ?_)
  have v7 : w6.cell? ⟨V, 6, none⟩ = some (.int .i64 40) := hg6.cell ((cell_of_row W5 _ 6 _ _ _ HN.out.vrow).trans rfl) (by simp)
  have HG := Lib.hid (HN.out.gr.trans hg6)
  clear hck HN hg6 y0 y1 y2 y3 y4 y5 y6
  refine Lib.hid ?_
  go_upto_region 50 with fail
  go_quiet (first | (go_at_call 11; refine Calls.quiet_of_same (hnum _ _)))
  go_wp2
  go_ret
  exact ⟨rfl, ⟨HG.out.os, HG.out.tape, HG.out.output, HG.out.size, HG.out.block⟩⟩

set_option maxHeartbeats 4000000 in
set_option maxRecDepth 100000 in
theorem cw_7 (hC : CCheck) (hWr : CWrite) (w : World) : Calls Try.prog 5 #[.int .i64 7] w fun e w' => e = .returned (.bool true) ∧ w.grownBy w' none := by
  have hal := alive19_any hC hWr w
  have hsm := fun wx => small_rows wx
  go_enter Try.func5, Try.ntmps5
  go_wp2_with (go_at_call 8; refine hal.mono ?_; rintro e w1 ⟨rfl, hg1⟩; refine Hid.out ?_)
  clear hal
  refine Lib.hid ?_
  go_wp2_with (go_at_call 13; refine (hsm _).mono ?_; rintro e w3 ⟨rfl, hk, hb, hg3, hs3⟩; refine Hid.out ?_)
  rw [World.size_alloc] at hk hb hs3
  refine Lib.hid ?_
  clear hsm
  go_wp2_with (with_reducible refine hold_st ?_)
  refine Lib.hid ?_
  refine store_lastc #[.slice (some ⟨w1.heap.size + 1 + 1, 0, none⟩) 2 2, .int .i64 1, .int .i64 1, .int .i64 0, .int .i64 2, .slice none 0 0, .slice (some ⟨w1.heap.size + 1 + 1 + 1, 0, none⟩) 5 5] ?hp ?hv ?hi ?ho ?h1 ?hK
  case hp => rw [hs3]; rfl
  case hv => rfl
  case hi => kernel_rfl
  case ho => rfl
  case h1 => exact small_one _ _
  have HW := Lib.hid (Cw.start hg1 [.slice (some ⟨w1.heap.size + 1 + 1, 0, none⟩) 2 2, .int .i64 1, .int .i64 1, .int .i64 0, .int .i64 2, .slice none 0 0, .slice (some ⟨w1.heap.size + 1 + 1 + 1, 0, none⟩) 5 5] hk hb hg3 hs3)
  clear hk hb hg3 hs3
  obtain ⟨W4, hW4⟩ : ∃ W4, W4 = w3.alloc (.cells #[.slice (some ⟨w1.heap.size + 1 + 1, 0, none⟩) 2 2, .int .i64 1, .int .i64 1, .int .i64 0, .int .i64 2, .slice none 0 0, .slice (some ⟨w1.heap.size + 1 + 1 + 1, 0, none⟩) 5 5] 25) := ⟨_, rfl⟩
  rw [← hW4] at HW ⊢
  clear hW4
  clear hg1
  obtain ⟨V, hV⟩ : ∃ V, V = w1.heap.size := ⟨_, rfl⟩
  rw [← hV] at HW ⊢
  clear hV
  have k1 : W4.cell? ⟨V + 1 + 1 + 1 + 1, 6, none⟩ = some (.slice (some ⟨V + 1 + 1 + 1, 0, none⟩) 5 5) := (cell_of_row W4 _ 6 _ _ _ HW.out.crow).trans rfl
  have z1 := Lib.frozen_of_heap HW.out.crow 6
  have k2 : W4.cell? ⟨V + 1 + 1 + 1, 3, none⟩ = some (.int .i64 1) := (cell_of_row W4 _ 3 _ _ _ HW.out.brow).trans rfl
  have z2 := Lib.frozen_of_heap HW.out.brow 3
  go_wp2_with (with_reducible refine hold_ld ?_)
  have HN := Lib.hid (HW.out.setB (bs' := Cd.small.body.set 1 ⟨10, 1, 2⟩) 3 (.int .i64 10) rfl)
  obtain ⟨W5, hW5⟩ : ∃ W5, W5 = W4.setCell ⟨V + 1 + 1 + 1, 3, none⟩ (.int .i64 10) := ⟨_, rfl⟩
  rw [← hW5] at HN ⊢
  have hini : NumsAt W5 none ({ Cd.small with body := Cd.small.body.set 1 ⟨10, 1, 2⟩ }).init := NumsAt.nil _ _
  have hbod : InssAt W5 (some ⟨V + 1 + 1 + 1, 0, none⟩) ({ Cd.small with body := Cd.small.body.set 1 ⟨10, 1, 2⟩ }).body := inss_row HN.out.brow
  clear hW5 HW k1 z1 k2 z2
  have hck := hC W5 ({ Cd.small with body := Cd.small.body.set 1 ⟨10, 1, 2⟩ }) (some ⟨V + 1 + 1, 0, none⟩) 2 none 0 (some ⟨V + 1 + 1 + 1, 0, none⟩) 5 ⟨nums_row HN.out.krow, hini, hbod⟩ (by unfold I64s Cd.small Cd.I64 maxLen; refine ⟨by decide, by decide, by decide, by decide, by decide, by decide, by decide, by decide, by decide, by decide⟩) (by exact Nat.le_refl _)
  rw [show Cd.check ({ Cd.small with body := Cd.small.body.set 1 ⟨10, 1, 2⟩ }) = 40 by decide +kernel, show codeV ({ Cd.small with body := Cd.small.body.set 1 ⟨10, 1, 2⟩ }) (some ⟨V + 1 + 1, 0, none⟩) 2 none 0 (some ⟨V + 1 + 1 + 1, 0, none⟩) 5 = #[.slice (some ⟨V + 1 + 1, 0, none⟩) 2 2, .int .i64 1, .int .i64 1, .int .i64 0, .int .i64 2, .slice none 0 0, .slice (some ⟨V + 1 + 1 + 1, 0, none⟩) 5 5] from rfl] at hck
  have hr := HN.out.crow
  have y0 := cell_of_row _ _ 0 _ _ _ hr
  have y1 := cell_of_row _ _ 1 _ _ _ hr
  have y2 := cell_of_row _ _ 2 _ _ _ hr
  have y3 := cell_of_row _ _ 3 _ _ _ hr
  have y4 := cell_of_row _ _ 4 _ _ _ hr
  have y5 := cell_of_row _ _ 5 _ _ _ hr
  have y6 := cell_of_row _ _ 6 _ _ _ hr
  clear hr hini hbod
  refine Lib.hid ?_
  have hnum := fun k wx => num19_any k wx
  go_wp2_with (go_at_call 10; refine hck.mono ?_; rintro e w6 ⟨rfl, hg6⟩; refine Hid.out ?_)
  have v7 : w6.cell? ⟨V, 7, none⟩ = some (.int .i64 40) := hg6.cell ((cell_of_row W5 _ 7 _ _ _ HN.out.vrow).trans rfl) (by simp)
  have HG := Lib.hid (HN.out.gr.trans hg6)
  clear hck HN hg6 y0 y1 y2 y3 y4 y5 y6
  refine Lib.hid ?_
  go_upto_region 50 with fail
  go_quiet (first | (go_at_call 11; refine Calls.quiet_of_same (hnum _ _)))
  go_wp2
  go_ret
  exact ⟨rfl, ⟨HG.out.os, HG.out.tape, HG.out.output, HG.out.size, HG.out.block⟩⟩

set_option maxHeartbeats 4000000 in
set_option maxRecDepth 100000 in
theorem cw_8 (hC : CCheck) (hWr : CWrite) (w : World) : Calls Try.prog 5 #[.int .i64 8] w fun e w' => e = .returned (.bool true) ∧ w.grownBy w' none := by
  have hal := alive19_any hC hWr w
  have hsm := fun wx => small_rows wx
  go_enter Try.func5, Try.ntmps5
  go_wp2_with (go_at_call 8; refine hal.mono ?_; rintro e w1 ⟨rfl, hg1⟩; refine Hid.out ?_)
  clear hal
  refine Lib.hid ?_
  go_wp2_with (go_at_call 13; refine (hsm _).mono ?_; rintro e w3 ⟨rfl, hk, hb, hg3, hs3⟩; refine Hid.out ?_)
  rw [World.size_alloc] at hk hb hs3
  refine Lib.hid ?_
  clear hsm
  go_wp2_with (with_reducible refine hold_st ?_)
  refine Lib.hid ?_
  refine store_lastc #[.slice (some ⟨w1.heap.size + 1 + 1, 0, none⟩) 2 2, .int .i64 1, .int .i64 1, .int .i64 0, .int .i64 2, .slice none 0 0, .slice (some ⟨w1.heap.size + 1 + 1 + 1, 0, none⟩) 5 5] ?hp ?hv ?hi ?ho ?h1 ?hK
  case hp => rw [hs3]; rfl
  case hv => rfl
  case hi => kernel_rfl
  case ho => rfl
  case h1 => exact small_one _ _
  have HW := Lib.hid (Cw.start hg1 [.slice (some ⟨w1.heap.size + 1 + 1, 0, none⟩) 2 2, .int .i64 1, .int .i64 1, .int .i64 0, .int .i64 2, .slice none 0 0, .slice (some ⟨w1.heap.size + 1 + 1 + 1, 0, none⟩) 5 5] hk hb hg3 hs3)
  clear hk hb hg3 hs3
  obtain ⟨W4, hW4⟩ : ∃ W4, W4 = w3.alloc (.cells #[.slice (some ⟨w1.heap.size + 1 + 1, 0, none⟩) 2 2, .int .i64 1, .int .i64 1, .int .i64 0, .int .i64 2, .slice none 0 0, .slice (some ⟨w1.heap.size + 1 + 1 + 1, 0, none⟩) 5 5] 25) := ⟨_, rfl⟩
  rw [← hW4] at HW ⊢
  clear hW4
  clear hg1
  obtain ⟨V, hV⟩ : ∃ V, V = w1.heap.size := ⟨_, rfl⟩
  rw [← hV] at HW ⊢
  clear hV
  have k1 : W4.cell? ⟨V + 1 + 1 + 1 + 1, 6, none⟩ = some (.slice (some ⟨V + 1 + 1 + 1, 0, none⟩) 5 5) := (cell_of_row W4 _ 6 _ _ _ HW.out.crow).trans rfl
  have z1 := Lib.frozen_of_heap HW.out.crow 6
  have k2 : W4.cell? ⟨V + 1 + 1 + 1, 4, none⟩ = some (.int .i64 1) := (cell_of_row W4 _ 4 _ _ _ HW.out.brow).trans rfl
  have z2 := Lib.frozen_of_heap HW.out.brow 4
  go_wp2_with (with_reducible refine hold_ld ?_)
  have HN := Lib.hid (HW.out.setB (bs' := Cd.small.body.set 1 ⟨1, 200, 2⟩) 4 (.int .i64 200) rfl)
  obtain ⟨W5, hW5⟩ : ∃ W5, W5 = W4.setCell ⟨V + 1 + 1 + 1, 4, none⟩ (.int .i64 200) := ⟨_, rfl⟩
  rw [← hW5] at HN ⊢
  have hini : NumsAt W5 none ({ Cd.small with body := Cd.small.body.set 1 ⟨1, 200, 2⟩ }).init := NumsAt.nil _ _
  have hbod : InssAt W5 (some ⟨V + 1 + 1 + 1, 0, none⟩) ({ Cd.small with body := Cd.small.body.set 1 ⟨1, 200, 2⟩ }).body := inss_row HN.out.brow
  clear hW5 HW k1 z1 k2 z2
  have hck := hC W5 ({ Cd.small with body := Cd.small.body.set 1 ⟨1, 200, 2⟩ }) (some ⟨V + 1 + 1, 0, none⟩) 2 none 0 (some ⟨V + 1 + 1 + 1, 0, none⟩) 5 ⟨nums_row HN.out.krow, hini, hbod⟩ (by unfold I64s Cd.small Cd.I64 maxLen; refine ⟨by decide, by decide, by decide, by decide, by decide, by decide, by decide, by decide, by decide, by decide⟩) (by exact Nat.le_refl _)
  rw [show Cd.check ({ Cd.small with body := Cd.small.body.set 1 ⟨1, 200, 2⟩ }) = 50 by decide +kernel, show codeV ({ Cd.small with body := Cd.small.body.set 1 ⟨1, 200, 2⟩ }) (some ⟨V + 1 + 1, 0, none⟩) 2 none 0 (some ⟨V + 1 + 1 + 1, 0, none⟩) 5 = #[.slice (some ⟨V + 1 + 1, 0, none⟩) 2 2, .int .i64 1, .int .i64 1, .int .i64 0, .int .i64 2, .slice none 0 0, .slice (some ⟨V + 1 + 1 + 1, 0, none⟩) 5 5] from rfl] at hck
  have hr := HN.out.crow
  have y0 := cell_of_row _ _ 0 _ _ _ hr
  have y1 := cell_of_row _ _ 1 _ _ _ hr
  have y2 := cell_of_row _ _ 2 _ _ _ hr
  have y3 := cell_of_row _ _ 3 _ _ _ hr
  have y4 := cell_of_row _ _ 4 _ _ _ hr
  have y5 := cell_of_row _ _ 5 _ _ _ hr
  have y6 := cell_of_row _ _ 6 _ _ _ hr
  clear hr hini hbod
  refine Lib.hid ?_
  have hnum := fun k wx => num19_any k wx
  go_wp2_with (go_at_call 10; refine hck.mono ?_; rintro e w6 ⟨rfl, hg6⟩; refine Hid.out ?_)
  have v7 : w6.cell? ⟨V, 8, none⟩ = some (.int .i64 50) := hg6.cell ((cell_of_row W5 _ 8 _ _ _ HN.out.vrow).trans rfl) (by simp)
  have HG := Lib.hid (HN.out.gr.trans hg6)
  clear hck HN hg6 y0 y1 y2 y3 y4 y5 y6
  refine Lib.hid ?_
  go_upto_region 50 with fail
  go_quiet (first | (go_at_call 11; refine Calls.quiet_of_same (hnum _ _)))
  go_wp2
  go_ret
  exact ⟨rfl, ⟨HG.out.os, HG.out.tape, HG.out.output, HG.out.size, HG.out.block⟩⟩

set_option maxHeartbeats 4000000 in
set_option maxRecDepth 100000 in
theorem cw_9 (hC : CCheck) (hWr : CWrite) (w : World) : Calls Try.prog 5 #[.int .i64 9] w fun e w' => e = .returned (.bool true) ∧ w.grownBy w' none := by
  have hal := alive19_any hC hWr w
  have hsm := fun wx => small_rows wx
  go_enter Try.func5, Try.ntmps5
  go_wp2_with (go_at_call 8; refine hal.mono ?_; rintro e w1 ⟨rfl, hg1⟩; refine Hid.out ?_)
  clear hal
  refine Lib.hid ?_
  go_wp2_with (go_at_call 13; refine (hsm _).mono ?_; rintro e w3 ⟨rfl, hk, hb, hg3, hs3⟩; refine Hid.out ?_)
  rw [World.size_alloc] at hk hb hs3
  refine Lib.hid ?_
  clear hsm
  go_wp2_with (with_reducible refine hold_st ?_)
  refine Lib.hid ?_
  refine store_lastc #[.slice (some ⟨w1.heap.size + 1 + 1, 0, none⟩) 2 2, .int .i64 1, .int .i64 1, .int .i64 0, .int .i64 2, .slice none 0 0, .slice (some ⟨w1.heap.size + 1 + 1 + 1, 0, none⟩) 5 5] ?hp ?hv ?hi ?ho ?h1 ?hK
  case hp => rw [hs3]; rfl
  case hv => rfl
  case hi => kernel_rfl
  case ho => rfl
  case h1 => exact small_one _ _
  have HW := Lib.hid (Cw.start hg1 [.slice (some ⟨w1.heap.size + 1 + 1, 0, none⟩) 2 2, .int .i64 1, .int .i64 1, .int .i64 0, .int .i64 2, .slice none 0 0, .slice (some ⟨w1.heap.size + 1 + 1 + 1, 0, none⟩) 5 5] hk hb hg3 hs3)
  clear hk hb hg3 hs3
  obtain ⟨W4, hW4⟩ : ∃ W4, W4 = w3.alloc (.cells #[.slice (some ⟨w1.heap.size + 1 + 1, 0, none⟩) 2 2, .int .i64 1, .int .i64 1, .int .i64 0, .int .i64 2, .slice none 0 0, .slice (some ⟨w1.heap.size + 1 + 1 + 1, 0, none⟩) 5 5] 25) := ⟨_, rfl⟩
  rw [← hW4] at HW ⊢
  clear hW4
  clear hg1
  obtain ⟨V, hV⟩ : ∃ V, V = w1.heap.size := ⟨_, rfl⟩
  rw [← hV] at HW ⊢
  clear hV
  have k1 : W4.cell? ⟨V + 1 + 1 + 1 + 1, 6, none⟩ = some (.slice (some ⟨V + 1 + 1 + 1, 0, none⟩) 5 5) := (cell_of_row W4 _ 6 _ _ _ HW.out.crow).trans rfl
  have z1 := Lib.frozen_of_heap HW.out.crow 6
  have k2 : W4.cell? ⟨V + 1 + 1 + 1, 1, none⟩ = some (.int .i64 0) := (cell_of_row W4 _ 1 _ _ _ HW.out.brow).trans rfl
  have z2 := Lib.frozen_of_heap HW.out.brow 1
  go_wp2_with (with_reducible refine hold_ld ?_)
  have HN := Lib.hid (HW.out.setB (bs' := Cd.small.body.set 0 ⟨2, 2, 0⟩) 1 (.int .i64 2) rfl)
  obtain ⟨W5, hW5⟩ : ∃ W5, W5 = W4.setCell ⟨V + 1 + 1 + 1, 1, none⟩ (.int .i64 2) := ⟨_, rfl⟩
  rw [← hW5] at HN ⊢
  have hini : NumsAt W5 none ({ Cd.small with body := Cd.small.body.set 0 ⟨2, 2, 0⟩ }).init := NumsAt.nil _ _
  have hbod : InssAt W5 (some ⟨V + 1 + 1 + 1, 0, none⟩) ({ Cd.small with body := Cd.small.body.set 0 ⟨2, 2, 0⟩ }).body := inss_row HN.out.brow
  clear hW5 HW k1 z1 k2 z2
  have hck := hC W5 ({ Cd.small with body := Cd.small.body.set 0 ⟨2, 2, 0⟩ }) (some ⟨V + 1 + 1, 0, none⟩) 2 none 0 (some ⟨V + 1 + 1 + 1, 0, none⟩) 5 ⟨nums_row HN.out.krow, hini, hbod⟩ (by unfold I64s Cd.small Cd.I64 maxLen; refine ⟨by decide, by decide, by decide, by decide, by decide, by decide, by decide, by decide, by decide, by decide⟩) (by exact Nat.le_refl _)
  rw [show Cd.check ({ Cd.small with body := Cd.small.body.set 0 ⟨2, 2, 0⟩ }) = 50 by decide +kernel, show codeV ({ Cd.small with body := Cd.small.body.set 0 ⟨2, 2, 0⟩ }) (some ⟨V + 1 + 1, 0, none⟩) 2 none 0 (some ⟨V + 1 + 1 + 1, 0, none⟩) 5 = #[.slice (some ⟨V + 1 + 1, 0, none⟩) 2 2, .int .i64 1, .int .i64 1, .int .i64 0, .int .i64 2, .slice none 0 0, .slice (some ⟨V + 1 + 1 + 1, 0, none⟩) 5 5] from rfl] at hck
  have hr := HN.out.crow
  have y0 := cell_of_row _ _ 0 _ _ _ hr
  have y1 := cell_of_row _ _ 1 _ _ _ hr
  have y2 := cell_of_row _ _ 2 _ _ _ hr
  have y3 := cell_of_row _ _ 3 _ _ _ hr
  have y4 := cell_of_row _ _ 4 _ _ _ hr
  have y5 := cell_of_row _ _ 5 _ _ _ hr
  have y6 := cell_of_row _ _ 6 _ _ _ hr
  clear hr hini hbod
  refine Lib.hid ?_
  have hnum := fun k wx => num19_any k wx
  go_wp2_with (go_at_call 10; refine hck.mono ?_; rintro e w6 ⟨rfl, hg6⟩; refine Hid.out ?_)
  have v7 : w6.cell? ⟨V, 9, none⟩ = some (.int .i64 50) := hg6.cell ((cell_of_row W5 _ 9 _ _ _ HN.out.vrow).trans rfl) (by simp)
  have HG := Lib.hid (HN.out.gr.trans hg6)
  clear hck HN hg6 y0 y1 y2 y3 y4 y5 y6
  refine Lib.hid ?_
  go_upto_region 50 with fail
  go_quiet (first | (go_at_call 11; refine Calls.quiet_of_same (hnum _ _)))
  go_wp2
  go_ret
  exact ⟨rfl, ⟨HG.out.os, HG.out.tape, HG.out.output, HG.out.size, HG.out.block⟩⟩

end Go.Proofs.Ytcjainfcndlllaa
