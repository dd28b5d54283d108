/- My texts NmN NmO NmP NmQ NmR NmS NmT NmU NmV NmW NmX NmY NmZ NoA NoB NoC NoD NoE NoF NoG NoH NoI NoJ NoK NoL NoM RqB, joined. -/
import Derived.Test.YtonafedbehnneaaGreatMhJ
import Derived.Test.YtonafedbehnneaaGreatMhI
set_option linter.unusedVariables false
set_option linter.unusedSimpArgs false
set_option linter.unnecessarySimpa false
set_option linter.unusedSectionVars false
set_option maxHeartbeats 12800000
set_option maxRecDepth 20000
namespace Go.Proofs.YtonafedbehnneaaGreat
open Go.RowKit Go.Maps Go.WideMaps
open Nam (St F)
theorem wp_region_L2 {P : Program} {ops : Array Oper} {Q : Exit → Act → World → Prop} {S : World → Prop} {id : Nat} {a : Act} {w : World} (hm : P.follows .mixedOrders = true) (h : wpL P .any ops Q S [] ops.size (Array.replicate ops.size false) a w.drew) : (Code.region id ops true).wp P Q a w := wp_region_L hm h
section
variable (A : Adr) (w0 w : World) (st : St) (ab sb nb ob : Nat) (qa ua ta la ia : Option Addr) (qn qc un uc tn tc ln lc jn ic : Nat) (nm : List UInt8) (at_ : Int) (dv : Value) (vs : List Gram.Var)
theorem nIns_any (hnb : w.heap[nb]? = some (.cells #[.pointer (some ⟨A.c, 0, none⟩), .string ⟨nm.toArray⟩, .slice ua un uc, .slice ta tn tc, .slice la ln lc, .slice ia jn ic, .int .i64 at_, dv] 80 (0, 0))) (hnX : nb ∉ [A.b0, A.b1, A.b2]) (h : Ck w0 w A st) (hv : RepC w0 0 [] (.l 112 5 (vs.map varD)) (.slice ua un uc)) (ra re : Int) (r2 : St) (hr : Nam.declare false vs st = some ((ra, re), r2)) :
  Calls Tryz.prog 36 #[.pointer (some ⟨nb, 0, none⟩)] w fun e w' => e = .returned (.agg #[.int .i64 ra, .int .i64 re]) ∧ Ck w0 w' A r2 ∧ Kp [A.b1, A.b2] w w' := by
 obtain ⟨W1, hW1⟩ : ∃ W1, W1 = w.alloc fo := ⟨_, rfl⟩
 have hg1 : w.grownBy W1 none := by rw [hW1]; exact ga w fo none
 have hgd : w.grownBy W1.drew none := gdrew hg1
 have hce : W1.drew.heap[w.heap.size]? = some fo := by rw [hW1]; exact heap_alloc_new w fo
 have hS0 : (fun W' => W'.heap[nb]? = some (.cells #[.pointer (some ⟨A.c, 0, none⟩), .string ⟨nm.toArray⟩, .slice ua un uc, .slice ta tn tc, .slice la ln lc, .slice ia jn ic, .int .i64 at_, dv] 80 (0, 0))) W1.drew := (hgd.block nb (gl hnb) (by simp)).trans hnb
 have hlb := (gl hnb)
 have hlt := h.lt
 have hcall := declare1_any A vs _ _ _ st w0 W1.drew _ (h.kept hgd) hv hr
 have HF : Hid (W1 = w.alloc fo) := ld hW1
 obtain ⟨HCe, HG1⟩ : Hid (W1.drew.heap[w.heap.size]? = some fo) ∧ Hid (w.grownBy W1.drew none) := ⟨ld hce, ld hgd⟩
 have hfw : w.heap.size ∉ [A.b0, A.b1, A.b2] := by simp; omega
 clear hce hgd hg1 hW1
 go_enter Tryz.func36, Tryz.ntmps36
 go_wp2
 rw [show (Obj.cells #[Value.int .i64 0, Value.int .i64 0] 63) = fo from rfl, ← HF.out]
 refine wp_region_L2 (S := fun W' => W'.heap[nb]? = some (.cells #[.pointer (some ⟨A.c, 0, none⟩), .string ⟨nm.toArray⟩, .slice ua un uc, .slice ta tn tc, .slice la ln lc, .slice ia jn ic, .int .i64 at_, dv] 80 (0, 0))) (by kernel_rfl) ?_
 clear HF
 refine t1 0 3 (.pointer (some ⟨nb, 0, none⟩)) hS0 ?_
 (try simp only [Act.put, sA, sB, sC])
 refine t1 1 4 (.pointer (some ⟨nb, 0, none⟩)) hS0 ?_
 (try simp only [Act.put, sA, sB, sC])
 refine t1 2 5 (.pointer (some ⟨nb, 0, none⟩)) hS0 ?_
 (try simp only [Act.put, sA, sB, sC])
 refine t2 3 6 (.pointer (some ⟨A.c, 0, none⟩)) (fun w' hw' => ?_) hS0 ?_
 ·have hc0 := cell_of_row w' _ 0 _ _ _ (hw'); clear hw'; go_simp
 (try simp only [Act.put, sA, sB, sC])
 refine t1 4 7 (.pointer (some ⟨nb, 0, none⟩)) hS0 ?_
 (try simp only [Act.put, sA, sB, sC])
 refine t1 5 8 (.pointer (some ⟨nb, 0, none⟩)) hS0 ?_
 (try simp only [Act.put, sA, sB, sC])
 refine t1 6 9 (.pointer (some ⟨nb, 1, none⟩)) hS0 ?_
 (try simp only [Act.put, sA, sB, sC])
 refine t1 7 10 (.pointer (some ⟨nb, 2, none⟩)) hS0 ?_
 (try simp only [Act.put, sA, sB, sC])
 refine t2 8 11 (.slice ua un uc) (fun w' hw' => ?_) hS0 ?_
 ·have hc0 := cell_of_row w' _ 2 _ _ _ (hw'); clear hw'; go_simp
 (try simp only [Act.put, sA, sB, sC])
 refine wpL_call (i := 9) (d := 12) (R := fun v w' => v = .agg #[.int .i64 ra, .int .i64 re] ∧ (Ck w0 w' A r2 ∧ Kp [A.b1, A.b2] W1.drew w')) (by kernel_rfl) rfl (by kernel_rfl) (by kernel_rfl) (by kernel_rfl) (hcall.mono fun e w' he => ⟨_, he.1, rfl, he.2⟩) (fun v w' h => h.2.2.at hS0 (fun e => hnX (List.mem_cons_of_mem _ e))) (fun v w2 h => ?_)
 have hR := h.2
 rw [h.1]
 have hS1 : (fun W' => W'.heap[nb]? = some (.cells #[.pointer (some ⟨A.c, 0, none⟩), .string ⟨nm.toArray⟩, .slice ua un uc, .slice ta tn tc, .slice la ln lc, .slice ia jn ic, .int .i64 at_, dv] 80 (0, 0))) w2 := (fun v w' (h : v = v ∧ _) => h.2.2.at hS0 (fun e => hnX (List.mem_cons_of_mem _ e))) undef w2 ⟨rfl, hR⟩
 have HR2 := ld hR
 clear h v hR
 (try simp only [Act.put, sA, sB, sC])
 have hce2 : w2.heap[w.heap.size]? = some fo := HR2.out.2.at HCe.out (fun e => hfw (List.mem_cons_of_mem _ e))
 refine wpL_store (i := 10) w.heap.size #[.int .i64 ra, .int .i64 re] _ 63 63 _ _ (by kernel_rfl) rfl (by kernel_rfl) (by kernel_rfl) rfl rfl rfl hce2 (by kernel_rfl) rfl (by kernel_rfl) (fun w7 hh7 hg7 => ⟨?_, ?_⟩)
 ·exact (hg7.block nb (gl hS1) (by simp; omega)).trans hS1
 (try simp only [Act.put, sA, sB, sC])
 refine wpL_done (by kernel_rfl) ?_ _
 go_wp2
 (try simp only [Exit.inBlock, Exit.then])
 refine br hh7 Tryz.underlying63 ?_
 exact ⟨rfl, HR2.out.1.keptB hg7 ⟨h.base.size, by have := h.mm.lt; simp; omega⟩, ((Kp.of0 HG1.out _).trans HR2.out.2).trans' hg7 (Nat.le_refl _)⟩
theorem nOuts_any (hnb : w.heap[nb]? = some (.cells #[.pointer (some ⟨A.c, 0, none⟩), .string ⟨nm.toArray⟩, .slice ua un uc, .slice ta tn tc, .slice la ln lc, .slice ia jn ic, .int .i64 at_, dv] 80 (0, 0))) (hnX : nb ∉ [A.b0, A.b1, A.b2]) (h : Ck w0 w A st) (hv : RepC w0 0 [] (.l 112 5 (vs.map varD)) (.slice ta tn tc)) (ra re : Int) (r2 : St) (hr : Nam.declare true vs st = some ((ra, re), r2)) :
  Calls Tryz.prog 37 #[.pointer (some ⟨nb, 0, none⟩)] w fun e w' => e = .returned (.agg #[.int .i64 ra, .int .i64 re]) ∧ Ck w0 w' A r2 ∧ Kp [A.b1, A.b2] w w' := by
 obtain ⟨W1, hW1⟩ : ∃ W1, W1 = w.alloc fo := ⟨_, rfl⟩
 have hg1 : w.grownBy W1 none := by rw [hW1]; exact ga w fo none
 have hgd : w.grownBy W1.drew none := gdrew hg1
 have hce : W1.drew.heap[w.heap.size]? = some fo := by rw [hW1]; exact heap_alloc_new w fo
 have hS0 : (fun W' => W'.heap[nb]? = some (.cells #[.pointer (some ⟨A.c, 0, none⟩), .string ⟨nm.toArray⟩, .slice ua un uc, .slice ta tn tc, .slice la ln lc, .slice ia jn ic, .int .i64 at_, dv] 80 (0, 0))) W1.drew := (hgd.block nb (gl hnb) (by simp)).trans hnb
 have hlb := (gl hnb)
 have hlt := h.lt
 have hcall := declare2_any A vs _ _ _ st w0 W1.drew _ (h.kept hgd) hv hr
 have HF : Hid (W1 = w.alloc fo) := ld hW1
 obtain ⟨HCe, HG1⟩ : Hid (W1.drew.heap[w.heap.size]? = some fo) ∧ Hid (w.grownBy W1.drew none) := ⟨ld hce, ld hgd⟩
 have hfw : w.heap.size ∉ [A.b0, A.b1, A.b2] := by simp; omega
 clear hce hgd hg1 hW1
 go_enter Tryz.func37, Tryz.ntmps37
 go_wp2
 rw [show (Obj.cells #[Value.int .i64 0, Value.int .i64 0] 63) = fo from rfl, ← HF.out]
 refine wp_region_L2 (S := fun W' => W'.heap[nb]? = some (.cells #[.pointer (some ⟨A.c, 0, none⟩), .string ⟨nm.toArray⟩, .slice ua un uc, .slice ta tn tc, .slice la ln lc, .slice ia jn ic, .int .i64 at_, dv] 80 (0, 0))) (by kernel_rfl) ?_
 clear HF
 refine t1 0 3 (.pointer (some ⟨nb, 0, none⟩)) hS0 ?_
 (try simp only [Act.put, sA, sB, sC])
 refine t1 1 4 (.pointer (some ⟨nb, 0, none⟩)) hS0 ?_
 (try simp only [Act.put, sA, sB, sC])
 refine t1 2 5 (.pointer (some ⟨nb, 0, none⟩)) hS0 ?_
 (try simp only [Act.put, sA, sB, sC])
 refine t2 3 6 (.pointer (some ⟨A.c, 0, none⟩)) (fun w' hw' => ?_) hS0 ?_
 ·have hc0 := cell_of_row w' _ 0 _ _ _ (hw'); clear hw'; go_simp
 (try simp only [Act.put, sA, sB, sC])
 refine t1 4 7 (.pointer (some ⟨nb, 0, none⟩)) hS0 ?_
 (try simp only [Act.put, sA, sB, sC])
 refine t1 5 8 (.pointer (some ⟨nb, 0, none⟩)) hS0 ?_
 (try simp only [Act.put, sA, sB, sC])
 refine t1 6 9 (.pointer (some ⟨nb, 1, none⟩)) hS0 ?_
 (try simp only [Act.put, sA, sB, sC])
 refine t1 7 10 (.pointer (some ⟨nb, 3, none⟩)) hS0 ?_
 (try simp only [Act.put, sA, sB, sC])
 refine t2 8 11 (.slice ta tn tc) (fun w' hw' => ?_) hS0 ?_
 ·have hc0 := cell_of_row w' _ 3 _ _ _ (hw'); clear hw'; go_simp
 (try simp only [Act.put, sA, sB, sC])
 refine wpL_call (i := 9) (d := 12) (R := fun v w' => v = .agg #[.int .i64 ra, .int .i64 re] ∧ (Ck w0 w' A r2 ∧ Kp [A.b1, A.b2] W1.drew w')) (by kernel_rfl) rfl (by kernel_rfl) (by kernel_rfl) (by kernel_rfl) (hcall.mono fun e w' he => ⟨_, he.1, rfl, he.2⟩) (fun v w' h => h.2.2.at hS0 (fun e => hnX (List.mem_cons_of_mem _ e))) (fun v w2 h => ?_)
 have hR := h.2
 rw [h.1]
 have hS1 : (fun W' => W'.heap[nb]? = some (.cells #[.pointer (some ⟨A.c, 0, none⟩), .string ⟨nm.toArray⟩, .slice ua un uc, .slice ta tn tc, .slice la ln lc, .slice ia jn ic, .int .i64 at_, dv] 80 (0, 0))) w2 := (fun v w' (h : v = v ∧ _) => h.2.2.at hS0 (fun e => hnX (List.mem_cons_of_mem _ e))) undef w2 ⟨rfl, hR⟩
 have HR2 := ld hR
 clear h v hR
 (try simp only [Act.put, sA, sB, sC])
 have hce2 : w2.heap[w.heap.size]? = some fo := HR2.out.2.at HCe.out (fun e => hfw (List.mem_cons_of_mem _ e))
 refine wpL_store (i := 10) w.heap.size #[.int .i64 ra, .int .i64 re] _ 63 63 _ _ (by kernel_rfl) rfl (by kernel_rfl) (by kernel_rfl) rfl rfl rfl hce2 (by kernel_rfl) rfl (by kernel_rfl) (fun w7 hh7 hg7 => ⟨?_, ?_⟩)
 ·exact (hg7.block nb (gl hS1) (by simp; omega)).trans hS1
 (try simp only [Act.put, sA, sB, sC])
 refine wpL_done (by kernel_rfl) ?_ _
 go_wp2
 (try simp only [Exit.inBlock, Exit.then])
 refine br hh7 Tryz.underlying63 ?_
 exact ⟨rfl, HR2.out.1.keptB hg7 ⟨h.base.size, by have := h.mm.lt; simp; omega⟩, ((Kp.of0 HG1.out _).trans HR2.out.2).trans' hg7 (Nat.le_refl _)⟩
theorem nLocals_any (hnb : w.heap[nb]? = some (.cells #[.pointer (some ⟨A.c, 0, none⟩), .string ⟨nm.toArray⟩, .slice ua un uc, .slice ta tn tc, .slice la ln lc, .slice ia jn ic, .int .i64 at_, dv] 80 (0, 0))) (hnX : nb ∉ [A.b0, A.b1, A.b2]) (h : Ck w0 w A st) (hv : RepC w0 0 [] (.l 112 5 (vs.map varD)) (.slice la ln lc)) (ra re : Int) (r2 : St) (hr : Nam.declare true vs st = some ((ra, re), r2)) :
  Calls Tryz.prog 38 #[.pointer (some ⟨nb, 0, none⟩)] w fun e w' => e = .returned (.agg #[.int .i64 ra, .int .i64 re]) ∧ Ck w0 w' A r2 ∧ Kp [A.b1, A.b2] w w' := by
 obtain ⟨W1, hW1⟩ : ∃ W1, W1 = w.alloc fo := ⟨_, rfl⟩
 have hg1 : w.grownBy W1 none := by rw [hW1]; exact ga w fo none
 have hgd : w.grownBy W1.drew none := gdrew hg1
 have hce : W1.drew.heap[w.heap.size]? = some fo := by rw [hW1]; exact heap_alloc_new w fo
 have hS0 : (fun W' => W'.heap[nb]? = some (.cells #[.pointer (some ⟨A.c, 0, none⟩), .string ⟨nm.toArray⟩, .slice ua un uc, .slice ta tn tc, .slice la ln lc, .slice ia jn ic, .int .i64 at_, dv] 80 (0, 0))) W1.drew := (hgd.block nb (gl hnb) (by simp)).trans hnb
 have hlb := (gl hnb)
 have hlt := h.lt
 have hcall := declare2_any A vs _ _ _ st w0 W1.drew _ (h.kept hgd) hv hr
 have HF : Hid (W1 = w.alloc fo) := ld hW1
 obtain ⟨HCe, HG1⟩ : Hid (W1.drew.heap[w.heap.size]? = some fo) ∧ Hid (w.grownBy W1.drew none) := ⟨ld hce, ld hgd⟩
 have hfw : w.heap.size ∉ [A.b0, A.b1, A.b2] := by simp; omega
 clear hce hgd hg1 hW1
 go_enter Tryz.func38, Tryz.ntmps38
 go_wp2
 rw [show (Obj.cells #[Value.int .i64 0, Value.int .i64 0] 63) = fo from rfl, ← HF.out]
 refine wp_region_L2 (S := fun W' => W'.heap[nb]? = some (.cells #[.pointer (some ⟨A.c, 0, none⟩), .string ⟨nm.toArray⟩, .slice ua un uc, .slice ta tn tc, .slice la ln lc, .slice ia jn ic, .int .i64 at_, dv] 80 (0, 0))) (by kernel_rfl) ?_
 clear HF
 refine t1 0 3 (.pointer (some ⟨nb, 0, none⟩)) hS0 ?_
 (try simp only [Act.put, sA, sB, sC])
 refine t1 1 4 (.pointer (some ⟨nb, 0, none⟩)) hS0 ?_
 (try simp only [Act.put, sA, sB, sC])
 refine t1 2 5 (.pointer (some ⟨nb, 0, none⟩)) hS0 ?_
 (try simp only [Act.put, sA, sB, sC])
 refine t2 3 6 (.pointer (some ⟨A.c, 0, none⟩)) (fun w' hw' => ?_) hS0 ?_
 ·have hc0 := cell_of_row w' _ 0 _ _ _ (hw'); clear hw'; go_simp
 (try simp only [Act.put, sA, sB, sC])
 refine t1 4 7 (.pointer (some ⟨nb, 0, none⟩)) hS0 ?_
 (try simp only [Act.put, sA, sB, sC])
 refine t1 5 8 (.pointer (some ⟨nb, 0, none⟩)) hS0 ?_
 (try simp only [Act.put, sA, sB, sC])
 refine t1 6 9 (.pointer (some ⟨nb, 1, none⟩)) hS0 ?_
 (try simp only [Act.put, sA, sB, sC])
 refine t1 7 10 (.pointer (some ⟨nb, 4, none⟩)) hS0 ?_
 (try simp only [Act.put, sA, sB, sC])
 refine t2 8 11 (.slice la ln lc) (fun w' hw' => ?_) hS0 ?_
 ·have hc0 := cell_of_row w' _ 4 _ _ _ (hw'); clear hw'; go_simp
 (try simp only [Act.put, sA, sB, sC])
 refine wpL_call (i := 9) (d := 12) (R := fun v w' => v = .agg #[.int .i64 ra, .int .i64 re] ∧ (Ck w0 w' A r2 ∧ Kp [A.b1, A.b2] W1.drew w')) (by kernel_rfl) rfl (by kernel_rfl) (by kernel_rfl) (by kernel_rfl) (hcall.mono fun e w' he => ⟨_, he.1, rfl, he.2⟩) (fun v w' h => h.2.2.at hS0 (fun e => hnX (List.mem_cons_of_mem _ e))) (fun v w2 h => ?_)
 have hR := h.2
 rw [h.1]
 have hS1 : (fun W' => W'.heap[nb]? = some (.cells #[.pointer (some ⟨A.c, 0, none⟩), .string ⟨nm.toArray⟩, .slice ua un uc, .slice ta tn tc, .slice la ln lc, .slice ia jn ic, .int .i64 at_, dv] 80 (0, 0))) w2 := (fun v w' (h : v = v ∧ _) => h.2.2.at hS0 (fun e => hnX (List.mem_cons_of_mem _ e))) undef w2 ⟨rfl, hR⟩
 have HR2 := ld hR
 clear h v hR
 (try simp only [Act.put, sA, sB, sC])
 have hce2 : w2.heap[w.heap.size]? = some fo := HR2.out.2.at HCe.out (fun e => hfw (List.mem_cons_of_mem _ e))
 refine wpL_store (i := 10) w.heap.size #[.int .i64 ra, .int .i64 re] _ 63 63 _ _ (by kernel_rfl) rfl (by kernel_rfl) (by kernel_rfl) rfl rfl rfl hce2 (by kernel_rfl) rfl (by kernel_rfl) (fun w7 hh7 hg7 => ⟨?_, ?_⟩)
 ·exact (hg7.block nb (gl hS1) (by simp; omega)).trans hS1
 (try simp only [Act.put, sA, sB, sC])
 refine wpL_done (by kernel_rfl) ?_ _
 go_wp2
 (try simp only [Exit.inBlock, Exit.then])
 refine br hh7 Tryz.underlying63 ?_
 exact ⟨rfl, HR2.out.1.keptB hg7 ⟨h.base.size, by have := h.mm.lt; simp; omega⟩, ((Kp.of0 HG1.out _).trans HR2.out.2).trans' hg7 (Nat.le_refl _)⟩
theorem nOutsDef_any (hnb : w.heap[nb]? = some (.cells #[.pointer (some ⟨A.c, 0, none⟩), .string ⟨nm.toArray⟩, .slice ua un uc, .slice ta tn tc, .slice la ln lc, .slice ia jn ic, .int .i64 at_, dv] 80 (0, 0))) (hnX : nb ∉ [A.b0, A.b1, A.b2]) (h : Ck w0 w A st) (hv : RepC w0 0 [] (.l 112 5 (vs.map varD)) (.slice ta tn tc)) (b : Option Nat) (hdv : dv = .map b) (n : Nat) (D' : List (List UInt8)) (hD : SetO w b n D') (ra re : Int) (hr : Nam.missing D' vs = some (ra, re)) :
  Calls Tryz.prog 40 #[.pointer (some ⟨nb, 0, none⟩)] w fun e w' => e = .returned (.agg #[.int .i64 ra, .int .i64 re]) ∧ w.grownBy w' none := by
 obtain ⟨W1, hW1⟩ : ∃ W1, W1 = w.alloc fo := ⟨_, rfl⟩
 have hg1 : w.grownBy W1 none := by rw [hW1]; exact ga w fo none
 have hgd : w.grownBy W1.drew none := gdrew hg1
 have hce : W1.drew.heap[w.heap.size]? = some fo := by rw [hW1]; exact heap_alloc_new w fo
 have hS0 : (fun W' => W'.heap[nb]? = some (.cells #[.pointer (some ⟨A.c, 0, none⟩), .string ⟨nm.toArray⟩, .slice ua un uc, .slice ta tn tc, .slice la ln lc, .slice ia jn ic, .int .i64 at_, dv] 80 (0, 0))) W1.drew := (hgd.block nb (gl hnb) (by simp)).trans hnb
 have hlb := (gl hnb)
 have hlt := h.lt
 have hcall := missing_any b n D' vs _ _ _ w0 W1.drew _ (h.base.trans hgd) hv (hD.kept hgd) hr
 rw [← hdv] at hcall
 have HF : Hid (W1 = w.alloc fo) := ld hW1
 obtain ⟨HCe, HG1⟩ : Hid (W1.drew.heap[w.heap.size]? = some fo) ∧ Hid (w.grownBy W1.drew none) := ⟨ld hce, ld hgd⟩
 have hfw : w.heap.size ∉ [A.b0, A.b1, A.b2] := by simp; omega
 clear hce hgd hg1 hW1
 go_enter Tryz.func40, Tryz.ntmps40
 go_wp2
 rw [show (Obj.cells #[Value.int .i64 0, Value.int .i64 0] 63) = fo from rfl, ← HF.out]
 refine wp_region_L2 (S := fun W' => W'.heap[nb]? = some (.cells #[.pointer (some ⟨A.c, 0, none⟩), .string ⟨nm.toArray⟩, .slice ua un uc, .slice ta tn tc, .slice la ln lc, .slice ia jn ic, .int .i64 at_, dv] 80 (0, 0))) (by kernel_rfl) ?_
 clear HF
 refine t1 0 3 (.pointer (some ⟨nb, 0, none⟩)) hS0 ?_
 (try simp only [Act.put, sA, sB, sC])
 refine t1 1 4 (.pointer (some ⟨nb, 0, none⟩)) hS0 ?_
 (try simp only [Act.put, sA, sB, sC])
 refine t1 2 5 (.pointer (some ⟨nb, 1, none⟩)) hS0 ?_
 (try simp only [Act.put, sA, sB, sC])
 refine t1 3 6 (.pointer (some ⟨nb, 3, none⟩)) hS0 ?_
 (try simp only [Act.put, sA, sB, sC])
 refine t2 4 7 (.slice ta tn tc) (fun w' hw' => ?_) hS0 ?_
 ·have hc0 := cell_of_row w' _ 3 _ _ _ (hw'); clear hw'; go_simp
 (try simp only [Act.put, sA, sB, sC])
 refine t1 5 8 (.pointer (some ⟨nb, 0, none⟩)) hS0 ?_
 (try simp only [Act.put, sA, sB, sC])
 refine t1 6 9 (.pointer (some ⟨nb, 0, none⟩)) hS0 ?_
 (try simp only [Act.put, sA, sB, sC])
 refine t1 7 10 (.pointer (some ⟨nb, 7, none⟩)) hS0 ?_
 (try simp only [Act.put, sA, sB, sC])
 refine t2 8 11 dv (fun w' hw' => ?_) hS0 ?_
 ·have hc0 := cell_of_row w' _ 7 _ _ _ (hw'); clear hw'; go_simp
 (try simp only [Act.put, sA, sB, sC])
 refine wpL_call (i := 9) (d := 12) (R := fun v w' => v = .agg #[.int .i64 ra, .int .i64 re] ∧ (W1.drew.grownBy w' none)) (by kernel_rfl) rfl (by kernel_rfl) (by kernel_rfl) (by kernel_rfl) (hcall.mono fun e w' he => ⟨_, he.1, rfl, he.2⟩) (fun v w' h => (h.2.block _ (gl hS0) (by simp)).trans hS0) (fun v w2 h => ?_)
 have hR := h.2
 rw [h.1]
 have hS1 : (fun W' => W'.heap[nb]? = some (.cells #[.pointer (some ⟨A.c, 0, none⟩), .string ⟨nm.toArray⟩, .slice ua un uc, .slice ta tn tc, .slice la ln lc, .slice ia jn ic, .int .i64 at_, dv] 80 (0, 0))) w2 := (fun v w' (h : v = v ∧ _) => (h.2.block _ (gl hS0) (by simp)).trans hS0) undef w2 ⟨rfl, hR⟩
 have HR2 := ld hR
 clear h v hR
 (try simp only [Act.put, sA, sB, sC])
 have hce2 : w2.heap[w.heap.size]? = some fo := (HR2.out.block _ (gl HCe.out) (by simp)).trans HCe.out
 refine wpL_store (i := 10) w.heap.size #[.int .i64 ra, .int .i64 re] _ 63 63 _ _ (by kernel_rfl) rfl (by kernel_rfl) (by kernel_rfl) rfl rfl rfl hce2 (by kernel_rfl) rfl (by kernel_rfl) (fun w7 hh7 hg7 => ⟨?_, ?_⟩)
 ·exact (hg7.block nb (gl hS1) (by simp; omega)).trans hS1
 (try simp only [Act.put, sA, sB, sC])
 refine wpL_done (by kernel_rfl) ?_ _
 go_wp2
 (try simp only [Exit.inBlock, Exit.then])
 refine br hh7 Tryz.underlying63 ?_
 exact ⟨rfl, (HG1.out.trans HR2.out).andThen hg7 (fun j e => .inl (by cases e; exact Nat.le_refl _))⟩
theorem nLocalsDef_any (hnb : w.heap[nb]? = some (.cells #[.pointer (some ⟨A.c, 0, none⟩), .string ⟨nm.toArray⟩, .slice ua un uc, .slice ta tn tc, .slice la ln lc, .slice ia jn ic, .int .i64 at_, dv] 80 (0, 0))) (hnX : nb ∉ [A.b0, A.b1, A.b2]) (h : Ck w0 w A st) (hv : RepC w0 0 [] (.l 112 5 (vs.map varD)) (.slice la ln lc)) (b : Option Nat) (hdv : dv = .map b) (n : Nat) (D' : List (List UInt8)) (hD : SetO w b n D') (ra re : Int) (hr : Nam.missing D' vs = some (ra, re)) :
  Calls Tryz.prog 41 #[.pointer (some ⟨nb, 0, none⟩)] w fun e w' => e = .returned (.agg #[.int .i64 ra, .int .i64 re]) ∧ w.grownBy w' none := by
 obtain ⟨W1, hW1⟩ : ∃ W1, W1 = w.alloc fo := ⟨_, rfl⟩
 have hg1 : w.grownBy W1 none := by rw [hW1]; exact ga w fo none
 have hgd : w.grownBy W1.drew none := gdrew hg1
 have hce : W1.drew.heap[w.heap.size]? = some fo := by rw [hW1]; exact heap_alloc_new w fo
 have hS0 : (fun W' => W'.heap[nb]? = some (.cells #[.pointer (some ⟨A.c, 0, none⟩), .string ⟨nm.toArray⟩, .slice ua un uc, .slice ta tn tc, .slice la ln lc, .slice ia jn ic, .int .i64 at_, dv] 80 (0, 0))) W1.drew := (hgd.block nb (gl hnb) (by simp)).trans hnb
 have hlb := (gl hnb)
 have hlt := h.lt
 have hcall := missing_any b n D' vs _ _ _ w0 W1.drew _ (h.base.trans hgd) hv (hD.kept hgd) hr
 rw [← hdv] at hcall
 have HF : Hid (W1 = w.alloc fo) := ld hW1
 obtain ⟨HCe, HG1⟩ : Hid (W1.drew.heap[w.heap.size]? = some fo) ∧ Hid (w.grownBy W1.drew none) := ⟨ld hce, ld hgd⟩
 have hfw : w.heap.size ∉ [A.b0, A.b1, A.b2] := by simp; omega
 clear hce hgd hg1 hW1
 go_enter Tryz.func41, Tryz.ntmps41
 go_wp2
 rw [show (Obj.cells #[Value.int .i64 0, Value.int .i64 0] 63) = fo from rfl, ← HF.out]
 refine wp_region_L2 (S := fun W' => W'.heap[nb]? = some (.cells #[.pointer (some ⟨A.c, 0, none⟩), .string ⟨nm.toArray⟩, .slice ua un uc, .slice ta tn tc, .slice la ln lc, .slice ia jn ic, .int .i64 at_, dv] 80 (0, 0))) (by kernel_rfl) ?_
 clear HF
 refine t1 0 3 (.pointer (some ⟨nb, 0, none⟩)) hS0 ?_
 (try simp only [Act.put, sA, sB, sC])
 refine t1 1 4 (.pointer (some ⟨nb, 0, none⟩)) hS0 ?_
 (try simp only [Act.put, sA, sB, sC])
 refine t1 2 5 (.pointer (some ⟨nb, 1, none⟩)) hS0 ?_
 (try simp only [Act.put, sA, sB, sC])
 refine t1 3 6 (.pointer (some ⟨nb, 4, none⟩)) hS0 ?_
 (try simp only [Act.put, sA, sB, sC])
 refine t2 4 7 (.slice la ln lc) (fun w' hw' => ?_) hS0 ?_
 ·have hc0 := cell_of_row w' _ 4 _ _ _ (hw'); clear hw'; go_simp
 (try simp only [Act.put, sA, sB, sC])
 refine t1 5 8 (.pointer (some ⟨nb, 0, none⟩)) hS0 ?_
 (try simp only [Act.put, sA, sB, sC])
 refine t1 6 9 (.pointer (some ⟨nb, 0, none⟩)) hS0 ?_
 (try simp only [Act.put, sA, sB, sC])
 refine t1 7 10 (.pointer (some ⟨nb, 7, none⟩)) hS0 ?_
 (try simp only [Act.put, sA, sB, sC])
 refine t2 8 11 dv (fun w' hw' => ?_) hS0 ?_
 ·have hc0 := cell_of_row w' _ 7 _ _ _ (hw'); clear hw'; go_simp
 (try simp only [Act.put, sA, sB, sC])
 refine wpL_call (i := 9) (d := 12) (R := fun v w' => v = .agg #[.int .i64 ra, .int .i64 re] ∧ (W1.drew.grownBy w' none)) (by kernel_rfl) rfl (by kernel_rfl) (by kernel_rfl) (by kernel_rfl) (hcall.mono fun e w' he => ⟨_, he.1, rfl, he.2⟩) (fun v w' h => (h.2.block _ (gl hS0) (by simp)).trans hS0) (fun v w2 h => ?_)
 have hR := h.2
 rw [h.1]
 have hS1 : (fun W' => W'.heap[nb]? = some (.cells #[.pointer (some ⟨A.c, 0, none⟩), .string ⟨nm.toArray⟩, .slice ua un uc, .slice ta tn tc, .slice la ln lc, .slice ia jn ic, .int .i64 at_, dv] 80 (0, 0))) w2 := (fun v w' (h : v = v ∧ _) => (h.2.block _ (gl hS0) (by simp)).trans hS0) undef w2 ⟨rfl, hR⟩
 have HR2 := ld hR
 clear h v hR
 (try simp only [Act.put, sA, sB, sC])
 have hce2 : w2.heap[w.heap.size]? = some fo := (HR2.out.block _ (gl HCe.out) (by simp)).trans HCe.out
 refine wpL_store (i := 10) w.heap.size #[.int .i64 ra, .int .i64 re] _ 63 63 _ _ (by kernel_rfl) rfl (by kernel_rfl) (by kernel_rfl) rfl rfl rfl hce2 (by kernel_rfl) rfl (by kernel_rfl) (fun w7 hh7 hg7 => ⟨?_, ?_⟩)
 ·exact (hg7.block nb (gl hS1) (by simp; omega)).trans hS1
 (try simp only [Act.put, sA, sB, sC])
 refine wpL_done (by kernel_rfl) ?_ _
 go_wp2
 (try simp only [Exit.inBlock, Exit.then])
 refine br hh7 Tryz.underlying63 ?_
 exact ⟨rfl, (HG1.out.trans HR2.out).andThen hg7 (fun j e => .inl (by cases e; exact Nat.le_refl _))⟩
end
open Go.RowKit Go.Maps Go.WideMaps
open Nam (St F)
def itPost (A : Adr) (w0 w : World) (r : (List (List UInt8) × F) × St) (o : Option Nat) (w' : World) : Prop :=
 Kp [A.b1, A.b2] w w' ∧ (r.1.2.2 = 0 → Ck w0 w' A r.2 ∧ ∃ k, o = some k ∧ w.heap.size ≤ k ∧ SetAt w' k r.1.1.length r.1.1 ∧ r.1.1.Nodup)
section
variable (A : Adr) (w0 w : World) (st : St) (ab sb nb ob : Nat) (qa ua ta la ia : Option Addr) (qn qc un uc tn tc ln lc jn ic : Nat) (nm : List UInt8) (at_ : Int)
end
open Go.RowKit Go.Maps Go.WideMaps
open Nam (St F)
structure Sv where
 nm : List UInt8
 ua : Option Addr
 un : Nat
 uc : Nat
 ta : Option Addr
 tn : Nat
 tc : Nat
 la : Option Addr
 ln : Nat
 lc : Nat
 ia : Option Addr
 jn : Nat
 ic : Nat
 at_ : Int
def DefAt (W : World) (n0 : Nat) (D : Option (List (List UInt8))) (dv : Value) : Prop := match D with
 | none => dv = .map none
 | some D => ∃ k, dv = .map (some k) ∧ n0 < k ∧ SetAt W k D.length D ∧ D.Nodup
theorem DefAt.kept {W W' : World} {n0 : Nat} {D : Option (List (List UInt8))} {dv : Value} {X : List Nat} (h : DefAt W n0 D dv) (hk : Kp X W W') (hX : ∀ k ∈ X, k ≤ n0 ∨ W.heap.size ≤ k) : DefAt W' n0 D dv := by
 cases D with
 | none => exact h
 | some D =>
  obtain ⟨k, h1, h2, h3, h4⟩ := h
  exact ⟨k, h1, h2, h3.keptK hk (fun e => by have := hX k e; have := h3.lt; omega), h4⟩
section
variable (A : Adr) (w0 : World) (ab sb ob nO n0 : Nat) (qa : Option Addr) (qn qc : Nat) (O : List (List UInt8 × Option Nat)) (v : Sv)
structure SPl : Prop where
 pa : A.c < n0 ∧ A.m < n0 ∧ A.b0 < n0 ∧ A.b1 < n0 ∧ A.b2 < n0
 pab : ab < n0 ∧ ab ∉ [A.c, A.m, A.b0, A.b1, A.b2] ∧ w0.heap.size ≤ ab
 psb : sb < n0 ∧ sb ∉ [A.c, A.m, A.b0, A.b1, A.b2] ∧ w0.heap.size ≤ sb
 pob : ob < n0 ∧ ob ∉ [A.c, A.m, A.b0, A.b1, A.b2] ∧ w0.heap.size ≤ ob
 ne : ab ≠ sb ∧ ob ≠ sb ∧ ab ≠ ob
variable {A w0 ab sb ob nO n0 qa qn qc O v}
end
section
variable (A : Adr) (w0 : World) (ab sb ob nO n0 : Nat) (qa : Option Addr) (qn qc : Nat) (O : List (List UInt8 × Option Nat)) (v : Sv) (hp : SPl A w0 ab sb ob n0)
include hp
end
open Go.RowKit Go.Maps Go.WideMaps
open Nam (St F)
theorem bs2 (w : World) (o p : Obj) : w.grownBy ((w.alloc o).alloc p) none := galloc (ga w o none) p
open Go.RowKit Go.Maps Go.WideMaps
open Nam (St F)
theorem stateAt {w : World} {B : Nat} {E : List Nat} {L cap t : Nat} {a : Option Addr} {ss : List Gram.State} {nm : List UInt8} {us ut : List Gram.Trans} {ls : List Gram.Var} {its : List Gram.Item} {at_ : Int} (h : RepC w B E (.l 119 6 (statesD ss)) (.slice a L cap)) (hx : ss[t]? = some (.mk nm us ut ls its at_)) :
  ∃ g ua un uc ta tn tc la ln lc ia jn ic, a = some ⟨g, 0, none⟩ ∧ (w.cell? ⟨g, t * 6, none⟩ = some (.string ⟨nm.toArray⟩) ∧ w.cell? ⟨g, t * 6 + 1, none⟩ = some (.slice ua un uc) ∧ w.cell? ⟨g, t * 6 + 2, none⟩ = some (.slice ta tn tc) ∧ w.cell? ⟨g, t * 6 + 3, none⟩ = some (.slice la ln lc) ∧ w.cell? ⟨g, t * 6 + 4, none⟩ = some (.slice ia jn ic) ∧ w.cell? ⟨g, t * 6 + 5, none⟩ = some (.int .i64 at_)) ∧
   RepC w B E (.l 139 12 (us.map transD)) (.slice ua un uc) ∧ RepC w B E (.l 139 12 (ut.map transD)) (.slice ta tn tc) ∧ RepC w B E (.l 112 5 (ls.map varD)) (.slice la ln lc) ∧ RepC w B E (.l 40 12 (itemsD its)) (.slice ia jn ic) := by
 rw [statesD_map] at h
 obtain ⟨g, vs, ha, hr, hq⟩ := nRowAt h (nMap stateD (fun x => by cases x; rfl) ss) t (nAt stateD hx)
 simp only [stateD] at hr
 obtain ⟨r1, rfl, h_1⟩ := RepRow.cInv hr
 obtain ⟨ua, un, uc, r2, rfl, k1, h_2⟩ := h_1.lInv
 obtain ⟨ta, tn, tc, r3, rfl, k2, h_3⟩ := h_2.lInv
 obtain ⟨la, ln, lc, r4, rfl, k3, h_4⟩ := h_3.lInv
 obtain ⟨ia, jn, ic, r5, rfl, k4, h_5⟩ := h_4.lInv
 obtain ⟨r6, rfl, h_6⟩ := h_5.cInv
 exact ⟨g, ua, un, uc, ta, tn, tc, la, ln, lc, ia, jn, ic, ha, ⟨by have := hq 0 _ rfl; rwa [Nat.add_zero] at this, hq 1 _ rfl, hq 2 _ rfl, hq 3 _ rfl, hq 4 _ rfl, hq 5 _ rfl⟩, k1, k2, k3, k4⟩
theorem statesLen {w : World} {B : Nat} {E : List Nat} {L cap : Nat} {a : Option Addr} {ss : List Gram.State} (h : RepC w B E (.l 119 6 (statesD ss)) (.slice a L cap)) : L = ss.length ∧ L ≤ maxLen := by
 have := nLen h
 rwa [statesD_map, List.length_map] at this
open Go.RowKit Go.Maps Go.WideMaps
open Nam (St F)
theorem results_tmp_cell {P : Program} {fn : Func} {p u : Tmp} {ty : TypeId} (h : fn.results = #[.tmp u, .cell p ty]) (tmps : Array Value) (w : World) (g : Nat) (t : TypeId) (cs : Array Value) (fr : Nat × Nat) (d : TypeDesc) (v : Value) (hv : tmps.getD u undef = v)
  (hp : tmps.getD p undef = .pointer (some ⟨g, 0, none⟩)) (hg : w.heap[g]? = some (.cells cs t fr))
  (hu : P.underlying ty = some d) (hd : (match d with | .struct _ | .array _ _ => true | _ => false) = true) (hi : (P.info? ty).map (·.size) = some cs.size) :
  (results fn tmps).run P w = .ok (.tuple #[v, .agg cs]) w := by
 have hp' : tmps[p]?.getD undef = .pointer (some ⟨g, 0, none⟩) := by simpa using hp
 have hv' : tmps[u]?.getD undef = v := by simpa using hv
 simp [results, h, hp', hv', asAddr, run_loadVar_row w g t ty cs fr d hg hu hd hi]
section
variable (A : Adr) (w0 : World) (ab ob n0 : Nat) (qa : Option Addr) (qn qc : Nat) (ss : List Gram.State)
variable {A w0 ab ob n0 qa qn qc ss}
end
open Go.RowKit Go.Maps Go.WideMaps
open Nam (St F)
theorem itemAt {w : World} {B : Nat} {E : List Nat} {L cap t : Nat} {a : Option Addr} {its : List Gram.Item} {ns : List (List UInt8)} {e : Gram.Exp} {ss : List Gram.State} {at_ : Int} (h : RepC w B E (.l 40 12 (itemsD its)) (.slice a L cap)) (hx : its[t]? = some (.mk ns e ss at_)) :
  ∃ g na nn nc ka kn kc qa qn qc, a = some ⟨g, 0, none⟩ ∧ RepC w B E (.l 9 1 (ns.map nameD)) (.slice na nn nc) ∧ KidsX w B E e.kids (.slice ka kn kc) ∧ RepC w B E (.l 119 6 (statesD ss)) (.slice qa qn qc) ∧ ∀ k u, (.slice na nn nc :: (expCells e (.slice ka kn kc) ++ [.slice qa qn qc, .int .i64 at_]))[k]? = some u → w.cell? ⟨g, t * 12 + k, none⟩ = some u := by
 rw [itemsD_map] at h
 obtain ⟨g, us, ha, hr, hq⟩ := nRowAt h (nMap itemD (fun x => by obtain ⟨_, e, _, _⟩ := x; cases e; rfl) its) t (nAt itemD hx)
 simp only [itemD] at hr
 obtain ⟨na, nn, nc, r1, rfl, k1, h_1⟩ := hr.lInv
 obtain ⟨u1, u2, rfl, h1, h2⟩ := RepRow.appInv h_1
 obtain ⟨p, q, r, rfl, hk⟩ := expInv h1
 obtain ⟨qa, qn, qc, r2, rfl, k2, h_2⟩ := h2.lInv
 obtain ⟨r3, rfl, h_3⟩ := h_2.cInv
 obtain rfl := h_3.nInv
 exact ⟨g, na, nn, nc, p, q, r, qa, qn, qc, ha, k1, hk, k2, hq⟩
theorem nameAt {w : World} {B : Nat} {E : List Nat} {L cap t : Nat} {a : Option Addr} {ns : List (List UInt8)} {s : List UInt8} (h : RepC w B E (.l 9 1 (ns.map nameD)) (.slice a L cap)) (hx : ns[t]? = some s) : ∃ g, a = some ⟨g, 0, none⟩ ∧ w.cell? ⟨g, t, none⟩ = some (.string ⟨s.toArray⟩) := by
 obtain ⟨g, us, ha, hr, hq⟩ := nRowAt h (nMap nameD (fun _ => rfl) ns) t (nAt nameD hx)
 unfold nameD at hr
 obtain ⟨r1, rfl, h_1⟩ := RepRow.cInv hr
 have := hq 0 _ rfl
 rw [Nat.mul_one, Nat.add_zero] at this
 exact ⟨g, ha, this⟩
theorem eqNames_nodup {a : Int} {st : St} : ∀ {ns D : List (List UInt8)} {x : F × List (List UInt8)}, Nam.eqNames a st ns D = some x → D.Nodup → x.2.Nodup
 | [], D, x, h, hD => by unfold Nam.eqNames at h; cases h; exact hD
 | s :: r, D, x, h, hD => by
  unfold Nam.eqNames at h
  split at h
  ·split at h
   ·split at h
    ·cases h; exact hD
    ·rename_i hn
     have hn2 : s ∉ D := by simpa using hn
     exact eqNames_nodup h (List.nodup_append.2 ⟨hD, by simp, fun a ha b hb => by simp at hb; subst hb; exact fun e => hn2 (e ▸ ha)⟩)
   ·cases h; exact hD
  ·cases h
theorem lNames_any (A : Adr) (w0 w : World) (st : St) (lb db : Nat) (na ka qa : Option Addr) (nn nc kn kc qn qc : Nat) (f1 s1 tk1 tl1 n1 m1 a1 at_ : Int) (nm1 : List UInt8) (ns D : List (List UInt8)) (h : Ck w0 w A st) (hlb : w.heap[lb]? = some (.cells #[.pointer (some ⟨A.c, 0, none⟩), .slice na nn nc, .int .i64 f1, .int .i64 s1, .string ⟨nm1.toArray⟩, .int .i64 tk1, .int .i64 tl1, .int .i64 n1, .int .i64 m1, .slice ka kn kc, .int .i64 a1, .slice qa qn qc, .int .i64 at_, .map (some db)] 115 (0, 0))) (hv : RepC w0 0 [] (.l 9 1 (ns.map nameD)) (.slice na nn nc)) (hD : SetAt w db D.length D) (hne : lb ≠ db) (hd0 : w0.heap.size ≤ db) (hdA : db ∉ [A.c, A.m, A.b0, A.b1, A.b2]) (ra re : Int) (D' : List (List UInt8)) (hr : Nam.eqNames at_ st ns D = some ((ra, re), D')) :
  Calls Tryz.prog 81 #[.pointer (some ⟨lb, 0, none⟩)] w fun e w' => e = .returned (.agg #[.int .i64 ra, .int .i64 re]) ∧ Kp [db] w w' ∧ (re = 0 → SetAt w' db D'.length D') := by
 obtain ⟨hL, hLm⟩ := nLen hv
 rw [List.length_map] at hL
 unfold maxLen at hLm
 have hla := (gl hlb)
 have hld := hD.lt
 have y1 := cell_of_row w _ 1 _ _ _ hlb
 have HL := ld hL
 have HR := ld hr
 have HH := ld h
 have HD := ld hD
 have HLB := ld hlb
 clear hL hr h hD hlb
 go_enter Tryz.func81, Tryz.ntmps81
 go_wp2
 go_loopw [11] (fun iv wr => ∃ (t : Nat) (D1 : List (List UInt8)), t ≤ nn ∧ iv = .int .i64 (t : Int) ∧ Hid (Kp [db] w wr ∧ SetAt wr db D1.length D1 ∧ wr.heap[w.heap.size]? = some fo ∧ Nam.eqNames at_ st (ns.drop t) D1 = some ((ra, re), D'))) (fun i _ => nn - (intOf i).toNat)
 case atStart => exact ⟨0, D, Nat.zero_le _, rfl, ld ⟨Kp.of0 (ga _ _ _) _, HD.out.kept (ga _ _ _), heap_alloc_new w fo, HR.out⟩⟩
 case round =>
  clear y1
  obtain ⟨t, D1, ht, rfl, HG⟩ := hrel
  obtain ⟨hkp, hset, hcell, hm⟩ := HG.out
  clear HG HR
  have hck : Ck w0 wr A st := HH.out.keptK hkp (by simp only [List.mem_singleton]; rintro k rfl; exact ⟨hd0, hdA⟩)
  have hlbr := hkp.at HLB.out (by simpa using hne)
  have hsz := (gl hcell)
  by_cases hlt : t < nn
  ·obtain ⟨s, hx⟩ : ∃ s, ns[t]? = some s := ⟨_, List.getElem?_eq_getElem (by rw [← HL.out]; exact hlt)⟩
   rw [drop_at hx] at hm
   unfold Nam.eqNames at hm
   obtain ⟨g, rfl, u0⟩ := nameAt (RepC.kept hck.base (fun k e => by cases e) hv) hx
   by_cases hs : (Nam.short s && decide (D1.length < 1000000)) = true
   ·rw [if_pos hs] at hm
    rw [Bool.and_eq_true, decide_eq_true_eq] at hs
    have hh1 := has_any (some A.b2) st.cnt st.owns s hs.1 wr hck.s2
    have hh2 := fun V (hV : wr.grownBy V none) => has_any (some db) D1.length D1 s hs.1 V (hset.kept hV)
    have b0 := cell_of_row wr _ 0 _ _ _ hlbr
    have b12 := cell_of_row wr _ 12 _ _ _ hlbr
    have b13 := cell_of_row wr _ 13 _ _ _ hlbr
    have bc := hck.cell
    have hlk := hck.mm.look.2.2
    have HC := ld (And.intro hck (And.intro hkp (And.intro hset hcell)))
    have HS := ld hs
    unfold strV at hh1 hh2
    have hlb2 := (gl hlbr)
    clear hck hkp hset hcell hx hlbr
    cases q1 : st.owns.contains s with
    | false =>
     rw [q1] at hm hh1
     rw [if_neg (by decide)] at hm
     have HM := ld (Option.some.inj hm)
     clear hm q1 hh2 b13
     go_wp2_with (go_at_call 51; refine hh1.mono ?_; rintro e w1 ⟨rfl, hg1⟩; have b0 := hg1.cell b0 (by simp); have b12 := hg1.cell b12 (by simp); have hce1 := (hg1.block _ hsz (by simp)).trans HC.out.2.2.2; refine Hid.out ?_)
     refine ld ?_
     go_wp2_with (with_reducible refine hold_st 2 ?_)
     refine ld ?_
     refine sg hce1 ?_
     intro w7 hh7 hg7
     go_wp2
     (try simp only [Exit.inBlock, Exit.then])
     refine br hh7 Tryz.underlying63 ?_
     obtain ⟨e1, _⟩ := Prod.mk.inj HM.out
     cases e1
     exact ⟨rfl, (HC.out.2.1.trans (Kp.of0 hg1 _)).trans' hg7 (Nat.le_refl _), fun e => by simp at e⟩
    | true =>
     rw [q1] at hm hh1
     rw [if_pos rfl] at hm
     clear q1
     cases q2 : D1.contains s with
     | true =>
      rw [q2] at hm hh2
      rw [if_pos rfl] at hm
      have HM := ld (Option.some.inj hm)
      have HH2 := ld hh2
      clear hm q2 hh2
      go_wp2_with (first | (go_at_call 51; with_reducible refine hh1.mono ?_; rintro e w1 ⟨rfl, hg1⟩; have b0 := hg1.cell b0 (by simp); have b12 := hg1.cell b12 (by simp); have b13 := hg1.cell b13 (by simp)) | (go_at_call 51; refine (HH2.out _ hg1).mono ?_; rintro e w2 ⟨rfl, hg2⟩; have b0 := hg2.cell b0 (by simp); have b12 := hg2.cell b12 (by simp); have hce1 := ((hg1.trans hg2).block _ hsz (by simp)).trans HC.out.2.2.2; refine Hid.out ?_))
      refine ld ?_
      go_wp2_with (with_reducible refine hold_st 2 ?_)
      refine ld ?_
      refine sg hce1 ?_
      intro w7 hh7 hg7
      go_wp2
      (try simp only [Exit.inBlock, Exit.then])
      refine br hh7 Tryz.underlying63 ?_
      obtain ⟨e1, _⟩ := Prod.mk.inj HM.out
      cases e1
      exact ⟨rfl, (HC.out.2.1.trans (Kp.of0 (hg1.trans hg2) _)).trans' hg7 (Nat.le_refl _), fun e => by simp at e⟩
     | false =>
      rw [q2] at hm hh2
      rw [if_neg (by decide)] at hm
      have hh3 := fun V (hV : wr.grownBy V none) => add_any db D1.length D1 s HS.out.1 q2 (by omega) V (HC.out.2.2.1.kept hV)
      unfold strV at hh3
      have HM := ld hm
      have HH2 := ld hh2
      have HH3 := ld hh3
      clear hm q2 hh2 hh3
      go_wp2_with (first | (go_at_call 51; with_reducible refine hh1.mono ?_; rintro e w1 ⟨rfl, hg1⟩; have b0 := hg1.cell b0 (by simp); have b13 := hg1.cell b13 (by simp)) | (go_at_call 51; refine (HH2.out _ hg1).mono ?_; rintro e w2 ⟨rfl, hg2⟩; have b13 := hg2.cell b13 (by simp); have hg12 := hg1.trans hg2) | (go_at_call 57; refine (HH3.out _ hg12).mono ?_; rintro e w3 ⟨rfl, hset3, hg3⟩))
      have hk3 : Kp [db] wr w3 := (Kp.of0 hg12 _).trans (Kp.of hg3 _ (fun k e _ => by cases e; simp))
      refine ⟨⟨t + 1, D1 ++ [s], by omega, by go_num, ld ⟨HC.out.2.1.trans hk3, by rw [List.length_append]; exact hset3, hk3.at HC.out.2.2.2 (by simp; omega), HM.out⟩⟩, by simp [intOf]; omega⟩
   ·rw [if_neg hs] at hm; cases hm
  ·have e : t = nn := by omega
   subst e
   rw [List.drop_eq_nil_of_le (by rw [← HL.out]; exact Nat.le_refl _)] at hm
   unfold Nam.eqNames at hm
   have HM := ld (Option.some.inj hm)
   clear hm
   go_wp2_with (with_reducible refine hold_st 2 ?_)
   refine ld ?_
   refine sg hcell ?_
   intro w7 hh7 hg7
   go_wp2
   (try simp only [Exit.inBlock, Exit.then])
   refine br hh7 Tryz.underlying63 ?_
   obtain ⟨e1, e2⟩ := Prod.mk.inj HM.out
   cases e1
   cases e2
   exact ⟨rfl, hkp.trans' hg7 (Nat.le_refl _), fun _ => hset.keptK (Kp.of hg7 [w.heap.size] (fun i e _ => by cases e; simp)) (by simp; omega)⟩
theorem lValue_any (A : Adr) (w0 w : World) (st : St) (lb db : Nat) (na ka qa : Option Addr) (nn nc kn kc qn qc : Nat) (f1 s1 tk1 tl1 n1 m1 a1 at_ : Int) (nm1 : List UInt8) (ks1 : List Gram.Exp) (h : Ck w0 w A st) (hlb : w.heap[lb]? = some (.cells #[.pointer (some ⟨A.c, 0, none⟩), .slice na nn nc, .int .i64 f1, .int .i64 s1, .string ⟨nm1.toArray⟩, .int .i64 tk1, .int .i64 tl1, .int .i64 n1, .int .i64 m1, .slice ka kn kc, .int .i64 a1, .slice qa qn qc, .int .i64 at_, .map (some db)] 115 (0, 0))) (hk : KidsX w0 0 [] ks1 (.slice ka kn kc)) (ra re : Int) (hr : Nam.expression st (.mk f1 s1 nm1 tk1 tl1 n1 m1 ks1 a1) = some (ra, re)) :
  Calls Tryz.prog 82 #[.pointer (some ⟨lb, 0, none⟩)] w fun e w' => e = .returned (.agg #[.int .i64 ra, .int .i64 re]) ∧ w.grownBy w' none := by
 obtain ⟨W1, hW1⟩ : ∃ W1, W1 = w.alloc fo := ⟨_, rfl⟩
 have hg1 : w.grownBy W1.drew none := by rw [hW1]; exact gdrew (ga w fo none)
 have hce : W1.drew.heap[w.heap.size]? = some fo := by rw [hW1]; exact heap_alloc_new w fo
 have hll := (gl hlb)
 have hS0 : (fun W' => W'.heap[lb]? = some (.cells #[.pointer (some ⟨A.c, 0, none⟩), .slice na nn nc, .int .i64 f1, .int .i64 s1, .string ⟨nm1.toArray⟩, .int .i64 tk1, .int .i64 tl1, .int .i64 n1, .int .i64 m1, .slice ka kn kc, .int .i64 a1, .slice qa qn qc, .int .i64 at_, .map (some db)] 115 (0, 0))) W1.drew := (hg1.block _ hll (by simp)).trans hlb
 have hcall := expression_any A st w0 (.mk f1 s1 nm1 tk1 tl1 n1 m1 ks1 a1) ka kn kc hk W1.drew (h.kept hg1) (ra, re) hr
 simp only [fv, expCells] at hcall
 have HF := ld hW1
 have HG := ld hg1
 clear hW1 hg1 hlb h hr hk
 go_enter Tryz.func82, Tryz.ntmps82
 go_wp2
 rw [show (Obj.cells #[Value.int .i64 0, Value.int .i64 0] 63) = fo from rfl, ← HF.out]
 refine wp_region_L2 (S := fun W' => W'.heap[lb]? = some (.cells #[.pointer (some ⟨A.c, 0, none⟩), .slice na nn nc, .int .i64 f1, .int .i64 s1, .string ⟨nm1.toArray⟩, .int .i64 tk1, .int .i64 tl1, .int .i64 n1, .int .i64 m1, .slice ka kn kc, .int .i64 a1, .slice qa qn qc, .int .i64 at_, .map (some db)] 115 (0, 0))) (by kernel_rfl) ?_
 clear HF
 refine t1 0 3 (.pointer (some ⟨lb, 0, none⟩)) hS0 ?_
 (try simp only [Act.put, sA, sB, sC])
 refine t1 1 4 (.pointer (some ⟨lb, 0, none⟩)) hS0 ?_
 (try simp only [Act.put, sA, sB, sC])
 refine t1 2 5 (.pointer (some ⟨lb, 0, none⟩)) hS0 ?_
 (try simp only [Act.put, sA, sB, sC])
 refine t2 3 6 (.pointer (some ⟨A.c, 0, none⟩)) (fun w' hw' => ?_) hS0 ?_
 ·have hc0 := cell_of_row w' _ 0 _ _ _ (hw'); clear hw'; go_simp
 (try simp only [Act.put, sA, sB, sC])
 refine t1 4 7 (.pointer (some ⟨lb, 0, none⟩)) hS0 ?_
 (try simp only [Act.put, sA, sB, sC])
 refine t1 5 8 (.pointer (some ⟨lb, 0, none⟩)) hS0 ?_
 (try simp only [Act.put, sA, sB, sC])
 refine t1 6 9 (.pointer (some ⟨lb, 1, none⟩)) hS0 ?_
 (try simp only [Act.put, sA, sB, sC])
 refine t1 7 10 (.pointer (some ⟨lb, 2, none⟩)) hS0 ?_
 (try simp only [Act.put, sA, sB, sC])
 refine t2 8 11 (.agg #[.int .i64 f1, .int .i64 s1, .string ⟨nm1.toArray⟩, .int .i64 tk1, .int .i64 tl1, .int .i64 n1, .int .i64 m1, .slice ka kn kc, .int .i64 a1]) (fun w' hw' => ?_) hS0 ?_
 ·have hc0 := cell_of_row w' _ 2 _ _ _ (hw'); have hc1 := cell_of_row w' _ 3 _ _ _ (hw'); have hc2 := cell_of_row w' _ 4 _ _ _ (hw'); have hc3 := cell_of_row w' _ 5 _ _ _ (hw'); have hc4 := cell_of_row w' _ 6 _ _ _ (hw'); have hc5 := cell_of_row w' _ 7 _ _ _ (hw'); have hc6 := cell_of_row w' _ 8 _ _ _ (hw'); have hc7 := cell_of_row w' _ 9 _ _ _ (hw'); have hc8 := cell_of_row w' _ 10 _ _ _ (hw'); clear hw'; go_simp
 (try simp only [Act.put, sA, sB, sC])
 refine wpL_call (i := 9) (d := 12) (R := fun v w' => v = .agg #[.int .i64 ra, .int .i64 re] ∧ W1.drew.grownBy w' none) (by kernel_rfl) rfl (by kernel_rfl) (by kernel_rfl) (by kernel_rfl) (hcall.mono fun e w' he => ⟨_, he.1, rfl, he.2⟩) (fun v w' h => (h.2.block _ (gl hS0) (by simp)).trans hS0) (fun v w2 h => ?_)
 rw [h.1]
 have hg2 := h.2
 have hS2 := (hg2.block _ (gl hS0) (by simp)).trans hS0
 have hce2 := (hg2.block _ (gl hce) (by simp)).trans hce
 clear h v
 (try simp only [Act.put, sA, sB, sC])
 refine wpL_store (i := 10) w.heap.size #[.int .i64 ra, .int .i64 re] _ 63 _ _ _ (by kernel_rfl) rfl (by kernel_rfl) rfl rfl rfl rfl hce2 (by kernel_rfl) rfl (by simp [Value.oneCell']) ?_
 intro w7 hh7 hg7
 refine ⟨(hg7.block _ (gl hS2) (by simp; omega)).trans hS2, ?_⟩
 (try simp only [Act.put, sA, sB, sC])
 refine wpL_done (by kernel_rfl) ?_ _
 go_wp2
 (try simp only [Exit.inBlock, Exit.then])
 refine br hh7 Tryz.underlying63 ?_
 exact ⟨rfl, (HG.out.trans hg2).andThen hg7 (fun j e => .inl (by cases e; exact Nat.le_refl _))⟩
open Go.RowKit Go.Maps Go.WideMaps
open Nam (St F)
def lK1 (at_ : Int) (st : St) (ns : List (List UInt8)) (D : List (List UInt8)) : Option (F × List (List UInt8)) := match Nam.eqNames at_ st ns D with | none => none | some x => some (x.1, x.2)
def lK2 (st : St) (e : Gram.Exp) (D : List (List UInt8)) : Option (F × List (List UInt8)) := match Nam.expression st e with | none => none | some y => some (y, D)
theorem expression_zero {st : St} {e : Gram.Exp} {y : F} (h : Nam.expression st e = some y) (h0 : y.2 = 0) : y = (0, 0) := by
 unfold Nam.expression at h
 split at h
 ·split at h
  ·cases h; simp at h0
  ·split at h
   ·cases h; simp at h0
   ·cases h; rfl
 ·cases h
theorem item_ord {f : Nat} {ns : List (List UInt8)} {e : Gram.Exp} {a : Int} {D D' : List (List UInt8)} {st r2 : St} {x : F} (h : Nam.item (Nam.items f) (.mk ns e [] a) D st = some ((D', x), r2)) :
  ∃ s', Nam.inOrder [lK1 a st ns, lK2 st e] D = some (x, s') ∧ (x.2 = 0 → s' = D' ∧ r2 = st ∧ (D.Nodup → D'.Nodup)) := by
 rw [Nam.item, if_pos (show ([] : List Gram.State).isEmpty = true from rfl)] at h
 unfold Nam.inOrder Nam.inOrder Nam.inOrder
 simp only [lK1, lK2]
 cases h1 : Nam.eqNames a st ns D with
 | none => rw [h1] at h; cases h
 | some y =>
  rw [h1] at h
  simp only at h ⊢
  by_cases z1 : y.1.2 = 0
  ·rw [if_pos z1] at h ⊢
   cases h2 : Nam.expression st e with
   | none => rw [h2] at h; cases h
   | some z =>
    rw [h2] at h
    simp only at h ⊢
    obtain ⟨⟨e0, e1⟩, e2⟩ : (y.2 = D' ∧ z = x) ∧ st = r2 := by have := Option.some.inj h; simp only [Prod.mk.injEq] at this ⊢; exact this
    subst e0 e1 e2
    by_cases z3 : z.2 = 0
    ·rw [if_pos z3]
     have := expression_zero h2 z3
     subst this
     exact ⟨_, rfl, fun _ => ⟨rfl, rfl, fun hn => eqNames_nodup h1 hn⟩⟩
    ·rw [if_neg z3]
     exact ⟨_, rfl, fun e => absurd e z3⟩
  ·rw [if_neg z1] at h ⊢
   obtain ⟨⟨e0, e1⟩, e2⟩ : ([] = D' ∧ y.1 = x) ∧ st = r2 := by have := Option.some.inj h; simp only [Prod.mk.injEq] at this ⊢; exact this
   subst e1
   exact ⟨_, rfl, fun e => absurd e z1⟩
section
variable (A : Adr) (w0 : World) (st : St) (lb db : Nat) (lo : Obj)
def LInv (D : List (List UInt8)) (W : World) : Prop := Ck w0 W A st ∧ W.heap[lb]? = some lo ∧ SetAt W db D.length D
variable {A w0 st lb db lo}
theorem LInv.keptN {D : List (List UInt8)} {a b : World} {n : Nat} (h : LInv A w0 st lb db lo D a) (hg : a.grownBy b (some n)) (h1 : w0.heap.size ≤ n ∧ n ∉ [A.c, A.m, A.b0, A.b1, A.b2]) (h2 : lb ≠ n) (h3 : db ≠ n) : LInv A w0 st lb db lo D b := by
 have hk : Kp [n] a b := Kp.of hg _ (fun k e _ => by cases e; simp)
 exact ⟨h.1.keptB hg h1, hk.at h.2.1 (by simpa using h2), h.2.2.keptK hk (by simpa using h3)⟩
end
open Go.RowKit Go.Maps Go.WideMaps
open Nam (St F)
def setAll (C : Array Value) : Nat → List Value → Array Value
 | _, [] => C
 | o, v :: r => setAll (C.setIfInBounds o v) (o + 1) r
theorem setCell_row {w : World} {b : Nat} {C : Array Value} {t : TypeId} {fr : Nat × Nat} (h : w.heap[b]? = some (.cells C t fr)) (o : Nat) (v : Value) : (w.setCell ⟨b, o, none⟩ v).heap[b]? = some (.cells (C.setIfInBounds o v) t fr) := by
 simp [World.setCell, Array.getElem?_modify, h]
theorem grown_setCell (w : World) (b o : Nat) (v : Value) : w.grownBy (w.setCell ⟨b, o, none⟩ v) (some b) := by
 refine ⟨rfl, rfl, rfl, by simp [World.setCell], fun k _ hk => ?_⟩
 have hne : b ≠ k := fun e => hk (by rw [e])
 simp [World.setCell, Array.getElem?_modify, hne]
theorem setCells_row : ∀ (vs : List Value) (o : Nat) {w : World} {b : Nat} {C : Array Value} {t : TypeId} {fr : Nat × Nat}, w.heap[b]? = some (.cells C t fr) → (w.setCells b o vs).heap[b]? = some (.cells (setAll C o vs) t fr) ∧ w.grownBy (w.setCells b o vs) (some b)
 | [], o, w, b, C, t, fr, h => ⟨h, World.grownBy.refl _ _⟩
 | v :: r, o, w, b, C, t, fr, h => by
  obtain ⟨h1, h2⟩ := setCells_row r (o + 1) (setCell_row h o v)
  exact ⟨h1, (grown_setCell w b o v).andThen h2 (fun j e => .inr e)⟩
open Go.RowKit Go.Maps Go.WideMaps
open Nam (St F)
theorem nName_any (A : Adr) (w0 w : World) (st : St) (nb : Nat) (ua ta la ia : Option Addr) (un uc tn tc ln lc jn ic : Nat) (nm : List UInt8) (at_ : Int) (dv : Value) (hnb : w.heap[nb]? = some (.cells #[.pointer (some ⟨A.c, 0, none⟩), .string ⟨nm.toArray⟩, .slice ua un uc, .slice ta tn tc, .slice la ln lc, .slice ia jn ic, .int .i64 at_, dv] 80 (0, 0))) (h : Ck w0 w A st) (hs : Nam.short nm = true) :
  Calls Tryz.prog 35 #[.pointer (some ⟨nb, 0, none⟩)] w fun e w' => e = .returned (fv (if st.nodes.contains nm then (at_, 20) else (0, 0))) ∧ w.grownBy w' none := by
 obtain ⟨W1, hW1⟩ : ∃ W1, W1 = w.alloc fo := ⟨_, rfl⟩
 have hg1 : w.grownBy W1.drew none := by rw [hW1]; exact gdrew (ga w fo none)
 have hce : W1.drew.heap[w.heap.size]? = some fo := by rw [hW1]; exact heap_alloc_new w fo
 have hS0 : (fun W' => W'.heap[nb]? = some (.cells #[.pointer (some ⟨A.c, 0, none⟩), .string ⟨nm.toArray⟩, .slice ua un uc, .slice ta tn tc, .slice la ln lc, .slice ia jn ic, .int .i64 at_, dv] 80 (0, 0)) ∧ W'.heap[A.c]? = some (.cells #[.map (some A.m)] 77 (0, 0)) ∧ Mm W' A) W1.drew := ⟨(hg1.block _ (gl hnb) (by simp)).trans hnb, (h.kept hg1).cc, (h.kept hg1).mm⟩
 have hS2 : ∀ V, W1.drew.grownBy V none → (fun W' => W'.heap[nb]? = some (.cells #[.pointer (some ⟨A.c, 0, none⟩), .string ⟨nm.toArray⟩, .slice ua un uc, .slice ta tn tc, .slice la ln lc, .slice ia jn ic, .int .i64 at_, dv] 80 (0, 0)) ∧ W'.heap[A.c]? = some (.cells #[.map (some A.m)] 77 (0, 0)) ∧ Mm W' A) V := fun V hV => ⟨(hV.block _ (gl hS0.1) (by simp)).trans hS0.1, ((h.kept hg1).kept hV).cc, ((h.kept hg1).kept hV).mm⟩
 have hcall := has_any (some A.b0) st.cnt st.nodes nm hs W1.drew (h.kept hg1).s0
 unfold strV at hcall
 have HF := ld hW1
 have HG := ld hg1
 have HS2 := ld hS2
 clear hW1 hg1 hnb h hS2
 cases q : st.nodes.contains nm with
 | true =>
  rw [q] at hcall
  simp only [fv, if_pos, if_neg, Bool.false_eq_true, if_false]
  go_enter Tryz.func35, Tryz.ntmps35
  go_wp2
  rw [show (Obj.cells #[Value.int .i64 0, Value.int .i64 0] 63) = fo from rfl, ← HF.out]
  refine wp_region_L2 (S := fun W' => W'.heap[nb]? = some (.cells #[.pointer (some ⟨A.c, 0, none⟩), .string ⟨nm.toArray⟩, .slice ua un uc, .slice ta tn tc, .slice la ln lc, .slice ia jn ic, .int .i64 at_, dv] 80 (0, 0)) ∧ W'.heap[A.c]? = some (.cells #[.map (some A.m)] 77 (0, 0)) ∧ Mm W' A) (by kernel_rfl) ?_
  clear HF
  refine t1 0 3 (.pointer (some ⟨nb, 0, none⟩)) hS0 ?_
  (try simp only [Act.put, sA, sB, sC])
  refine t1 1 4 (.pointer (some ⟨nb, 0, none⟩)) hS0 ?_
  (try simp only [Act.put, sA, sB, sC])
  refine t1 2 5 (.pointer (some ⟨nb, 0, none⟩)) hS0 ?_
  (try simp only [Act.put, sA, sB, sC])
  refine t2 3 6 (.pointer (some ⟨A.c, 0, none⟩)) (fun w' hw' => ?_) hS0 ?_
  ·have hc0 := cell_of_row w' _ 0 _ _ _ (hw'.1); clear hw'; go_simp
  (try simp only [Act.put, sA, sB, sC])
  refine t1 4 7 (.pointer (some ⟨A.c, 0, none⟩)) hS0 ?_
  (try simp only [Act.put, sA, sB, sC])
  refine t1 5 8 (.pointer (some ⟨A.c, 0, none⟩)) hS0 ?_
  (try simp only [Act.put, sA, sB, sC])
  refine t2 6 9 (.map (some A.m)) (fun w' hw' => ?_) hS0 ?_
  ·have hc0 := cell_of_row w' _ 0 _ _ _ (hw'.2.1); clear hw'; go_simp
  (try simp only [Act.put, sA, sB, sC])
  refine t2 7 10 (.map (some A.b0)) (fun w' hw' => ?_) hS0 ?_
  ·have hl := hw'.2.2.look.1; clear hw'; go_simp
  (try simp only [Act.put, sA, sB, sC])
  refine t1 8 11 (.pointer (some ⟨nb, 0, none⟩)) hS0 ?_
  (try simp only [Act.put, sA, sB, sC])
  refine t1 9 12 (.pointer (some ⟨nb, 0, none⟩)) hS0 ?_
  (try simp only [Act.put, sA, sB, sC])
  refine t1 10 13 (.pointer (some ⟨nb, 1, none⟩)) hS0 ?_
  (try simp only [Act.put, sA, sB, sC])
  refine t1 11 14 (.pointer (some ⟨nb, 1, none⟩)) hS0 ?_
  (try simp only [Act.put, sA, sB, sC])
  refine t2 12 15 (.string ⟨nm.toArray⟩) (fun w' hw' => ?_) hS0 ?_
  ·have hc0 := cell_of_row w' _ 1 _ _ _ (hw'.1); clear hw'; go_simp
  (try simp only [Act.put, sA, sB, sC])
  refine wpL_call (i := 13) (d := 16) (R := fun v w' => v = .bool true ∧ W1.drew.grownBy w' none) (by kernel_rfl) rfl (by kernel_rfl) (by kernel_rfl) (by kernel_rfl) (hcall.mono fun e w' he => ⟨_, he.1, rfl, he.2⟩) (fun v w' h => HS2.out _ h.2) (fun v w2 h => ?_)
  rw [h.1]
  have hg2 := h.2
  clear h v
  (try simp only [Act.put, sA, sB, sC])
  refine wpL_done (by kernel_rfl) ?_ _
  have hce2 := (hg2.block _ (gl hce) (by simp)).trans hce
  have y6 := cell_of_row w2 _ 6 _ _ _ (HS2.out _ hg2).1
  have y0 := cell_of_row w2 _ 0 _ _ _ (HS2.out _ hg2).1
  clear hS0 hcall hce q
  go_wp2_with (with_reducible refine hold_st 2 ?_)
  refine ld ?_
  refine sg hce2 ?_
  intro w7 hh7 hg7
  go_wp2
  (try simp only [Exit.inBlock, Exit.then])
  refine br hh7 Tryz.underlying63 ?_
  exact ⟨rfl, (HG.out.trans hg2).andThen hg7 (fun j e => .inl (by cases e; exact Nat.le_refl _))⟩
 | false =>
  rw [q] at hcall
  simp only [fv, if_pos, if_neg, Bool.false_eq_true, if_false]
  go_enter Tryz.func35, Tryz.ntmps35
  go_wp2
  rw [show (Obj.cells #[Value.int .i64 0, Value.int .i64 0] 63) = fo from rfl, ← HF.out]
  refine wp_region_L2 (S := fun W' => W'.heap[nb]? = some (.cells #[.pointer (some ⟨A.c, 0, none⟩), .string ⟨nm.toArray⟩, .slice ua un uc, .slice ta tn tc, .slice la ln lc, .slice ia jn ic, .int .i64 at_, dv] 80 (0, 0)) ∧ W'.heap[A.c]? = some (.cells #[.map (some A.m)] 77 (0, 0)) ∧ Mm W' A) (by kernel_rfl) ?_
  clear HF
  refine t1 0 3 (.pointer (some ⟨nb, 0, none⟩)) hS0 ?_
  (try simp only [Act.put, sA, sB, sC])
  refine t1 1 4 (.pointer (some ⟨nb, 0, none⟩)) hS0 ?_
  (try simp only [Act.put, sA, sB, sC])
  refine t1 2 5 (.pointer (some ⟨nb, 0, none⟩)) hS0 ?_
  (try simp only [Act.put, sA, sB, sC])
  refine t2 3 6 (.pointer (some ⟨A.c, 0, none⟩)) (fun w' hw' => ?_) hS0 ?_
  ·have hc0 := cell_of_row w' _ 0 _ _ _ (hw'.1); clear hw'; go_simp
  (try simp only [Act.put, sA, sB, sC])
  refine t1 4 7 (.pointer (some ⟨A.c, 0, none⟩)) hS0 ?_
  (try simp only [Act.put, sA, sB, sC])
  refine t1 5 8 (.pointer (some ⟨A.c, 0, none⟩)) hS0 ?_
  (try simp only [Act.put, sA, sB, sC])
  refine t2 6 9 (.map (some A.m)) (fun w' hw' => ?_) hS0 ?_
  ·have hc0 := cell_of_row w' _ 0 _ _ _ (hw'.2.1); clear hw'; go_simp
  (try simp only [Act.put, sA, sB, sC])
  refine t2 7 10 (.map (some A.b0)) (fun w' hw' => ?_) hS0 ?_
  ·have hl := hw'.2.2.look.1; clear hw'; go_simp
  (try simp only [Act.put, sA, sB, sC])
  refine t1 8 11 (.pointer (some ⟨nb, 0, none⟩)) hS0 ?_
  (try simp only [Act.put, sA, sB, sC])
  refine t1 9 12 (.pointer (some ⟨nb, 0, none⟩)) hS0 ?_
  (try simp only [Act.put, sA, sB, sC])
  refine t1 10 13 (.pointer (some ⟨nb, 1, none⟩)) hS0 ?_
  (try simp only [Act.put, sA, sB, sC])
  refine t1 11 14 (.pointer (some ⟨nb, 1, none⟩)) hS0 ?_
  (try simp only [Act.put, sA, sB, sC])
  refine t2 12 15 (.string ⟨nm.toArray⟩) (fun w' hw' => ?_) hS0 ?_
  ·have hc0 := cell_of_row w' _ 1 _ _ _ (hw'.1); clear hw'; go_simp
  (try simp only [Act.put, sA, sB, sC])
  refine wpL_call (i := 13) (d := 16) (R := fun v w' => v = .bool false ∧ W1.drew.grownBy w' none) (by kernel_rfl) rfl (by kernel_rfl) (by kernel_rfl) (by kernel_rfl) (hcall.mono fun e w' he => ⟨_, he.1, rfl, he.2⟩) (fun v w' h => HS2.out _ h.2) (fun v w2 h => ?_)
  rw [h.1]
  have hg2 := h.2
  clear h v
  (try simp only [Act.put, sA, sB, sC])
  refine wpL_done (by kernel_rfl) ?_ _
  have hce2 := (hg2.block _ (gl hce) (by simp)).trans hce
  have y6 := cell_of_row w2 _ 6 _ _ _ (HS2.out _ hg2).1
  have y0 := cell_of_row w2 _ 0 _ _ _ (HS2.out _ hg2).1
  clear hS0 hcall hce q
  go_wp2_with (with_reducible refine hold_st 2 ?_)
  refine ld ?_
  refine sg hce2 ?_
  intro w7 hh7 hg7
  go_wp2
  (try simp only [Exit.inBlock, Exit.then])
  refine br hh7 Tryz.underlying63 ?_
  exact ⟨rfl, (HG.out.trans hg2).andThen hg7 (fun j e => .inl (by cases e; exact Nat.le_refl _))⟩
open Go.RowKit Go.Maps Go.WideMaps
open Nam (St F)
def CCl (f : Nat) : Prop := ∀ (A : Adr) (w0 w : World) (st : St) (ls : List Gram.Var) (its : List Gram.Item) (a b : Option Addr) (L cap M capb : Nat) (ra re : Int) (r2 : St), Ck w0 w A st → RepC w0 0 [] (.l 112 5 (ls.map varD)) (.slice a L cap) → RepC w0 0 [] (.l 40 12 (itemsD its)) (.slice b M capb) → Nam.clocks f ls its st = some ((ra, re), r2) →
 Calls Tryz.prog 55 #[.pointer (some ⟨A.c, 0, none⟩), .slice a L cap, .slice b M capb] w fun e w' => e = .returned (.agg #[.int .i64 ra, .int .i64 re]) ∧ Kp [A.b1, A.b2] w w' ∧ (re = 0 → Ck w0 w' A r2)
theorem ccl_step (f : Nat) (hC : CCl f) : CCl (f + 1) := by
 intro A w0 w st ls its a b L cap M capb ra re r2 h hv hi hr
 unfold Nam.clocks at hr
 cases hx : Nam.clockVars st ls with
 | none => rw [hx] at hr; cases hr
 | some xr =>
 rw [hx] at hr
 obtain ⟨xa, xe⟩ := xr
 simp only at hr
 obtain ⟨hL, hLm⟩ := nLen hv
 rw [List.length_map] at hL
 obtain ⟨hM, hMm⟩ := nLen hi
 rw [itemsD_map, List.length_map] at hM
 unfold maxLen at hLm hMm
 have hlt := h.lt
 have hlm := h.mm.lt
 have hb := h.base.size
 have hlo := h.lo
 have HL := ld (And.intro hL hM)
 have HR := ld hr
 have HX := ld hx
 have HH := ld h
 clear hL hr h hM hx
 go_enter Tryz.func55, Tryz.ntmps55
 go_wp2
 go_loopw [16] (fun iv wr => ∃ t : Nat, t ≤ L ∧ iv = .int .i64 (t : Int) ∧ Hid (w.grownBy wr none ∧ wr.heap[w.heap.size]? = some fo ∧ Nam.clockVars st (ls.drop t) = some (xa, xe))) (fun i _ => L - (intOf i).toNat)
 case atStart => exact ⟨0, Nat.zero_le _, rfl, ld ⟨ga _ _ _, heap_alloc_new w fo, HX.out⟩⟩
 case round =>
  obtain ⟨t, ht, rfl, HG⟩ := hrel
  obtain ⟨hg, hcell, hm⟩ := HG.out
  clear HG HX
  have hsz := (gl hcell)
  by_cases hlt2 : t < L
  ·obtain ⟨x, hx⟩ : ∃ x, ls[t]? = some x := ⟨_, List.getElem?_eq_getElem (by rw [← HL.out.1]; exact hlt2)⟩
   rw [drop_at hx] at hm
   unfold Nam.clockVars at hm
   obtain ⟨g, p, q, r', rfl, c0, c1, c2, c3, c4, hc⟩ := varAt hv hx
   have hgb := HH.out.base.trans hg
   have c0 := hgb.cell c0 (by simp)
   have c1 := hgb.cell c1 (by simp)
   have c2 := hgb.cell c2 (by simp)
   have c3 := hgb.cell c3 (by simp)
   have c4 := hgb.cell c4 (by simp)
   cases hq : Nam.clock st x x.clock with
   | none => rw [hq] at hm; cases hm
   | some qb =>
   have hcl := clock_any A x p q r' st w0 (wr.alloc (.cells #[.string ⟨x.name.toArray⟩, .int .i64 x.tk, .int .i64 x.tl, .slice p q r', .int .i64 x.at_] 112)) qb ((HH.out.kept hg).kept (ga wr _ none)) hc hq
   rw [hq] at hm
   clear hgb hc hx hq
   cases qb with
   | true =>
    have HM := ld hm
    clear hm
    go_wp2_with (go_at_call 72; refine hcl.mono ?_; rintro e w1 ⟨rfl, hg1⟩)
    have hg2 : wr.grownBy w1 none := (ga wr _ none).trans hg1
    exact ⟨⟨t + 1, by omega, by go_num, ld ⟨hg.trans hg2, (hg2.block _ hsz (by simp)).trans hcell, HM.out⟩⟩, by simp [intOf]; omega⟩
   | false =>
    have HM := ld (Option.some.inj hm)
    clear hm
    go_wp2_with (go_at_call 72; refine hcl.mono ?_; rintro e w1 ⟨rfl, hg1⟩; have d4 := hg1.cell (cell_of_row _ _ 4 _ _ _ (heap_alloc_new wr _)) (by simp); refine Hid.out ?_)
    have hg2 : wr.grownBy w1 none := (ga wr _ none).trans hg1
    have hce1 := (hg2.block _ hsz (by simp)).trans hcell
    refine ld ?_
    go_wp2_with (with_reducible refine hold_st 6 ?_)
    refine ld ?_
    refine sg hce1 ?_
    intro w7 hh7 hg7
    go_wp2
    (try simp only [Exit.inBlock, Exit.then])
    refine br hh7 Tryz.underlying63 ?_
    cases HM.out
    have hq := HR.out
    rw [if_neg (by decide)] at hq
    obtain ⟨e1, e2⟩ : (x.at_, (21 : Int)) = (ra, re) ∧ st = r2 := by have := Option.some.inj hq; simp only [Prod.mk.injEq] at this ⊢; exact this
    cases e1
    exact ⟨rfl, (Kp.of0 (hg.trans hg2) _).trans' hg7 (Nat.le_refl _), fun e => by simp at e⟩
  ·have e : t = L := by omega
   subst e
   rw [List.drop_eq_nil_of_le (by rw [← HL.out.1]; exact Nat.le_refl _)] at hm
   unfold Nam.clockVars at hm
   cases Option.some.inj hm
   have hq := HR.out
   rw [if_pos rfl] at hq
   have HQ := ld hq
   have HG := ld (And.intro hg hcell)
   clear hm hq HR hg hcell
   go_wp2
   go_loopw [30] (fun iv wr => ∃ (t : Nat) (st1 : St), t ≤ M ∧ iv = .int .i64 (t : Int) ∧ Hid (Ck w0 wr A st1 ∧ Kp [A.b1, A.b2] w wr ∧ wr.heap[w.heap.size]? = some fo ∧ Nam.clocksL (Nam.clocks f) (its.drop t) st1 = some ((ra, re), r2))) (fun i _ => M - (intOf i).toNat)
   case atStart => exact ⟨0, st, Nat.zero_le _, rfl, ld ⟨HH.out.kept HG.out.1, Kp.of0 HG.out.1 _, HG.out.2, HQ.out⟩⟩
   case round =>
    clear HQ HG
    obtain ⟨t2, st1, ht2, rfl, HG⟩ := hrel
    obtain ⟨hck, hkp, hcell, hm⟩ := HG.out
    clear HG
    have hsz2 := (gl hcell)
    have hws := hkp.size
    by_cases hlt3 : t2 < M
    ·obtain ⟨x, hx⟩ : ∃ x, its[t2]? = some x := ⟨_, List.getElem?_eq_getElem (by rw [← HL.out.2]; exact hlt3)⟩
     obtain ⟨ns, e, ss, at_⟩ := x
     obtain ⟨f1, s1, nm1, tk1, tl1, n1, m1, ks1, a1⟩ := e
     rw [drop_at hx] at hm
     unfold Nam.clocksL at hm
     simp only [Nam.itStates] at hm
     obtain ⟨g2, na, nn, nc, ka, kn, kc, qa, qn, qc, rfl, k1, k2, k3, hq⟩ := itemAt hi hx
     simp only [expCells, List.cons_append, List.nil_append] at hq
     have u0 := hck.base.cell (hq 0 _ rfl) (by simp)
     have u1 := hck.base.cell (hq 1 _ rfl) (by simp)
     have u2 := hck.base.cell (hq 2 _ rfl) (by simp)
     have u3 := hck.base.cell (hq 3 _ rfl) (by simp)
     have u4 := hck.base.cell (hq 4 _ rfl) (by simp)
     have u5 := hck.base.cell (hq 5 _ rfl) (by simp)
     have u6 := hck.base.cell (hq 6 _ rfl) (by simp)
     have u7 := hck.base.cell (hq 7 _ rfl) (by simp)
     have u8 := hck.base.cell (hq 8 _ rfl) (by simp)
     have u9 := hck.base.cell (hq 9 _ rfl) (by simp)
     have u10 := hck.base.cell (hq 10 _ rfl) (by simp)
     have u11 := hck.base.cell (hq 11 _ rfl) (by simp)
     rw [Nat.add_zero] at u0
     cases hy : Nam.clocksI (Nam.clocks f) ss st1 with
     | none => rw [hy] at hm; cases hm
     | some y =>
     rw [hy] at hm
     obtain ⟨⟨ya, ye⟩, sty⟩ := y
     simp only at hm
     obtain ⟨hS, hSm⟩ := statesLen k3
     unfold maxLen at hSm
     have HS := ld hS
     have HY := ld hy
     have HM := ld hm
     have HK := ld (And.intro hck (And.intro hkp (And.intro hcell k3)))
     clear hq k1 k2 k3 hy hm hS hck hkp hcell hx
     go_wp2
     go_loopw [37] (fun iv wq => ∃ (s : Nat) (st2 : St), s ≤ qn ∧ iv = .int .i64 (s : Int) ∧ Hid (Ck w0 wq A st2 ∧ Kp [A.b1, A.b2] w wq ∧ wq.heap[w.heap.size]? = some fo ∧ Nam.clocksI (Nam.clocks f) (ss.drop s) st2 = some ((ya, ye), sty))) (fun i _ => qn - (intOf i).toNat)
     case atStart => exact ⟨0, st1, Nat.zero_le _, rfl, ld ⟨HK.out.1.kept (ga _ _ _), HK.out.2.1.trans (Kp.of0 (ga _ _ _) _), ((ga _ _ none).block _ hsz2 (by simp)).trans HK.out.2.2.1, HY.out⟩⟩
     case round =>
      clear u0 u1 u2 u3 u4 u5 u6 u7 u8 u9 u10 u11 HY
      obtain ⟨s, st2, hs, rfl, HG⟩ := hrel
      obtain ⟨hck, hkp, hcell, hm⟩ := HG.out
      clear HG
      have hsz3 := (gl hcell)
      have hws3 := hkp.size
      by_cases hlt4 : s < qn
      ·obtain ⟨x, hx⟩ : ∃ x, ss[s]? = some x := ⟨_, List.getElem?_eq_getElem (by rw [← HS.out]; exact hlt4)⟩
       obtain ⟨nm, us, ut, lsx, itx, ax⟩ := x
       rw [drop_at hx] at hm
       unfold Nam.clocksI at hm
       obtain ⟨g3, ua, un, uc, ta, tn, tc, la, ln, lc, ia, jn, ic, rfl, ⟨v0, v1, v2, v3, v4, v5⟩, _, _, hlv, hiv⟩ := stateAt HK.out.2.2.2 hx
       have v0 := hck.base.cell v0 (by simp)
       have v1 := hck.base.cell v1 (by simp)
       have v2 := hck.base.cell v2 (by simp)
       have v3 := hck.base.cell v3 (by simp)
       have v4 := hck.base.cell v4 (by simp)
       have v5 := hck.base.cell v5 (by simp)
       cases hd : Nam.declare true lsx st2 with
       | none => rw [hd] at hm; cases hm
       | some xd =>
       rw [hd] at hm
       simp only at hm
       cases hc : Nam.clocks f lsx itx xd.2 with
       | none => rw [hc] at hm; cases hm
       | some y =>
       rw [hc] at hm
       obtain ⟨⟨za, ze⟩, zst⟩ := y
       simp only at hm
       have hde := fun V (hV : Ck w0 V A st2) => declare2_any A lsx la ln lc st2 w0 V xd hV hlv hd
       simp only [fv] at hde
       have HDE := ld hde
       have HCL := ld (fun V (hV : Ck w0 V A xd.2) => hC A w0 V xd.2 lsx itx la ia ln lc jn ic za ze zst hV hlv hiv hc)
       have hfd := found_any (za, ze)
       simp only [fv] at hfd
       have HX := ld (And.intro hck (And.intro hkp hcell))
       clear hde hd hc hx hiv hck hkp hcell
       by_cases h0 : ze = 0
       ·have hb0 : (ze != 0) = false := by simp [h0]
        rw [hb0] at hfd
        rw [if_pos h0] at hm
        have H0 := ld h0
        clear hb0 h0
        cases hf : Nam.forget true lsx zst with
        | none => rw [hf] at hm; cases hm
        | some st' =>
        rw [hf] at hm
        have HFO := ld (fun V (hV : Ck w0 V A zst) => forget2_any A lsx la ln lc zst w0 V st' hV hlv hf)
        have HM2 := ld hm
        clear hm hf hlv
        go_wp2_with (first | (go_at_call 52; refine (HDE.out _ (HX.out.1.kept (ga _ _ _))).mono ?_; rintro e w1 ⟨rfl, hck1, hk1⟩; have d3 := hk1.cellAt (cell_of_row _ _ 3 _ _ _ (heap_alloc_new wr (.cells #[.string ⟨nm.toArray⟩, .slice ua un uc, .slice ta tn tc, .slice la ln lc, .slice ia jn ic, .int .i64 ax] 119 (0, 0)))) (by simp; omega); have d4 := hk1.cellAt (cell_of_row _ _ 4 _ _ _ (heap_alloc_new wr (.cells #[.string ⟨nm.toArray⟩, .slice ua un uc, .slice ta tn tc, .slice la ln lc, .slice ia jn ic, .int .i64 ax] 119 (0, 0)))) (by simp; omega); have HC1 := ld (And.intro hck1 hk1); clear hck1 hk1) | (go_at_call 55; refine (HCL.out _ HC1.out.1).mono ?_; rintro e w2 ⟨rfl, hk2, hi2⟩; have d3 := hk2.cellAt d3 (by simp; omega); have HC2 := ld (And.intro hk2 (hi2 H0.out)); clear hk2 hi2) | (go_at_call 29; refine (hfd _).mono ?_; rintro e w3 ⟨rfl, hg3⟩; have d3 := hg3.cell ((ga w2 _ none).cell d3 (by simp)) (by simp)) | (go_at_call 56; refine (HFO.out _ ((HC2.out.2.kept (ga w2 _ none)).kept hg3)).mono ?_; rintro e w4 ⟨rfl, hck4, hk4⟩))
        have hg23 : w2.grownBy w3 none := (ga w2 _ none).trans hg3
        have hK : Kp [A.b1, A.b2] wr w4 := ((((Kp.of0 (ga wr _ none) _).trans HC1.out.2).trans HC2.out.1).trans (Kp.of0 hg23 _)).trans hk4
        exact ⟨⟨s + 1, st', by omega, by go_num, ld ⟨hck4, HX.out.2.1.trans hK, hK.at HX.out.2.2 (by simp; omega), HM2.out⟩⟩, by simp [intOf]; omega⟩
       ·have hb0 : (ze != 0) = true := by simp [h0]
        rw [hb0] at hfd
        rw [if_neg h0] at hm
        have H0 := ld h0
        have HM2 := ld (Option.some.inj hm)
        clear hb0 h0 hm hlv
        go_wp2_with (first | (go_at_call 52; refine (HDE.out _ (HX.out.1.kept (ga _ _ _))).mono ?_; rintro e w1 ⟨rfl, hck1, hk1⟩; have d3 := hk1.cellAt (cell_of_row _ _ 3 _ _ _ (heap_alloc_new wr (.cells #[.string ⟨nm.toArray⟩, .slice ua un uc, .slice ta tn tc, .slice la ln lc, .slice ia jn ic, .int .i64 ax] 119 (0, 0)))) (by simp; omega); have d4 := hk1.cellAt (cell_of_row _ _ 4 _ _ _ (heap_alloc_new wr (.cells #[.string ⟨nm.toArray⟩, .slice ua un uc, .slice ta tn tc, .slice la ln lc, .slice ia jn ic, .int .i64 ax] 119 (0, 0)))) (by simp; omega); have HC1 := ld (And.intro hck1 hk1); clear hck1 hk1) | (go_at_call 55; refine (HCL.out _ HC1.out.1).mono ?_; rintro e w2 ⟨rfl, hk2, hi2⟩; have HC2 := ld hk2; clear hk2 hi2 d3 d4) | (go_at_call 29; refine (hfd _).mono ?_; rintro e w3 ⟨rfl, hg3⟩; have x0 := hg3.cell (cell_of_row _ _ 0 _ _ _ (heap_alloc_new w2 _)) (by simp); have x1 := hg3.cell (cell_of_row _ _ 1 _ _ _ (heap_alloc_new w2 _)) (by simp); refine Hid.out ?_))
        have hg23 : w2.grownBy w3 none := (ga w2 _ none).trans hg3
        have hK : Kp [A.b1, A.b2] wr w3 := (((Kp.of0 (ga wr _ none) _).trans HC1.out.2).trans HC2.out).trans (Kp.of0 hg23 _)
        have hce3 := hK.at HX.out.2.2 (by simp; omega)
        have HK3 := ld hK
        clear hK hg23
        refine ld ?_
        go_wp2_with (with_reducible refine hold_st 6 ?_)
        refine ld ?_
        refine sg hce3 ?_
        intro w7 hh7 hg7
        go_wp2
        (try simp only [Exit.inBlock, Exit.then])
        refine br hh7 Tryz.underlying63 ?_
        obtain ⟨e1, e2⟩ : (za, ze) = (ya, ye) ∧ zst = sty := by have := HM2.out; simp only [Prod.mk.injEq] at this ⊢; exact this
        cases e1
        have hq2 := HM.out
        rw [if_neg H0.out] at hq2
        obtain ⟨e3, _⟩ : (ya, ye) = (ra, re) ∧ sty = r2 := by have := Option.some.inj hq2; simp only [Prod.mk.injEq] at this ⊢; exact this
        cases e3
        exact ⟨rfl, (HX.out.2.1.trans HK3.out).trans' hg7 (Nat.le_refl _), fun e => absurd e H0.out⟩
      ·have e : s = qn := by omega
       subst e
       rw [List.drop_eq_nil_of_le (by rw [← HS.out]; exact Nat.le_refl _)] at hm
       unfold Nam.clocksI at hm
       cases Option.some.inj hm
       have hq2 := HM.out
       rw [if_pos rfl] at hq2
       go_wp2
       exact ⟨⟨t2 + 1, _, by omega, by go_num, ld ⟨hck, hkp, hcell, hq2⟩⟩, by simp [intOf]; omega⟩
    ·have e : t2 = M := by omega
     subst e
     rw [List.drop_eq_nil_of_le (by rw [← HL.out.2]; exact Nat.le_refl _)] at hm
     unfold Nam.clocksL at hm
     have HM := ld (Option.some.inj hm)
     clear hm
     go_wp2_with (with_reducible refine hold_st 6 ?_)
     refine ld ?_
     refine sg hcell ?_
     intro w7 hh7 hg7
     go_wp2
     (try simp only [Exit.inBlock, Exit.then])
     refine br hh7 Tryz.underlying63 ?_
     obtain ⟨e1, e2⟩ : ((0 : Int), (0 : Int)) = (ra, re) ∧ st1 = r2 := by have := HM.out; simp only [Prod.mk.injEq] at this ⊢; exact this
     cases e1
     subst e2
     exact ⟨rfl, hkp.trans' hg7 (Nat.le_refl _), fun _ => hck.keptB hg7 ⟨by omega, by simp; omega⟩⟩
theorem ccl_all : ∀ f, CCl f
 | 0 => by intro A w0 w st ls its a b L cap M capb ra re r2 h hv hi hr; unfold Nam.clocks at hr; cases hr
 | f + 1 => ccl_step f (ccl_all f)
open Go.RowKit Go.Maps Go.WideMaps
open Nam (St F)
theorem nClocks_any (f : Nat) (A : Adr) (w0 w : World) (st : St) (nb : Nat) (ua ta la ia : Option Addr) (un uc tn tc ln lc jn ic : Nat) (nm : List UInt8) (at_ : Int) (dv : Value) (ls : List Gram.Var) (its : List Gram.Item) (hnb : w.heap[nb]? = some (.cells #[.pointer (some ⟨A.c, 0, none⟩), .string ⟨nm.toArray⟩, .slice ua un uc, .slice ta tn tc, .slice la ln lc, .slice ia jn ic, .int .i64 at_, dv] 80 (0, 0))) (hnX : nb ∉ [A.b0, A.b1, A.b2]) (h : Ck w0 w A st) (hv : RepC w0 0 [] (.l 112 5 (ls.map varD)) (.slice la ln lc)) (hi : RepC w0 0 [] (.l 40 12 (itemsD its)) (.slice ia jn ic)) (ra re : Int) (r2 : St) (hr : Nam.clocks f ls its st = some ((ra, re), r2)) :
  Calls Tryz.prog 42 #[.pointer (some ⟨nb, 0, none⟩)] w fun e w' => e = .returned (.agg #[.int .i64 ra, .int .i64 re]) ∧ Kp [A.b1, A.b2] w w' ∧ (re = 0 → Ck w0 w' A r2) := by
 obtain ⟨W1, hW1⟩ : ∃ W1, W1 = w.alloc fo := ⟨_, rfl⟩
 have hg1 : w.grownBy W1.drew none := by rw [hW1]; exact gdrew (ga w fo none)
 have hce : W1.drew.heap[w.heap.size]? = some fo := by rw [hW1]; exact heap_alloc_new w fo
 have hll := (gl hnb)
 have hlt := h.lt
 have hlm := h.mm.lt
 have hb := h.base.size
 have hS0 : (fun W' => W'.heap[nb]? = some (.cells #[.pointer (some ⟨A.c, 0, none⟩), .string ⟨nm.toArray⟩, .slice ua un uc, .slice ta tn tc, .slice la ln lc, .slice ia jn ic, .int .i64 at_, dv] 80 (0, 0))) W1.drew := (hg1.block _ hll (by simp)).trans hnb
 have hcall := ccl_all f A w0 W1.drew st ls its la ia ln lc jn ic ra re r2 (h.kept hg1) hv hi hr
 simp only [List.mem_cons, List.not_mem_nil, or_false, not_or] at hnX
 have HF := ld hW1
 have HG := ld hg1
 clear hW1 hg1 hnb h hr hv hi
 go_enter Tryz.func42, Tryz.ntmps42
 go_wp2
 rw [show (Obj.cells #[Value.int .i64 0, Value.int .i64 0] 63) = fo from rfl, ← HF.out]
 refine wp_region_L2 (S := fun W' => W'.heap[nb]? = some (.cells #[.pointer (some ⟨A.c, 0, none⟩), .string ⟨nm.toArray⟩, .slice ua un uc, .slice ta tn tc, .slice la ln lc, .slice ia jn ic, .int .i64 at_, dv] 80 (0, 0))) (by kernel_rfl) ?_
 clear HF
 refine t1 0 3 (.pointer (some ⟨nb, 0, none⟩)) hS0 ?_
 (try simp only [Act.put, sA, sB, sC])
 refine t1 1 4 (.pointer (some ⟨nb, 0, none⟩)) hS0 ?_
 (try simp only [Act.put, sA, sB, sC])
 refine t1 2 5 (.pointer (some ⟨nb, 0, none⟩)) hS0 ?_
 (try simp only [Act.put, sA, sB, sC])
 refine t2 3 6 (.pointer (some ⟨A.c, 0, none⟩)) (fun w' hw' => ?_) hS0 ?_
 ·have hc0 := cell_of_row w' _ 0 _ _ _ (hw'); clear hw'; go_simp
 (try simp only [Act.put, sA, sB, sC])
 refine t1 4 7 (.pointer (some ⟨nb, 0, none⟩)) hS0 ?_
 (try simp only [Act.put, sA, sB, sC])
 refine t1 5 8 (.pointer (some ⟨nb, 0, none⟩)) hS0 ?_
 (try simp only [Act.put, sA, sB, sC])
 refine t1 6 9 (.pointer (some ⟨nb, 1, none⟩)) hS0 ?_
 (try simp only [Act.put, sA, sB, sC])
 refine t1 7 10 (.pointer (some ⟨nb, 4, none⟩)) hS0 ?_
 (try simp only [Act.put, sA, sB, sC])
 refine t2 8 11 (.slice la ln lc) (fun w' hw' => ?_) hS0 ?_
 ·have hc0 := cell_of_row w' _ 4 _ _ _ (hw'); clear hw'; go_simp
 (try simp only [Act.put, sA, sB, sC])
 refine t1 9 12 (.pointer (some ⟨nb, 0, none⟩)) hS0 ?_
 (try simp only [Act.put, sA, sB, sC])
 refine t1 10 13 (.pointer (some ⟨nb, 0, none⟩)) hS0 ?_
 (try simp only [Act.put, sA, sB, sC])
 refine t1 11 14 (.pointer (some ⟨nb, 1, none⟩)) hS0 ?_
 (try simp only [Act.put, sA, sB, sC])
 refine t1 12 15 (.pointer (some ⟨nb, 5, none⟩)) hS0 ?_
 (try simp only [Act.put, sA, sB, sC])
 refine t2 13 16 (.slice ia jn ic) (fun w' hw' => ?_) hS0 ?_
 ·have hc0 := cell_of_row w' _ 5 _ _ _ (hw'); clear hw'; go_simp
 (try simp only [Act.put, sA, sB, sC])
 refine wpL_call (i := 14) (d := 17) (R := fun v w' => v = .agg #[.int .i64 ra, .int .i64 re] ∧ Kp [A.b1, A.b2] W1.drew w' ∧ (re = 0 → Ck w0 w' A r2)) (by kernel_rfl) rfl (by kernel_rfl) (by kernel_rfl) (by kernel_rfl) (hcall.mono fun e w' he => ⟨_, he.1, rfl, he.2⟩) (fun v w' h => h.2.1.at hS0 (by simp; omega)) (fun v w2 h => ?_)
 rw [h.1]
 have hk2 := h.2
 have hS2 := hk2.1.at hS0 (by simp; omega)
 have hce2 := hk2.1.at hce (by simp; omega)
 clear h v
 (try simp only [Act.put, sA, sB, sC])
 refine wpL_store (i := 15) w.heap.size #[.int .i64 ra, .int .i64 re] _ 63 _ _ _ (by kernel_rfl) rfl (by kernel_rfl) rfl rfl rfl rfl hce2 (by kernel_rfl) rfl (by simp [Value.oneCell']) ?_
 intro w7 hh7 hg7
 refine ⟨(hg7.block _ (gl hS2) (by simp; omega)).trans hS2, ?_⟩
 (try simp only [Act.put, sA, sB, sC])
 refine wpL_done (by kernel_rfl) ?_ _
 go_wp2
 (try simp only [Exit.inBlock, Exit.then])
 refine br hh7 Tryz.underlying63 ?_
 exact ⟨rfl, ((Kp.of0 HG.out _).trans hk2.1).trans' hg7 (Nat.le_refl _), fun e => (hk2.2 e).keptB hg7 ⟨by omega, by simp; omega⟩⟩
open Go.RowKit Go.Maps Go.WideMaps
open Nam (St F)
theorem nLeave_any (A : Adr) (w0 w : World) (st : St) (nb : Nat) (ua ta la ia : Option Addr) (un uc tn tc ln lc jn ic : Nat) (nm : List UInt8) (at_ : Int) (dv : Value) (v1 v2 v3 : List Gram.Var) (s1 s2 s3 : St) (hnb : w.heap[nb]? = some (.cells #[.pointer (some ⟨A.c, 0, none⟩), .string ⟨nm.toArray⟩, .slice ua un uc, .slice ta tn tc, .slice la ln lc, .slice ia jn ic, .int .i64 at_, dv] 80 (0, 0))) (hnX : nb ∉ [A.b0, A.b1, A.b2]) (h : Ck w0 w A st) (hv1 : RepC w0 0 [] (.l 112 5 (v1.map varD)) (.slice ua un uc)) (hv2 : RepC w0 0 [] (.l 112 5 (v2.map varD)) (.slice ta tn tc)) (hv3 : RepC w0 0 [] (.l 112 5 (v3.map varD)) (.slice la ln lc)) (hr1 : Nam.forget false v1 st = some s1) (hr2 : Nam.forget true v2 s1 = some s2) (hr3 : Nam.forget true v3 s2 = some s3) (hroom : s3.cnt < 2000000) (hs : Nam.short nm = true) (hn : s3.nodes.contains nm = false) :
  Calls Tryz.prog 43 #[.pointer (some ⟨nb, 0, none⟩)] w fun e w' => e = .returned (.agg #[.int .i64 0, .int .i64 0]) ∧ Kp [A.b0, A.b1, A.b2] w w' ∧ Ck w0 w' A (s3.addNode nm) := by
 obtain ⟨W1, hW1⟩ : ∃ W1, W1 = w.alloc fo := ⟨_, rfl⟩
 have hg1 : w.grownBy W1 none := by rw [hW1]; exact ga w fo none
 have hce1 : W1.heap[w.heap.size]? = some fo := by rw [hW1]; exact heap_alloc_new w fo
 have hll := (gl hnb)
 have hlt := h.lt
 have hlm := h.mm.lt
 have hb := h.base.size
 have hnb1 := (hg1.block _ hll (by simp)).trans hnb
 have hck1 := h.kept hg1
 simp only [List.mem_cons, List.not_mem_nil, or_false, not_or] at hnX
 have HF := ld hW1
 have HG := ld hg1
 clear hW1 hg1 hnb h
 go_enter Tryz.func43, Tryz.ntmps43
 go_wp2
 rw [show (Obj.cells #[Value.int .i64 0, Value.int .i64 0] 63) = fo from rfl, ← HF.out]
 clear HF
 have hd0 : W1.grownBy W1.drew none := gdrew (World.grownBy.refl _ _)
 have hcall := forget1_any A v1 ua un uc st w0 W1.drew s1 (hck1.kept hd0) hv1 hr1
 have hS0 : (fun W' => W'.heap[nb]? = some (.cells #[.pointer (some ⟨A.c, 0, none⟩), .string ⟨nm.toArray⟩, .slice ua un uc, .slice ta tn tc, .slice la ln lc, .slice ia jn ic, .int .i64 at_, dv] 80 (0, 0)) ∧ W'.heap[A.c]? = some (.cells #[.map (some A.m)] 77 (0, 0)) ∧ Mm W' A) W1.drew := ⟨hnb1, (hck1.kept hd0).cc, (hck1.kept hd0).mm⟩
 refine wp_region_L2 (S := fun W' => W'.heap[nb]? = some (.cells #[.pointer (some ⟨A.c, 0, none⟩), .string ⟨nm.toArray⟩, .slice ua un uc, .slice ta tn tc, .slice la ln lc, .slice ia jn ic, .int .i64 at_, dv] 80 (0, 0)) ∧ W'.heap[A.c]? = some (.cells #[.map (some A.m)] 77 (0, 0)) ∧ Mm W' A) (by kernel_rfl) ?_
 refine t1 0 3 (.pointer (some ⟨nb, 0, none⟩)) hS0 ?_
 (try simp only [Act.put, sA, sB, sC])
 refine t1 1 4 (.pointer (some ⟨nb, 0, none⟩)) hS0 ?_
 (try simp only [Act.put, sA, sB, sC])
 refine t1 2 5 (.pointer (some ⟨nb, 0, none⟩)) hS0 ?_
 (try simp only [Act.put, sA, sB, sC])
 refine t2 3 6 (.pointer (some ⟨A.c, 0, none⟩)) (fun w' hw' => ?_) hS0 ?_
 ·have hc0 := cell_of_row w' _ 0 _ _ _ (hw'.1); clear hw'; go_simp
 (try simp only [Act.put, sA, sB, sC])
 refine t1 4 7 (.pointer (some ⟨nb, 0, none⟩)) hS0 ?_
 (try simp only [Act.put, sA, sB, sC])
 refine t1 5 8 (.pointer (some ⟨nb, 0, none⟩)) hS0 ?_
 (try simp only [Act.put, sA, sB, sC])
 refine t1 6 9 (.pointer (some ⟨nb, 1, none⟩)) hS0 ?_
 (try simp only [Act.put, sA, sB, sC])
 refine t1 7 10 (.pointer (some ⟨nb, 2, none⟩)) hS0 ?_
 (try simp only [Act.put, sA, sB, sC])
 refine t2 8 11 (.slice ua un uc) (fun w' hw' => ?_) hS0 ?_
 ·have hc0 := cell_of_row w' _ 2 _ _ _ (hw'.1); clear hw'; go_simp
 (try simp only [Act.put, sA, sB, sC])
 refine wpL_call (i := 9) (d := 12) (R := fun v w' => v = .tuple #[] ∧ Ck w0 w' A s1 ∧ Kp [A.b1, A.b2] W1.drew w') (by kernel_rfl) rfl (by kernel_rfl) (by kernel_rfl) (by kernel_rfl) (hcall.mono fun e w' he => ⟨_, he.1, rfl, he.2⟩) (fun v w' h => ⟨h.2.2.at hS0.1 (by simp; omega), h.2.1.cc, h.2.1.mm⟩) (fun v W2 h => ?_)
 rw [h.1]
 have hck2 := h.2.1
 have hk2 := h.2.2
 clear h v
 (try simp only [Act.put, sA, sB, sC])
 refine wpL_done (by kernel_rfl) ?_ _
 have hnb2 := hk2.at hS0.1 (by simp; omega)
 have hce2 := hk2.at (show W1.drew.heap[w.heap.size]? = some fo from hce1) (by simp; omega)
 have HK2 := ld ((Kp.of0 hd0 [A.b1, A.b2]).trans hk2)
 clear hcall hS0 hd0 hck1 hnb1 hce1 hk2
 go_wp2
 have hd1 : W2.grownBy W2.drew none := gdrew (World.grownBy.refl _ _)
 have hcall := forget2_any A v2 ta tn tc s1 w0 W2.drew s2 (hck2.kept hd1) hv2 hr2
 have hS0 : (fun W' => W'.heap[nb]? = some (.cells #[.pointer (some ⟨A.c, 0, none⟩), .string ⟨nm.toArray⟩, .slice ua un uc, .slice ta tn tc, .slice la ln lc, .slice ia jn ic, .int .i64 at_, dv] 80 (0, 0)) ∧ W'.heap[A.c]? = some (.cells #[.map (some A.m)] 77 (0, 0)) ∧ Mm W' A) W2.drew := ⟨hnb2, (hck2.kept hd1).cc, (hck2.kept hd1).mm⟩
 refine wp_region_L2 (S := fun W' => W'.heap[nb]? = some (.cells #[.pointer (some ⟨A.c, 0, none⟩), .string ⟨nm.toArray⟩, .slice ua un uc, .slice ta tn tc, .slice la ln lc, .slice ia jn ic, .int .i64 at_, dv] 80 (0, 0)) ∧ W'.heap[A.c]? = some (.cells #[.map (some A.m)] 77 (0, 0)) ∧ Mm W' A) (by kernel_rfl) ?_
 refine t1 0 13 (.pointer (some ⟨nb, 0, none⟩)) hS0 ?_
 (try simp only [Act.put, sA, sB, sC])
 refine t1 1 14 (.pointer (some ⟨nb, 0, none⟩)) hS0 ?_
 (try simp only [Act.put, sA, sB, sC])
 refine t1 2 15 (.pointer (some ⟨nb, 0, none⟩)) hS0 ?_
 (try simp only [Act.put, sA, sB, sC])
 refine t2 3 16 (.pointer (some ⟨A.c, 0, none⟩)) (fun w' hw' => ?_) hS0 ?_
 ·have hc0 := cell_of_row w' _ 0 _ _ _ (hw'.1); clear hw'; go_simp
 (try simp only [Act.put, sA, sB, sC])
 refine t1 4 17 (.pointer (some ⟨nb, 0, none⟩)) hS0 ?_
 (try simp only [Act.put, sA, sB, sC])
 refine t1 5 18 (.pointer (some ⟨nb, 0, none⟩)) hS0 ?_
 (try simp only [Act.put, sA, sB, sC])
 refine t1 6 19 (.pointer (some ⟨nb, 1, none⟩)) hS0 ?_
 (try simp only [Act.put, sA, sB, sC])
 refine t1 7 20 (.pointer (some ⟨nb, 3, none⟩)) hS0 ?_
 (try simp only [Act.put, sA, sB, sC])
 refine t2 8 21 (.slice ta tn tc) (fun w' hw' => ?_) hS0 ?_
 ·have hc0 := cell_of_row w' _ 3 _ _ _ (hw'.1); clear hw'; go_simp
 (try simp only [Act.put, sA, sB, sC])
 refine wpL_call (i := 9) (d := 22) (R := fun v w' => v = .tuple #[] ∧ Ck w0 w' A s2 ∧ Kp [A.b1, A.b2] W2.drew w') (by kernel_rfl) rfl (by kernel_rfl) (by kernel_rfl) (by kernel_rfl) (hcall.mono fun e w' he => ⟨_, he.1, rfl, he.2⟩) (fun v w' h => ⟨h.2.2.at hS0.1 (by simp; omega), h.2.1.cc, h.2.1.mm⟩) (fun v W3 h => ?_)
 rw [h.1]
 have hck3 := h.2.1
 have hk3 := h.2.2
 clear h v
 (try simp only [Act.put, sA, sB, sC])
 refine wpL_done (by kernel_rfl) ?_ _
 have hnb3 := hk3.at hS0.1 (by simp; omega)
 have hce3 := hk3.at (show W2.drew.heap[w.heap.size]? = some fo from hce2) (by simp; omega)
 have HK3 := ld ((Kp.of0 hd1 [A.b1, A.b2]).trans hk3)
 clear hcall hS0 hd1 hck2 hnb2 hce2 hk3
 go_wp2
 have hd2 : W3.grownBy W3.drew none := gdrew (World.grownBy.refl _ _)
 have hcall := forget2_any A v3 la ln lc s2 w0 W3.drew s3 (hck3.kept hd2) hv3 hr3
 have hS0 : (fun W' => W'.heap[nb]? = some (.cells #[.pointer (some ⟨A.c, 0, none⟩), .string ⟨nm.toArray⟩, .slice ua un uc, .slice ta tn tc, .slice la ln lc, .slice ia jn ic, .int .i64 at_, dv] 80 (0, 0)) ∧ W'.heap[A.c]? = some (.cells #[.map (some A.m)] 77 (0, 0)) ∧ Mm W' A) W3.drew := ⟨hnb3, (hck3.kept hd2).cc, (hck3.kept hd2).mm⟩
 refine wp_region_L2 (S := fun W' => W'.heap[nb]? = some (.cells #[.pointer (some ⟨A.c, 0, none⟩), .string ⟨nm.toArray⟩, .slice ua un uc, .slice ta tn tc, .slice la ln lc, .slice ia jn ic, .int .i64 at_, dv] 80 (0, 0)) ∧ W'.heap[A.c]? = some (.cells #[.map (some A.m)] 77 (0, 0)) ∧ Mm W' A) (by kernel_rfl) ?_
 refine t1 0 23 (.pointer (some ⟨nb, 0, none⟩)) hS0 ?_
 (try simp only [Act.put, sA, sB, sC])
 refine t1 1 24 (.pointer (some ⟨nb, 0, none⟩)) hS0 ?_
 (try simp only [Act.put, sA, sB, sC])
 refine t1 2 25 (.pointer (some ⟨nb, 0, none⟩)) hS0 ?_
 (try simp only [Act.put, sA, sB, sC])
 refine t2 3 26 (.pointer (some ⟨A.c, 0, none⟩)) (fun w' hw' => ?_) hS0 ?_
 ·have hc0 := cell_of_row w' _ 0 _ _ _ (hw'.1); clear hw'; go_simp
 (try simp only [Act.put, sA, sB, sC])
 refine t1 4 27 (.pointer (some ⟨nb, 0, none⟩)) hS0 ?_
 (try simp only [Act.put, sA, sB, sC])
 refine t1 5 28 (.pointer (some ⟨nb, 0, none⟩)) hS0 ?_
 (try simp only [Act.put, sA, sB, sC])
 refine t1 6 29 (.pointer (some ⟨nb, 1, none⟩)) hS0 ?_
 (try simp only [Act.put, sA, sB, sC])
 refine t1 7 30 (.pointer (some ⟨nb, 4, none⟩)) hS0 ?_
 (try simp only [Act.put, sA, sB, sC])
 refine t2 8 31 (.slice la ln lc) (fun w' hw' => ?_) hS0 ?_
 ·have hc0 := cell_of_row w' _ 4 _ _ _ (hw'.1); clear hw'; go_simp
 (try simp only [Act.put, sA, sB, sC])
 refine wpL_call (i := 9) (d := 32) (R := fun v w' => v = .tuple #[] ∧ Ck w0 w' A s3 ∧ Kp [A.b1, A.b2] W3.drew w') (by kernel_rfl) rfl (by kernel_rfl) (by kernel_rfl) (by kernel_rfl) (hcall.mono fun e w' he => ⟨_, he.1, rfl, he.2⟩) (fun v w' h => ⟨h.2.2.at hS0.1 (by simp; omega), h.2.1.cc, h.2.1.mm⟩) (fun v W4 h => ?_)
 rw [h.1]
 have hck4 := h.2.1
 have hk4 := h.2.2
 clear h v
 (try simp only [Act.put, sA, sB, sC])
 refine wpL_done (by kernel_rfl) ?_ _
 have hnb4 := hk4.at hS0.1 (by simp; omega)
 have hce4 := hk4.at (show W3.drew.heap[w.heap.size]? = some fo from hce3) (by simp; omega)
 have HK4 := ld ((Kp.of0 hd2 [A.b1, A.b2]).trans hk4)
 clear hcall hS0 hd2 hck3 hnb3 hce3 hk4
 go_wp2
 have hd4 : W4.grownBy W4.drew none := gdrew (World.grownBy.refl _ _)
 have hckd := hck4.kept hd4
 have hcall := add_any A.b0 s3.cnt s3.nodes nm hs hn hroom W4.drew hckd.s0
 unfold strV at hcall
 have hnd : (s3.nodes ++ [nm]).Nodup := List.nodup_append.2 ⟨hckd.nd.1, by simp, fun a ha b hb e => by (simp at hb; subst hb; subst e; simp [ha] at hn)⟩
 have HOWN := ld (fun V (hs : SetAt V A.b0 (s3.cnt + 1) (s3.nodes ++ [nm])) (hg : W4.drew.grownBy V (some A.b0)) => hckd.own0 hg hs (Nat.le_succ _) hnd)
 have hS0 : (fun W' => W'.heap[nb]? = some (.cells #[.pointer (some ⟨A.c, 0, none⟩), .string ⟨nm.toArray⟩, .slice ua un uc, .slice ta tn tc, .slice la ln lc, .slice ia jn ic, .int .i64 at_, dv] 80 (0, 0)) ∧ W'.heap[A.c]? = some (.cells #[.map (some A.m)] 77 (0, 0)) ∧ Mm W' A) W4.drew := ⟨hnb4, hckd.cc, hckd.mm⟩
 have hn4 := (gl hce4)
 refine wp_region_L2 (S := fun W' => W'.heap[nb]? = some (.cells #[.pointer (some ⟨A.c, 0, none⟩), .string ⟨nm.toArray⟩, .slice ua un uc, .slice ta tn tc, .slice la ln lc, .slice ia jn ic, .int .i64 at_, dv] 80 (0, 0)) ∧ W'.heap[A.c]? = some (.cells #[.map (some A.m)] 77 (0, 0)) ∧ Mm W' A) (by kernel_rfl) ?_
 refine t1 0 33 (.pointer (some ⟨nb, 0, none⟩)) hS0 ?_
 (try simp only [Act.put, sA, sB, sC])
 refine t1 1 34 (.pointer (some ⟨nb, 0, none⟩)) hS0 ?_
 (try simp only [Act.put, sA, sB, sC])
 refine t1 2 35 (.pointer (some ⟨nb, 0, none⟩)) hS0 ?_
 (try simp only [Act.put, sA, sB, sC])
 refine t2 3 36 (.pointer (some ⟨A.c, 0, none⟩)) (fun w' hw' => ?_) hS0 ?_
 ·have hc0 := cell_of_row w' _ 0 _ _ _ (hw'.1); clear hw'; go_simp
 (try simp only [Act.put, sA, sB, sC])
 refine t1 4 37 (.pointer (some ⟨A.c, 0, none⟩)) hS0 ?_
 (try simp only [Act.put, sA, sB, sC])
 refine t1 5 38 (.pointer (some ⟨A.c, 0, none⟩)) hS0 ?_
 (try simp only [Act.put, sA, sB, sC])
 refine t2 6 39 (.map (some A.m)) (fun w' hw' => ?_) hS0 ?_
 ·have hc0 := cell_of_row w' _ 0 _ _ _ (hw'.2.1); clear hw'; go_simp
 (try simp only [Act.put, sA, sB, sC])
 refine t2 7 40 (.map (some A.b0)) (fun w' hw' => ?_) hS0 ?_
 ·have hl := hw'.2.2.look.1; clear hw'; go_simp
 (try simp only [Act.put, sA, sB, sC])
 refine t1 8 41 (.pointer (some ⟨nb, 0, none⟩)) hS0 ?_
 (try simp only [Act.put, sA, sB, sC])
 refine t1 9 42 (.pointer (some ⟨nb, 0, none⟩)) hS0 ?_
 (try simp only [Act.put, sA, sB, sC])
 refine t1 10 43 (.pointer (some ⟨nb, 1, none⟩)) hS0 ?_
 (try simp only [Act.put, sA, sB, sC])
 refine t1 11 44 (.pointer (some ⟨nb, 1, none⟩)) hS0 ?_
 (try simp only [Act.put, sA, sB, sC])
 refine t2 12 45 (.string ⟨nm.toArray⟩) (fun w' hw' => ?_) hS0 ?_
 ·have hc0 := cell_of_row w' _ 1 _ _ _ (hw'.1); clear hw'; go_simp
 (try simp only [Act.put, sA, sB, sC])
 refine wpL_call (i := 13) (d := 46) (R := fun v w' => v = .tuple #[] ∧ SetAt w' A.b0 (s3.cnt + 1) (s3.nodes ++ [nm]) ∧ W4.drew.grownBy w' (some A.b0)) (by kernel_rfl) rfl (by kernel_rfl) (by kernel_rfl) (by kernel_rfl) (hcall.mono fun e w' he => ⟨_, he.1, rfl, he.2⟩) (fun v w' h => ⟨(h.2.2.block _ (gl hS0.1) (by simp; omega)).trans hS0.1, (HOWN.out _ h.2.1 h.2.2).cc, (HOWN.out _ h.2.1 h.2.2).mm⟩) (fun v W5 h => ?_)
 rw [h.1]
 have hck5 := HOWN.out _ h.2.1 h.2.2
 have hg5 := h.2.2
 clear h v
 (try simp only [Act.put, sA, sB, sC])
 refine wpL_done (by kernel_rfl) ?_ _
 have hce5 := (hg5.block _ (show w.heap.size < W4.drew.heap.size from hn4) (by simp; omega)).trans (show W4.drew.heap[w.heap.size]? = some fo from hce4)
 have HK5 := ld ((Kp.of0 hd4 [A.b0, A.b1, A.b2]).trans (Kp.of hg5 _ (fun k e _ => by cases e; simp)))
 clear hcall hS0 hd4 hckd hnb4 hce4 hg5 hck4 hn4
 go_wp2_with (with_reducible refine hold_st 2 ?_)
 refine ld ?_
 refine sg hce5 ?_
 intro w7 hh7 hg7
 go_wp2
 (try simp only [Exit.inBlock, Exit.then])
 refine br hh7 Tryz.underlying63 ?_
 refine ⟨rfl, ((((Kp.of0 HG.out _).trans (HK2.out.mono (fun i hi _ => by simp at hi ⊢; omega))).trans (HK3.out.mono (fun i hi _ => by simp at hi ⊢; omega))).trans (HK4.out.mono (fun i hi _ => by simp at hi ⊢; omega)) |>.trans HK5.out).trans' hg7 (Nat.le_refl _), hck5.keptB hg7 ⟨by omega, by simp; omega⟩⟩
open Go.RowKit Go.Maps Go.WideMaps
open Nam (St F)
theorem isKey_int (k : Int) : WideAt.IsKeyLit (.int .i64 k) := by simp [WideAt.IsKeyLit]
theorem newChecker_any (w : World) : Calls Tryz.prog 27 #[] w fun e w' => ∃ A : Adr, e = .returned (.pointer (some ⟨A.c, 0, none⟩)) ∧ Ck w w' A ⟨[], [], [], 0⟩ := by
 have hmm := @run_makeMap Tryz.prog
 have hk : ∀ k : Int, (Lit.int .i64 k).wf = true → _ := fun k hk => keyOf_int_mk (P := Tryz.prog) Tryz.underlying3 hk
 have m1 := World.ownsMap_made w Tryz.prog 3 mapElem
 have g2 := ga (w.alloc (.map #[] 0)) (.map #[] 0) none
 have m2 := m1.kept g2 (by simp)
 obtain ⟨w3, r3, m3, t3⟩ := m2.store intLaw Tryz.underlying75 (by unfold maxLen; omega) (hk 0 (by decide)) (mapElem_some (w.heap.size + 1))
 have g4 := ga w3 (.map #[] 0) none
 have m4 := m3.kept g4 (by simp)
 obtain ⟨w5, r5, m5, t5⟩ := m4.store intLaw Tryz.underlying75 (by unfold maxLen; omega) (hk 1 (by decide)) (mapElem_some w3.heap.size)
 have g6 := ga w5 (.map #[] 0) none
 have m6 := m5.kept g6 (by simp)
 obtain ⟨w7, r7, m7, t7⟩ := m6.store intLaw Tryz.underlying75 (by unfold maxLen; omega) (hk 2 (by decide)) (mapElem_some w5.heap.size)
 have G2 : w.grownBy ((w.alloc (.map #[] 0)).alloc (.map #[] 0)) none := bs2 w _ _
 have k3 : Kp [w.heap.size] ((w.alloc (.map #[] 0)).alloc (.map #[] 0)) (w3.alloc (.map #[] 0)) := (Kp.of t3.grown _ (fun k e _ => by cases e; simp)).trans (Kp.of0 g4 _)
 have k5 : Kp [w.heap.size] (w3.alloc (.map #[] 0)) (w5.alloc (.map #[] 0)) := (Kp.of t5.grown _ (fun k e _ => by cases e; simp)).trans (Kp.of0 g6 _)
 have g8 := ga w7 (.cells #[.map (some w.heap.size)] 77 (0, 0)) none
 have k7 : Kp [w.heap.size] (w5.alloc (.map #[] 0)) (w7.alloc (.cells #[.map (some w.heap.size)] 77 (0, 0))) := (Kp.of t7.grown _ (fun k e _ => by cases e; simp)).trans (Kp.of0 g8 _)
 have z3 := t3.grown.size
 have z5 := t5.grown.size
 have z7 := t7.grown.size
 simp only [World.size_alloc] at z3 z5 z7
 have s0 : SetAt ((w.alloc (.map #[] 0)).alloc (.map #[] 0)) (w.heap.size + 1) 0 [] := by
  have h1 := SetAt.new (w.alloc (.map #[] 0))
  rw [World.size_alloc] at h1
  exact h1
 have s1 := SetAt.new w3
 have s2 := SetAt.new w5
 have b0 := ((s0.keptK k3 (by simp)).keptK k5 (by simp)).keptK k7 (by simp)
 have b1 := (s1.keptK k5 (by simp; omega)).keptK k7 (by simp; omega)
 have b2 := s2.keptK k7 (by simp; omega)
 have hbase : w.grownBy (w7.alloc (.cells #[.map (some w.heap.size)] 77 (0, 0))) none := by
  have h1 := Kp.trans' (X := []) (Kp.of0 G2 []) t3.grown (Nat.le_refl _)
  have h2 := (h1.trans (Kp.of0 g4 _)).trans' t5.grown (Nat.le_refl _)
  have h3 := (h2.trans (Kp.of0 g6 _)).trans' t7.grown (Nat.le_refl _)
  exact Kp.grown (World.grownBy.refl _ _) (h3.trans (Kp.of0 g8 _)) (by simp)
 have hmap := m7.kept g8 (by simp)
 have hcc : (w7.alloc (.cells #[.map (some w.heap.size)] 77 (0, 0))).heap[w7.heap.size]? = some (.cells #[.map (some w.heap.size)] 77 (0, 0)) := heap_alloc_new w7 _
 have hCk : Ck w (w7.alloc (.cells #[.map (some w.heap.size)] 77 (0, 0))) ⟨w7.heap.size, w.heap.size, w.heap.size + 1, w3.heap.size, w5.heap.size⟩ ⟨[], [], [], 0⟩ := by
  refine ⟨hbase, ⟨by simp only; omega, by simp, by simp, by simp only; omega, by simp only; omega⟩, ⟨by simp; omega, by simp; omega, by simp only; omega, by simp only; omega, by simp only; omega⟩, hcc, ⟨_, _, hmap, fun z => ?_, fun z => ?_, fun z => ?_⟩, b0, b1, b2, by simp⟩
  ·rw [Maps.atKey_put_other (by simp), Maps.atKey_put_other (by simp), Maps.atKey_put_same Maps.isMap_empty (isKey_int 0)]
  ·rw [Maps.atKey_put_other (by simp), Maps.atKey_put_same (Maps.IsMap.put Maps.isMap_empty _ _) (isKey_int 1)]
  ·rw [Maps.atKey_put_same (Maps.IsMap.put (Maps.IsMap.put Maps.isMap_empty _ _) _ _) (isKey_int 2)]
 have HCk := ld hCk
 clear hCk hbase b0 b1 b2 s0 s1 s2 k3 k5 k7 g8 g6 g4 g2 G2 m1 m2 m3 m4 m5 m6 m7 hmap hcc hk t3 t5 t7 z3 z5 z7
 go_enter Tryz.func27, Tryz.ntmps27
 go_wp2
 go_ret
 exact ⟨_, rfl, HCk.out⟩
open Go.RowKit Go.Maps Go.WideMaps
open Nam (St F)
def Sv.nobj (v : Sv) (A : Adr) (dv : Value) : Obj := .cells #[.pointer (some ⟨A.c, 0, none⟩), .string ⟨v.nm.toArray⟩, .slice v.ua v.un v.uc, .slice v.ta v.tn v.tc, .slice v.la v.ln v.lc, .slice v.ia v.jn v.ic, .int .i64 v.at_, dv] 80 (0, 0)
section
variable (A : Adr) (w0 : World) (nb n0 : Nat) (v : Sv)
def NInv (s : Nam.SS) (W : World) : Prop := Ck w0 W A s.1 ∧ ∃ dv, W.heap[nb]? = some (v.nobj A dv) ∧ DefAt W n0 s.2 dv
structure NPl : Prop where
 pa : A.c < n0 ∧ A.m < n0 ∧ A.b0 < n0 ∧ A.b1 < n0 ∧ A.b2 < n0
 pnb : nb < n0 ∧ nb ∉ [A.c, A.m, A.b0, A.b1, A.b2] ∧ w0.heap.size ≤ nb
variable {A w0 nb n0 v}
theorem NInv.on {s : Nam.SS} {W W' : World} (h : NInv A w0 nb n0 v s W) (hp : NPl A w0 nb n0) {st' : St} (hk : Kp [A.b0, A.b1, A.b2] W W') (hc : Ck w0 W' A st') : NInv A w0 nb n0 v (st', s.2) W' := by
 obtain ⟨_, dv, h4, h5⟩ := h
 have p2 := hp.pnb.2.1
 have p4 := hp.pa
 simp only [List.mem_cons, List.not_mem_nil, or_false, not_or] at p2
 exact ⟨hc, dv, hk.at h4 (by simp; omega), h5.kept hk (by simp; omega)⟩
theorem NInv.grown {s : Nam.SS} {W W' : World} (h : NInv A w0 nb n0 v s W) (hg : W.grownBy W' none) : NInv A w0 nb n0 v s W' := by
 obtain ⟨h1, dv, h4, h5⟩ := h
 have hk : Kp [] W W' := Kp.of0 hg []
 exact ⟨h1.kept hg, dv, hk.at h4 (by simp), h5.kept hk (by simp)⟩
theorem NInv.st {s : Nam.SS} {W W' : World} (h : NInv A w0 nb n0 v s W) (hp : NPl A w0 nb n0) (hb : w0.heap.size ≤ n0) {n : Nat} (hg : W.grownBy W' (some n)) (hn : n = n0 ∨ W.heap.size ≤ n) : NInv A w0 nb n0 v s W' := by
 obtain ⟨h1, dv, h4, h5⟩ := h
 have hk : Kp [n] W W' := Kp.of hg _ (fun k e _ => by cases e; simp)
 have q1 := h1.lt
 have q2 := h1.mm.lt
 have q5 := (gl h4)
 have q6 := h1.base.size
 have p2 := hp.pnb.1
 have p4 := hp.pa
 exact ⟨h1.keptK hk (by simp; omega), dv, hk.at h4 (by simp; omega), h5.kept hk (by simp; omega)⟩
end
section
variable (A : Adr) (w0 : World) (nb n0 : Nat) (v : Sv) (hp : NPl A w0 nb n0)
include hp
theorem NPl.nX : nb ∉ [A.b0, A.b1, A.b2] := fun e => hp.pnb.2.1 (by simp at e ⊢; omega)
theorem kp3 {W W' : World} (hk : Kp [A.b1, A.b2] W W') : Kp [A.b0, A.b1, A.b2] W W' := hk.mono (fun k e _ => List.mem_cons_of_mem _ e)
theorem doName (n : Gram.Node) (hn1 : n.name = v.nm) (hn2 : n.at_ = v.at_) : Does (NInv A w0 nb n0 v) (fun _ => True) n0 [A.b0, A.b1, A.b2, nb] 35 (.pointer (some ⟨nb, 0, none⟩)) (Nam.nName n) := by
 refine ⟨enters_of Tryz.func35 (by kernel_rfl) rfl, fun s w r hI hn hr => ?_⟩
 have hI2 := hI
 obtain ⟨h1, dv, h4, h5⟩ := hI
 unfold Nam.nName at hr
 rw [hn1, hn2] at hr
 cases hs : Nam.short v.nm with
 | false => rw [hs] at hr; cases hr
 | true =>
  rw [hs] at hr
  cases hr
  refine (nName_any A w0 w s.1 nb v.ua v.ta v.la v.ia v.un v.uc v.tn v.tc v.ln v.lc v.jn v.ic v.nm v.at_ dv h4 h1 hs).mono ?_
  rintro e w' ⟨rfl, hg⟩
  exact ⟨rfl, (Kp.of0 hg []).q1 (by simp), fun _ => hI2.grown hg, trivial⟩
theorem doDecl (own : Bool) (F : Nat) (hF : ∀ args w, (callFunc F args).run Tryz.prog w = .ok (.enter F args) w) (vs : List Gram.Var) (hc : ∀ (w : World) (st : St) (dv : Value) (ra re : Int) (r2 : St), w.heap[nb]? = some (v.nobj A dv) → Ck w0 w A st → Nam.declare own vs st = some ((ra, re), r2) → Calls Tryz.prog F #[.pointer (some ⟨nb, 0, none⟩)] w fun e w' => e = .returned (.agg #[.int .i64 ra, .int .i64 re]) ∧ Ck w0 w' A r2 ∧ Kp [A.b1, A.b2] w w') :
  Does (NInv A w0 nb n0 v) (fun _ => True) n0 [A.b0, A.b1, A.b2, nb] F (.pointer (some ⟨nb, 0, none⟩)) (Nam.nDeclare own vs) := by
 refine ⟨hF, fun s w r hI hn hr => ?_⟩
 have hI2 := hI
 obtain ⟨h1, dv, h4, h5⟩ := hI
 unfold Nam.nDeclare at hr
 cases hd : Nam.declare own vs s.1 with
 | none => rw [hd] at hr; cases hr
 | some x =>
  rw [hd] at hr
  cases hr
  obtain ⟨⟨ra, re⟩, r2⟩ := x
  refine (hc w s.1 dv ra re r2 h4 h1 hd).mono ?_
  rintro e w' ⟨rfl, hc, hk⟩
  exact ⟨rfl, hk.q1 (by simp), fun _ => hI2.on hp (kp3 A w0 nb n0 hp hk) hc, trivial⟩
theorem doMiss (F : Nat) (hF : ∀ args w, (callFunc F args).run Tryz.prog w = .ok (.enter F args) w) (vs : List Gram.Var) (hc : ∀ (w : World) (st : St) (dv : Value) (b : Option Nat) (m : Nat) (D : List (List UInt8)) (ra re : Int), w.heap[nb]? = some (v.nobj A dv) → Ck w0 w A st → dv = .map b → SetO w b m D → Nam.missing D vs = some (ra, re) → Calls Tryz.prog F #[.pointer (some ⟨nb, 0, none⟩)] w fun e w' => e = .returned (.agg #[.int .i64 ra, .int .i64 re]) ∧ w.grownBy w' none) :
  Does (NInv A w0 nb n0 v) (fun _ => True) n0 [A.b0, A.b1, A.b2, nb] F (.pointer (some ⟨nb, 0, none⟩)) (Nam.sMissing vs) := by
 refine ⟨hF, fun s w r hI hn hr => ?_⟩
 have hI2 := hI
 obtain ⟨h1, dv, h4, h5⟩ := hI
 unfold Nam.sMissing at hr
 obtain ⟨b, m, hb, hS⟩ : ∃ b m, dv = .map b ∧ SetO w b m (s.2.getD []) := by
  cases hs2 : s.2 with
  | none => rw [hs2] at h5; exact ⟨none, 0, h5, rfl⟩
  | some D =>
   rw [hs2] at h5
   obtain ⟨k, k1, _, k3, _⟩ := h5
   exact ⟨some k, _, k1, k3⟩
 cases hd : Nam.missing (s.2.getD []) vs with
 | none => rw [hd] at hr; cases hr
 | some x =>
  rw [hd] at hr
  cases hr
  obtain ⟨ra, re⟩ := x
  refine (hc w s.1 dv b m _ ra re h4 h1 hb hS hd).mono ?_
  rintro e w' ⟨rfl, hg⟩
  exact ⟨rfl, (Kp.of0 hg []).q1 (by simp), fun _ => hI2.grown hg, trivial⟩
theorem doClocks (f : Nat) (n : Gram.Node) (hl : RepC w0 0 [] (.l 112 5 (n.locals.map varD)) (.slice v.la v.ln v.lc)) (hi : RepC w0 0 [] (.l 40 12 (itemsD n.items)) (.slice v.ia v.jn v.ic)) : Does (NInv A w0 nb n0 v) (fun _ => True) n0 [A.b0, A.b1, A.b2, nb] 42 (.pointer (some ⟨nb, 0, none⟩)) (Nam.nClocks f n) := by
 refine ⟨enters_of Tryz.func42 (by kernel_rfl) rfl, fun s w r hI hn hr => ?_⟩
 have hI2 := hI
 obtain ⟨h1, dv, h4, h5⟩ := hI
 unfold Nam.nClocks at hr
 cases hd : Nam.clocks f n.locals n.items s.1 with
 | none => rw [hd] at hr; cases hr
 | some x =>
  rw [hd] at hr
  cases hr
  obtain ⟨⟨ra, re⟩, r2⟩ := x
  refine (nClocks_any f A w0 w s.1 nb v.ua v.ta v.la v.ia v.un v.uc v.tn v.tc v.ln v.lc v.jn v.ic v.nm v.at_ dv n.locals n.items h4 (NPl.nX A w0 nb n0 hp) h1 hl hi ra re r2 hd).mono ?_
  rintro e w' ⟨rfl, hk, hc⟩
  exact ⟨rfl, hk.q1 (by simp), fun h0 => hI2.on hp (kp3 A w0 nb n0 hp hk) (hc h0), trivial⟩
theorem doNLeave (n : Gram.Node) (hn1 : n.name = v.nm) (h1 : RepC w0 0 [] (.l 112 5 (n.ins.map varD)) (.slice v.ua v.un v.uc)) (h2 : RepC w0 0 [] (.l 112 5 (n.outs.map varD)) (.slice v.ta v.tn v.tc)) (h3 : RepC w0 0 [] (.l 112 5 (n.locals.map varD)) (.slice v.la v.ln v.lc)) : Does (NInv A w0 nb n0 v) (fun _ => True) n0 [A.b0, A.b1, A.b2, nb] 43 (.pointer (some ⟨nb, 0, none⟩)) (Nam.nLeave n) := by
 refine ⟨enters_of Tryz.func43 (by kernel_rfl) rfl, fun s w r hI hn hr => ?_⟩
 have hI2 := hI
 obtain ⟨c1, dv, h4, h5⟩ := hI
 unfold Nam.nLeave at hr
 rw [hn1] at hr
 cases hd1 : Nam.forget false n.ins s.1 with
 | none => rw [hd1] at hr; cases hr
 | some s1 =>
  rw [hd1] at hr
  simp only at hr
  cases hd2 : Nam.forget true n.outs s1 with
  | none => rw [hd2] at hr; cases hr
  | some s2 =>
   rw [hd2] at hr
   simp only at hr
   cases hd3 : Nam.forget true n.locals s2 with
   | none => rw [hd3] at hr; cases hr
   | some s3 =>
    rw [hd3] at hr
    simp only at hr
    cases hq : (Nam.room s3 && Nam.short v.nm && !s3.nodes.contains v.nm) with
    | false => rw [hq] at hr; cases hr
    | true =>
     rw [hq] at hr
     cases hr
     simp only [Bool.and_eq_true, Bool.not_eq_true', Nam.room, decide_eq_true_eq] at hq
     refine (nLeave_any A w0 w s.1 nb v.ua v.ta v.la v.ia v.un v.uc v.tn v.tc v.ln v.lc v.jn v.ic v.nm v.at_ dv n.ins n.outs n.locals s1 s2 s3 h4 (NPl.nX A w0 nb n0 hp) c1 h1 h2 h3 hd1 hd2 hd3 (by omega) hq.1.2 hq.2).mono ?_
     rintro e w' ⟨rfl, hk, hc⟩
     exact ⟨rfl, hk.q1 (by simp), fun _ => hI2.on hp hk hc, trivial⟩
end
open Go.RowKit Go.Maps Go.WideMaps
open Nam (St F)
def nFns : List Nat := [35, 36, 37, 38, 39, 40, 41, 42, 43]
def Sv.cells (v : Sv) : Array Value := #[.string ⟨v.nm.toArray⟩, .slice v.ua v.un v.uc, .slice v.ta v.tn v.tc, .slice v.la v.ln v.lc, .slice v.ia v.jn v.ic, .int .i64 v.at_]
theorem bs4 (w : World) (o p q r : Obj) : w.grownBy ((((w.alloc o).alloc p).alloc q).alloc r) none := galloc (galloc (galloc (ga w o none) p) q) r
open Go.RowKit Go.Maps Go.WideMaps
open Nam (St F)
theorem nodeAt {w : World} {B : Nat} {E : List Nat} {L cap t : Nat} {a : Option Addr} {l : List Gram.Node} {n : Gram.Node} (h : RepC w B E (.l 31 6 (l.map nodeD)) (.slice a L cap)) (hx : l[t]? = some n) :
  ∃ g ua un uc ta tn tc la ln lc ia jn ic, a = some ⟨g, 0, none⟩ ∧ (w.cell? ⟨g, t * 6, none⟩ = some (.string ⟨n.name.toArray⟩) ∧ w.cell? ⟨g, t * 6 + 1, none⟩ = some (.slice ua un uc) ∧ w.cell? ⟨g, t * 6 + 2, none⟩ = some (.slice ta tn tc) ∧ w.cell? ⟨g, t * 6 + 3, none⟩ = some (.slice la ln lc) ∧ w.cell? ⟨g, t * 6 + 4, none⟩ = some (.slice ia jn ic) ∧ w.cell? ⟨g, t * 6 + 5, none⟩ = some (.int .i64 n.at_)) ∧
   RepC w B E (.l 112 5 (n.ins.map varD)) (.slice ua un uc) ∧ RepC w B E (.l 112 5 (n.outs.map varD)) (.slice ta tn tc) ∧ RepC w B E (.l 112 5 (n.locals.map varD)) (.slice la ln lc) ∧ RepC w B E (.l 40 12 (itemsD n.items)) (.slice ia jn ic) := by
 obtain ⟨g, vs, ha, hr, hq⟩ := nRowAt h (nMap nodeD (fun x => by cases x; rfl) l) t (nAt nodeD hx)
 simp only [nodeD] at hr
 obtain ⟨r1, rfl, h_1⟩ := RepRow.cInv hr
 obtain ⟨ua, un, uc, r2, rfl, k1, h_2⟩ := h_1.lInv
 obtain ⟨ta, tn, tc, r3, rfl, k2, h_3⟩ := h_2.lInv
 obtain ⟨la, ln, lc, r4, rfl, k3, h_4⟩ := h_3.lInv
 obtain ⟨ia, jn, ic, r5, rfl, k4, h_5⟩ := h_4.lInv
 obtain ⟨r6, rfl, h_6⟩ := h_5.cInv
 exact ⟨g, ua, un, uc, ta, tn, tc, la, ln, lc, ia, jn, ic, ha, ⟨by have := hq 0 _ rfl; rwa [Nat.add_zero] at this, hq 1 _ rfl, hq 2 _ rfl, hq 3 _ rfl, hq 4 _ rfl, hq 5 _ rfl⟩, k1, k2, k3, k4⟩
theorem nodesLen {w : World} {B : Nat} {E : List Nat} {L cap : Nat} {a : Option Addr} {l : List Gram.Node} (h : RepC w B E (.l 31 6 (l.map nodeD)) (.slice a L cap)) : L = l.length ∧ L ≤ maxLen := by
 have := nLen h
 rwa [List.length_map] at this
open Go.RowKit Go.Maps Go.WideMaps
theorem num5_any (n : Int) (w : World) : Calls Tryz.prog 19 #[.int .i64 n] w fun e w' => e = .returned (.int .i64 n) ∧ w' = w := by
 go_enter Tryz.func19, Tryz.ntmps19
 go_wp2
 go_ret
 exact ⟨rfl, rfl⟩
theorem prog5_ok {s : ByteArray} (hs : s.size ≤ 8000) {l : List Gram.Node} (hp : Gram.Rf.parse s.data.toList = .ok l) (w : World) : Calls Tryz.prog 9 #[.string s] w fun e w' => ∃ a L c, e = .returned (.tuple #[.agg #[.slice a L c], .bool true]) ∧ RepC w' w.heap.size [] (.l 31 6 (l.map nodeD)) (.slice a L c) ∧ w.grownBy w' none := by
 have hpa := rparse_any s (w.alloc prE) (by rw [hp]; simp)
 rw [hp] at hpa
 simp only [rpsPost] at hpa
 have hg0 := ga w prE none
 have hr0 := heap_alloc_new w prE
 have hs0 : (w.alloc prE).heap.size = w.heap.size + 1 := by simp
 have hd : decide ((8000 : Int) < (s.size : Int)) = false := by rw [decide_eq_false_iff_not]; omega
 have HG0 := ld hg0
 have HR0 := ld hr0
 unfold prE at hpa
 clear hp hg0 hr0
 go_enter Tryz.func9, Tryz.ntmps9
 go_wp2_with (first | (go_at_call 20; refine hpa.mono ?_; rintro e w1 ⟨a, L, c, rfl, hk, hg1⟩; refine Hid.out ?_))
 rw [show (Obj.cells #[Value.slice none 0 0] 25) = prE from rfl] at hg1 hk
 have hga := ga w1 (.cells #[.slice a L c] 25 (0, 0)) none
 have hgx : (w.alloc prE).grownBy (w1.alloc (.cells #[.slice a L c] 25 (0, 0))) none := hg1.trans hga
 have hce := (hgx.block w.heap.size (by omega) (by simp)).trans HR0.out
 have z0 := cell_of_row _ _ 0 _ _ _ (heap_alloc_new w1 (.cells #[.slice a L c] 25 (0, 0)))
 have HK := ld (And.intro (RepC.kept hga (fun k e => by cases e) hk) (HG0.out.trans hgx))
 clear hk hg1 hga hgx hpa HR0
 refine ld ?_
 go_wp2_with (with_reducible refine hold_st 2 ?_)
 refine ld ?_
 refine sg hce ?_
 intro w7 hh7 hg7
 go_wp2
 (try simp only [Exit.inBlock, Exit.then])
 refine bodyPost_ret (results_cell_tmp rfl _ _ w.heap.size 25 _ (0, 0) _ _ rfl rfl hh7 Tryz.underlying25 rfl (by kernel_rfl)) rfl ?_
 exact ⟨_, _, _, rfl, RepC.mono (by omega) (RepC.kept hg7 (fun k e => by cases e; omega) HK.out.1), HK.out.2.andThen hg7 (fun j e => .inl (by cases e; exact Nat.le_refl _))⟩
end Go.Proofs.YtonafedbehnneaaGreat
