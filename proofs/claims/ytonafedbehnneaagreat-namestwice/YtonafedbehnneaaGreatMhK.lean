/- My texts NmN NmO NmP NmQ NmR, joined. -/
import Derived.Test.YtonafedbehnneaaGreatMhJ
set_option linter.unusedVariables false
set_option linter.unusedSimpArgs false
set_option linter.unnecessarySimpa false
set_option linter.unusedSectionVars false
set_option maxHeartbeats 12800000
set_option maxRecDepth 20000
namespace Go.Proofs.YtonafedbehnneaaGreat
open Go.RowKit Go.Maps Go.WideMaps
open Nam (St F)
theorem wp_region_L2 {P : Program} {ops : Array Oper} {Q : Exit → Act → World → Prop} {S : World → Prop} {id : Nat} {a : Act} {w : World} (hm : P.follows .mixedOrders = true) (h : wpL P .any ops Q S [] ops.size (Array.replicate ops.size false) a w.drew) : (Code.region id ops true).wp P Q a w := wp_region_L hm h
section
variable (A : Adr) (w0 w : World) (st : St) (ab sb nb ob : Nat) (qa ua ta la ia : Option Addr) (qn qc un uc tn tc ln lc jn ic : Nat) (nm : List UInt8) (at_ : Int) (dv : Value) (vs : List Gram.Var)
theorem sEnter_any (hab : w.heap[ab]? = some (.cells #[.pointer (some ⟨A.c, 0, none⟩), .slice qa qn qc, .map (some ob)] 137 (0, 0))) (hsb : w.heap[sb]? = some (.cells #[.pointer (some ⟨ab, 0, none⟩), .string ⟨nm.toArray⟩, .slice ua un uc, .slice ta tn tc, .slice la ln lc, .slice ia jn ic, .int .i64 at_, dv] 143 (0, 0))) (haX : ab ∉ [A.b0, A.b1, A.b2]) (hsX : sb ∉ [A.b0, A.b1, A.b2]) (h : Ck w0 w A st) (hv : RepC w0 0 [] (.l 112 5 (vs.map varD)) (.slice la ln lc)) (ra re : Int) (r2 : St) (hr : Nam.declare true vs st = some ((ra, re), r2)) :
  Calls Tryz.prog 104 #[.pointer (some ⟨sb, 0, none⟩)] w fun e w' => e = .returned (.agg #[.int .i64 ra, .int .i64 re]) ∧ Ck w0 w' A r2 ∧ Kp [A.b1, A.b2] w w' := by
 obtain ⟨W1, hW1⟩ : ∃ W1, W1 = w.alloc fo := ⟨_, rfl⟩
 have hg1 : w.grownBy W1 none := by rw [hW1]; exact ga w fo none
 have hgd : w.grownBy W1.drew none := gdrew hg1
 have hce : W1.drew.heap[w.heap.size]? = some fo := by rw [hW1]; exact heap_alloc_new w fo
 have hS0 : (fun W' => W'.heap[ab]? = some (.cells #[.pointer (some ⟨A.c, 0, none⟩), .slice qa qn qc, .map (some ob)] 137 (0, 0)) ∧ W'.heap[sb]? = some (.cells #[.pointer (some ⟨ab, 0, none⟩), .string ⟨nm.toArray⟩, .slice ua un uc, .slice ta tn tc, .slice la ln lc, .slice ia jn ic, .int .i64 at_, dv] 143 (0, 0))) W1.drew := ⟨(hgd.block ab (gl hab) (by simp)).trans hab, (hgd.block sb (gl hsb) (by simp)).trans hsb⟩
 have hlb := (gl hsb)
 have hla := (gl hab)
 have hlt := h.lt
 have hcall := declare2_any A vs _ _ _ st w0 W1.drew _ (h.kept hgd) hv hr
 have HF : Hid (W1 = w.alloc fo) := ld hW1
 obtain ⟨HCe, HG1⟩ : Hid (W1.drew.heap[w.heap.size]? = some fo) ∧ Hid (w.grownBy W1.drew none) := ⟨ld hce, ld hgd⟩
 have hfw : w.heap.size ∉ [A.b0, A.b1, A.b2] := by simp; omega
 clear hce hgd hg1 hW1
 go_enter Tryz.func104, Tryz.ntmps104
 go_wp2
 rw [show (Obj.cells #[Value.int .i64 0, Value.int .i64 0] 63) = fo from rfl, ← HF.out]
 refine wp_region_L2 (S := fun W' => W'.heap[ab]? = some (.cells #[.pointer (some ⟨A.c, 0, none⟩), .slice qa qn qc, .map (some ob)] 137 (0, 0)) ∧ W'.heap[sb]? = some (.cells #[.pointer (some ⟨ab, 0, none⟩), .string ⟨nm.toArray⟩, .slice ua un uc, .slice ta tn tc, .slice la ln lc, .slice ia jn ic, .int .i64 at_, dv] 143 (0, 0))) (by kernel_rfl) ?_
 clear HF
 refine t1 0 3 (.pointer (some ⟨sb, 0, none⟩)) hS0 ?_
 (try simp only [Act.put, sA, sB, sC])
 refine t1 1 4 (.pointer (some ⟨sb, 0, none⟩)) hS0 ?_
 (try simp only [Act.put, sA, sB, sC])
 refine t1 2 5 (.pointer (some ⟨sb, 0, none⟩)) hS0 ?_
 (try simp only [Act.put, sA, sB, sC])
 refine t2 3 6 (.pointer (some ⟨ab, 0, none⟩)) (fun w' hw' => ?_) hS0 ?_
 ·have hc0 := cell_of_row w' _ 0 _ _ _ (hw'.2); clear hw'; go_simp
 (try simp only [Act.put, sA, sB, sC])
 refine t1 4 7 (.pointer (some ⟨ab, 0, none⟩)) hS0 ?_
 (try simp only [Act.put, sA, sB, sC])
 refine t1 5 8 (.pointer (some ⟨ab, 0, none⟩)) hS0 ?_
 (try simp only [Act.put, sA, sB, sC])
 refine t2 6 9 (.pointer (some ⟨A.c, 0, none⟩)) (fun w' hw' => ?_) hS0 ?_
 ·have hc0 := cell_of_row w' _ 0 _ _ _ (hw'.1); clear hw'; go_simp
 (try simp only [Act.put, sA, sB, sC])
 refine t1 7 10 (.pointer (some ⟨sb, 0, none⟩)) hS0 ?_
 (try simp only [Act.put, sA, sB, sC])
 refine t1 8 11 (.pointer (some ⟨sb, 0, none⟩)) hS0 ?_
 (try simp only [Act.put, sA, sB, sC])
 refine t1 9 12 (.pointer (some ⟨sb, 1, none⟩)) hS0 ?_
 (try simp only [Act.put, sA, sB, sC])
 refine t1 10 13 (.pointer (some ⟨sb, 4, none⟩)) hS0 ?_
 (try simp only [Act.put, sA, sB, sC])
 refine t2 11 14 (.slice la ln lc) (fun w' hw' => ?_) hS0 ?_
 ·have hc0 := cell_of_row w' _ 4 _ _ _ (hw'.2); clear hw'; go_simp
 (try simp only [Act.put, sA, sB, sC])
 refine wpL_call (i := 12) (d := 15) (R := fun v w' => v = .agg #[.int .i64 ra, .int .i64 re] ∧ (Ck w0 w' A r2 ∧ Kp [A.b1, A.b2] W1.drew w')) (by kernel_rfl) rfl (by kernel_rfl) (by kernel_rfl) (by kernel_rfl) (hcall.mono fun e w' he => ⟨_, he.1, rfl, he.2⟩) (fun v w' h => ⟨h.2.2.at hS0.1 (fun e => haX (List.mem_cons_of_mem _ e)), h.2.2.at hS0.2 (fun e => hsX (List.mem_cons_of_mem _ e))⟩) (fun v w2 h => ?_)
 have hR := h.2
 rw [h.1]
 have hS1 : (fun W' => W'.heap[ab]? = some (.cells #[.pointer (some ⟨A.c, 0, none⟩), .slice qa qn qc, .map (some ob)] 137 (0, 0)) ∧ W'.heap[sb]? = some (.cells #[.pointer (some ⟨ab, 0, none⟩), .string ⟨nm.toArray⟩, .slice ua un uc, .slice ta tn tc, .slice la ln lc, .slice ia jn ic, .int .i64 at_, dv] 143 (0, 0))) w2 := (fun v w' (h : v = v ∧ _) => ⟨h.2.2.at hS0.1 (fun e => haX (List.mem_cons_of_mem _ e)), h.2.2.at hS0.2 (fun e => hsX (List.mem_cons_of_mem _ e))⟩) undef w2 ⟨rfl, hR⟩
 have HR2 := ld hR
 clear h v hR
 (try simp only [Act.put, sA, sB, sC])
 have hce2 : w2.heap[w.heap.size]? = some fo := HR2.out.2.at HCe.out (fun e => hfw (List.mem_cons_of_mem _ e))
 refine wpL_store (i := 13) w.heap.size #[.int .i64 ra, .int .i64 re] _ 63 63 _ _ (by kernel_rfl) rfl (by kernel_rfl) (by kernel_rfl) rfl rfl rfl hce2 (by kernel_rfl) rfl (by kernel_rfl) (fun w7 hh7 hg7 => ⟨?_, ?_⟩)
 ·exact ⟨(hg7.block ab (gl hS1.1) (by simp; omega)).trans hS1.1, (hg7.block sb (gl hS1.2) (by simp; omega)).trans hS1.2⟩
 (try simp only [Act.put, sA, sB, sC])
 refine wpL_done (by kernel_rfl) ?_ _
 go_wp2
 (try simp only [Exit.inBlock, Exit.then])
 refine br hh7 Tryz.underlying63 ?_
 exact ⟨rfl, HR2.out.1.keptB hg7 ⟨h.base.size, by have := h.mm.lt; simp; omega⟩, ((Kp.of0 HG1.out _).trans HR2.out.2).trans' hg7 (Nat.le_refl _)⟩
theorem sMissing_any (hab : w.heap[ab]? = some (.cells #[.pointer (some ⟨A.c, 0, none⟩), .slice qa qn qc, .map (some ob)] 137 (0, 0))) (hsb : w.heap[sb]? = some (.cells #[.pointer (some ⟨ab, 0, none⟩), .string ⟨nm.toArray⟩, .slice ua un uc, .slice ta tn tc, .slice la ln lc, .slice ia jn ic, .int .i64 at_, dv] 143 (0, 0))) (haX : ab ∉ [A.b0, A.b1, A.b2]) (hsX : sb ∉ [A.b0, A.b1, A.b2]) (h : Ck w0 w A st) (hv : RepC w0 0 [] (.l 112 5 (vs.map varD)) (.slice la ln lc)) (b : Option Nat) (hdv : dv = .map b) (n : Nat) (D' : List (List UInt8)) (hD : SetO w b n D') (ra re : Int) (hr : Nam.missing D' vs = some (ra, re)) :
  Calls Tryz.prog 108 #[.pointer (some ⟨sb, 0, none⟩)] w fun e w' => e = .returned (.agg #[.int .i64 ra, .int .i64 re]) ∧ w.grownBy w' none := by
 obtain ⟨W1, hW1⟩ : ∃ W1, W1 = w.alloc fo := ⟨_, rfl⟩
 have hg1 : w.grownBy W1 none := by rw [hW1]; exact ga w fo none
 have hgd : w.grownBy W1.drew none := gdrew hg1
 have hce : W1.drew.heap[w.heap.size]? = some fo := by rw [hW1]; exact heap_alloc_new w fo
 have hS0 : (fun W' => W'.heap[ab]? = some (.cells #[.pointer (some ⟨A.c, 0, none⟩), .slice qa qn qc, .map (some ob)] 137 (0, 0)) ∧ W'.heap[sb]? = some (.cells #[.pointer (some ⟨ab, 0, none⟩), .string ⟨nm.toArray⟩, .slice ua un uc, .slice ta tn tc, .slice la ln lc, .slice ia jn ic, .int .i64 at_, dv] 143 (0, 0))) W1.drew := ⟨(hgd.block ab (gl hab) (by simp)).trans hab, (hgd.block sb (gl hsb) (by simp)).trans hsb⟩
 have hlb := (gl hsb)
 have hla := (gl hab)
 have hlt := h.lt
 have hcall := missing_any b n D' vs _ _ _ w0 W1.drew _ (h.base.trans hgd) hv (hD.kept hgd) hr
 rw [← hdv] at hcall
 have HF : Hid (W1 = w.alloc fo) := ld hW1
 obtain ⟨HCe, HG1⟩ : Hid (W1.drew.heap[w.heap.size]? = some fo) ∧ Hid (w.grownBy W1.drew none) := ⟨ld hce, ld hgd⟩
 have hfw : w.heap.size ∉ [A.b0, A.b1, A.b2] := by simp; omega
 clear hce hgd hg1 hW1
 go_enter Tryz.func108, Tryz.ntmps108
 go_wp2
 rw [show (Obj.cells #[Value.int .i64 0, Value.int .i64 0] 63) = fo from rfl, ← HF.out]
 refine wp_region_L2 (S := fun W' => W'.heap[ab]? = some (.cells #[.pointer (some ⟨A.c, 0, none⟩), .slice qa qn qc, .map (some ob)] 137 (0, 0)) ∧ W'.heap[sb]? = some (.cells #[.pointer (some ⟨ab, 0, none⟩), .string ⟨nm.toArray⟩, .slice ua un uc, .slice ta tn tc, .slice la ln lc, .slice ia jn ic, .int .i64 at_, dv] 143 (0, 0))) (by kernel_rfl) ?_
 clear HF
 refine t1 0 3 (.pointer (some ⟨sb, 0, none⟩)) hS0 ?_
 (try simp only [Act.put, sA, sB, sC])
 refine t1 1 4 (.pointer (some ⟨sb, 0, none⟩)) hS0 ?_
 (try simp only [Act.put, sA, sB, sC])
 refine t1 2 5 (.pointer (some ⟨sb, 1, none⟩)) hS0 ?_
 (try simp only [Act.put, sA, sB, sC])
 refine t1 3 6 (.pointer (some ⟨sb, 4, none⟩)) hS0 ?_
 (try simp only [Act.put, sA, sB, sC])
 refine t2 4 7 (.slice la ln lc) (fun w' hw' => ?_) hS0 ?_
 ·have hc0 := cell_of_row w' _ 4 _ _ _ (hw'.2); clear hw'; go_simp
 (try simp only [Act.put, sA, sB, sC])
 refine t1 5 8 (.pointer (some ⟨sb, 0, none⟩)) hS0 ?_
 (try simp only [Act.put, sA, sB, sC])
 refine t1 6 9 (.pointer (some ⟨sb, 0, none⟩)) hS0 ?_
 (try simp only [Act.put, sA, sB, sC])
 refine t1 7 10 (.pointer (some ⟨sb, 7, none⟩)) hS0 ?_
 (try simp only [Act.put, sA, sB, sC])
 refine t2 8 11 dv (fun w' hw' => ?_) hS0 ?_
 ·have hc0 := cell_of_row w' _ 7 _ _ _ (hw'.2); clear hw'; go_simp
 (try simp only [Act.put, sA, sB, sC])
 refine wpL_call (i := 9) (d := 12) (R := fun v w' => v = .agg #[.int .i64 ra, .int .i64 re] ∧ (W1.drew.grownBy w' none)) (by kernel_rfl) rfl (by kernel_rfl) (by kernel_rfl) (by kernel_rfl) (hcall.mono fun e w' he => ⟨_, he.1, rfl, he.2⟩) (fun v w' h => ⟨(h.2.block _ (gl hS0.1) (by simp)).trans hS0.1, (h.2.block _ (gl hS0.2) (by simp)).trans hS0.2⟩) (fun v w2 h => ?_)
 have hR := h.2
 rw [h.1]
 have hS1 : (fun W' => W'.heap[ab]? = some (.cells #[.pointer (some ⟨A.c, 0, none⟩), .slice qa qn qc, .map (some ob)] 137 (0, 0)) ∧ W'.heap[sb]? = some (.cells #[.pointer (some ⟨ab, 0, none⟩), .string ⟨nm.toArray⟩, .slice ua un uc, .slice ta tn tc, .slice la ln lc, .slice ia jn ic, .int .i64 at_, dv] 143 (0, 0))) w2 := (fun v w' (h : v = v ∧ _) => ⟨(h.2.block _ (gl hS0.1) (by simp)).trans hS0.1, (h.2.block _ (gl hS0.2) (by simp)).trans hS0.2⟩) undef w2 ⟨rfl, hR⟩
 have HR2 := ld hR
 clear h v hR
 (try simp only [Act.put, sA, sB, sC])
 have hce2 : w2.heap[w.heap.size]? = some fo := (HR2.out.block _ (gl HCe.out) (by simp)).trans HCe.out
 refine wpL_store (i := 10) w.heap.size #[.int .i64 ra, .int .i64 re] _ 63 63 _ _ (by kernel_rfl) rfl (by kernel_rfl) (by kernel_rfl) rfl rfl rfl hce2 (by kernel_rfl) rfl (by kernel_rfl) (fun w7 hh7 hg7 => ⟨?_, ?_⟩)
 ·exact ⟨(hg7.block ab (gl hS1.1) (by simp; omega)).trans hS1.1, (hg7.block sb (gl hS1.2) (by simp; omega)).trans hS1.2⟩
 (try simp only [Act.put, sA, sB, sC])
 refine wpL_done (by kernel_rfl) ?_ _
 go_wp2
 (try simp only [Exit.inBlock, Exit.then])
 refine br hh7 Tryz.underlying63 ?_
 exact ⟨rfl, (HG1.out.trans HR2.out).andThen hg7 (fun j e => .inl (by cases e; exact Nat.le_refl _))⟩
theorem nIns_any (hnb : w.heap[nb]? = some (.cells #[.pointer (some ⟨A.c, 0, none⟩), .string ⟨nm.toArray⟩, .slice ua un uc, .slice ta tn tc, .slice la ln lc, .slice ia jn ic, .int .i64 at_, dv] 80 (0, 0))) (hnX : nb ∉ [A.b0, A.b1, A.b2]) (h : Ck w0 w A st) (hv : RepC w0 0 [] (.l 112 5 (vs.map varD)) (.slice ua un uc)) (ra re : Int) (r2 : St) (hr : Nam.declare false vs st = some ((ra, re), r2)) :
  Calls Tryz.prog 36 #[.pointer (some ⟨nb, 0, none⟩)] w fun e w' => e = .returned (.agg #[.int .i64 ra, .int .i64 re]) ∧ Ck w0 w' A r2 ∧ Kp [A.b1, A.b2] w w' := by
 obtain ⟨W1, hW1⟩ : ∃ W1, W1 = w.alloc fo := ⟨_, rfl⟩
 have hg1 : w.grownBy W1 none := by rw [hW1]; exact ga w fo none
 have hgd : w.grownBy W1.drew none := gdrew hg1
 have hce : W1.drew.heap[w.heap.size]? = some fo := by rw [hW1]; exact heap_alloc_new w fo
 have hS0 : (fun W' => W'.heap[nb]? = some (.cells #[.pointer (some ⟨A.c, 0, none⟩), .string ⟨nm.toArray⟩, .slice ua un uc, .slice ta tn tc, .slice la ln lc, .slice ia jn ic, .int .i64 at_, dv] 80 (0, 0))) W1.drew := (hgd.block nb (gl hnb) (by simp)).trans hnb
 have hlb := (gl hnb)
 have hlt := h.lt
 have hcall := declare1_any A vs _ _ _ st w0 W1.drew _ (h.kept hgd) hv hr
 have HF : Hid (W1 = w.alloc fo) := ld hW1
 obtain ⟨HCe, HG1⟩ : Hid (W1.drew.heap[w.heap.size]? = some fo) ∧ Hid (w.grownBy W1.drew none) := ⟨ld hce, ld hgd⟩
 have hfw : w.heap.size ∉ [A.b0, A.b1, A.b2] := by simp; omega
 clear hce hgd hg1 hW1
 go_enter Tryz.func36, Tryz.ntmps36
 go_wp2
 rw [show (Obj.cells #[Value.int .i64 0, Value.int .i64 0] 63) = fo from rfl, ← HF.out]
 refine wp_region_L2 (S := fun W' => W'.heap[nb]? = some (.cells #[.pointer (some ⟨A.c, 0, none⟩), .string ⟨nm.toArray⟩, .slice ua un uc, .slice ta tn tc, .slice la ln lc, .slice ia jn ic, .int .i64 at_, dv] 80 (0, 0))) (by kernel_rfl) ?_
 clear HF
 refine t1 0 3 (.pointer (some ⟨nb, 0, none⟩)) hS0 ?_
 (try simp only [Act.put, sA, sB, sC])
 refine t1 1 4 (.pointer (some ⟨nb, 0, none⟩)) hS0 ?_
 (try simp only [Act.put, sA, sB, sC])
 refine t1 2 5 (.pointer (some ⟨nb, 0, none⟩)) hS0 ?_
 (try simp only [Act.put, sA, sB, sC])
 refine t2 3 6 (.pointer (some ⟨A.c, 0, none⟩)) (fun w' hw' => ?_) hS0 ?_
 ·have hc0 := cell_of_row w' _ 0 _ _ _ (hw'); clear hw'; go_simp
 (try simp only [Act.put, sA, sB, sC])
 refine t1 4 7 (.pointer (some ⟨nb, 0, none⟩)) hS0 ?_
 (try simp only [Act.put, sA, sB, sC])
 refine t1 5 8 (.pointer (some ⟨nb, 0, none⟩)) hS0 ?_
 (try simp only [Act.put, sA, sB, sC])
 refine t1 6 9 (.pointer (some ⟨nb, 1, none⟩)) hS0 ?_
 (try simp only [Act.put, sA, sB, sC])
 refine t1 7 10 (.pointer (some ⟨nb, 2, none⟩)) hS0 ?_
 (try simp only [Act.put, sA, sB, sC])
 refine t2 8 11 (.slice ua un uc) (fun w' hw' => ?_) hS0 ?_
 ·have hc0 := cell_of_row w' _ 2 _ _ _ (hw'); clear hw'; go_simp
 (try simp only [Act.put, sA, sB, sC])
 refine wpL_call (i := 9) (d := 12) (R := fun v w' => v = .agg #[.int .i64 ra, .int .i64 re] ∧ (Ck w0 w' A r2 ∧ Kp [A.b1, A.b2] W1.drew w')) (by kernel_rfl) rfl (by kernel_rfl) (by kernel_rfl) (by kernel_rfl) (hcall.mono fun e w' he => ⟨_, he.1, rfl, he.2⟩) (fun v w' h => h.2.2.at hS0 (fun e => hnX (List.mem_cons_of_mem _ e))) (fun v w2 h => ?_)
 have hR := h.2
 rw [h.1]
 have hS1 : (fun W' => W'.heap[nb]? = some (.cells #[.pointer (some ⟨A.c, 0, none⟩), .string ⟨nm.toArray⟩, .slice ua un uc, .slice ta tn tc, .slice la ln lc, .slice ia jn ic, .int .i64 at_, dv] 80 (0, 0))) w2 := (fun v w' (h : v = v ∧ _) => h.2.2.at hS0 (fun e => hnX (List.mem_cons_of_mem _ e))) undef w2 ⟨rfl, hR⟩
 have HR2 := ld hR
 clear h v hR
 (try simp only [Act.put, sA, sB, sC])
 have hce2 : w2.heap[w.heap.size]? = some fo := HR2.out.2.at HCe.out (fun e => hfw (List.mem_cons_of_mem _ e))
 refine wpL_store (i := 10) w.heap.size #[.int .i64 ra, .int .i64 re] _ 63 63 _ _ (by kernel_rfl) rfl (by kernel_rfl) (by kernel_rfl) rfl rfl rfl hce2 (by kernel_rfl) rfl (by kernel_rfl) (fun w7 hh7 hg7 => ⟨?_, ?_⟩)
 ·exact (hg7.block nb (gl hS1) (by simp; omega)).trans hS1
 (try simp only [Act.put, sA, sB, sC])
 refine wpL_done (by kernel_rfl) ?_ _
 go_wp2
 (try simp only [Exit.inBlock, Exit.then])
 refine br hh7 Tryz.underlying63 ?_
 exact ⟨rfl, HR2.out.1.keptB hg7 ⟨h.base.size, by have := h.mm.lt; simp; omega⟩, ((Kp.of0 HG1.out _).trans HR2.out.2).trans' hg7 (Nat.le_refl _)⟩
theorem nOuts_any (hnb : w.heap[nb]? = some (.cells #[.pointer (some ⟨A.c, 0, none⟩), .string ⟨nm.toArray⟩, .slice ua un uc, .slice ta tn tc, .slice la ln lc, .slice ia jn ic, .int .i64 at_, dv] 80 (0, 0))) (hnX : nb ∉ [A.b0, A.b1, A.b2]) (h : Ck w0 w A st) (hv : RepC w0 0 [] (.l 112 5 (vs.map varD)) (.slice ta tn tc)) (ra re : Int) (r2 : St) (hr : Nam.declare true vs st = some ((ra, re), r2)) :
  Calls Tryz.prog 37 #[.pointer (some ⟨nb, 0, none⟩)] w fun e w' => e = .returned (.agg #[.int .i64 ra, .int .i64 re]) ∧ Ck w0 w' A r2 ∧ Kp [A.b1, A.b2] w w' := by
 obtain ⟨W1, hW1⟩ : ∃ W1, W1 = w.alloc fo := ⟨_, rfl⟩
 have hg1 : w.grownBy W1 none := by rw [hW1]; exact ga w fo none
 have hgd : w.grownBy W1.drew none := gdrew hg1
 have hce : W1.drew.heap[w.heap.size]? = some fo := by rw [hW1]; exact heap_alloc_new w fo
 have hS0 : (fun W' => W'.heap[nb]? = some (.cells #[.pointer (some ⟨A.c, 0, none⟩), .string ⟨nm.toArray⟩, .slice ua un uc, .slice ta tn tc, .slice la ln lc, .slice ia jn ic, .int .i64 at_, dv] 80 (0, 0))) W1.drew := (hgd.block nb (gl hnb) (by simp)).trans hnb
 have hlb := (gl hnb)
 have hlt := h.lt
 have hcall := declare2_any A vs _ _ _ st w0 W1.drew _ (h.kept hgd) hv hr
 have HF : Hid (W1 = w.alloc fo) := ld hW1
 obtain ⟨HCe, HG1⟩ : Hid (W1.drew.heap[w.heap.size]? = some fo) ∧ Hid (w.grownBy W1.drew none) := ⟨ld hce, ld hgd⟩
 have hfw : w.heap.size ∉ [A.b0, A.b1, A.b2] := by simp; omega
 clear hce hgd hg1 hW1
 go_enter Tryz.func37, Tryz.ntmps37
 go_wp2
 rw [show (Obj.cells #[Value.int .i64 0, Value.int .i64 0] 63) = fo from rfl, ← HF.out]
 refine wp_region_L2 (S := fun W' => W'.heap[nb]? = some (.cells #[.pointer (some ⟨A.c, 0, none⟩), .string ⟨nm.toArray⟩, .slice ua un uc, .slice ta tn tc, .slice la ln lc, .slice ia jn ic, .int .i64 at_, dv] 80 (0, 0))) (by kernel_rfl) ?_
 clear HF
 refine t1 0 3 (.pointer (some ⟨nb, 0, none⟩)) hS0 ?_
 (try simp only [Act.put, sA, sB, sC])
 refine t1 1 4 (.pointer (some ⟨nb, 0, none⟩)) hS0 ?_
 (try simp only [Act.put, sA, sB, sC])
 refine t1 2 5 (.pointer (some ⟨nb, 0, none⟩)) hS0 ?_
 (try simp only [Act.put, sA, sB, sC])
 refine t2 3 6 (.pointer (some ⟨A.c, 0, none⟩)) (fun w' hw' => ?_) hS0 ?_
 ·have hc0 := cell_of_row w' _ 0 _ _ _ (hw'); clear hw'; go_simp
 (try simp only [Act.put, sA, sB, sC])
 refine t1 4 7 (.pointer (some ⟨nb, 0, none⟩)) hS0 ?_
 (try simp only [Act.put, sA, sB, sC])
 refine t1 5 8 (.pointer (some ⟨nb, 0, none⟩)) hS0 ?_
 (try simp only [Act.put, sA, sB, sC])
 refine t1 6 9 (.pointer (some ⟨nb, 1, none⟩)) hS0 ?_
 (try simp only [Act.put, sA, sB, sC])
 refine t1 7 10 (.pointer (some ⟨nb, 3, none⟩)) hS0 ?_
 (try simp only [Act.put, sA, sB, sC])
 refine t2 8 11 (.slice ta tn tc) (fun w' hw' => ?_) hS0 ?_
 ·have hc0 := cell_of_row w' _ 3 _ _ _ (hw'); clear hw'; go_simp
 (try simp only [Act.put, sA, sB, sC])
 refine wpL_call (i := 9) (d := 12) (R := fun v w' => v = .agg #[.int .i64 ra, .int .i64 re] ∧ (Ck w0 w' A r2 ∧ Kp [A.b1, A.b2] W1.drew w')) (by kernel_rfl) rfl (by kernel_rfl) (by kernel_rfl) (by kernel_rfl) (hcall.mono fun e w' he => ⟨_, he.1, rfl, he.2⟩) (fun v w' h => h.2.2.at hS0 (fun e => hnX (List.mem_cons_of_mem _ e))) (fun v w2 h => ?_)
 have hR := h.2
 rw [h.1]
 have hS1 : (fun W' => W'.heap[nb]? = some (.cells #[.pointer (some ⟨A.c, 0, none⟩), .string ⟨nm.toArray⟩, .slice ua un uc, .slice ta tn tc, .slice la ln lc, .slice ia jn ic, .int .i64 at_, dv] 80 (0, 0))) w2 := (fun v w' (h : v = v ∧ _) => h.2.2.at hS0 (fun e => hnX (List.mem_cons_of_mem _ e))) undef w2 ⟨rfl, hR⟩
 have HR2 := ld hR
 clear h v hR
 (try simp only [Act.put, sA, sB, sC])
 have hce2 : w2.heap[w.heap.size]? = some fo := HR2.out.2.at HCe.out (fun e => hfw (List.mem_cons_of_mem _ e))
 refine wpL_store (i := 10) w.heap.size #[.int .i64 ra, .int .i64 re] _ 63 63 _ _ (by kernel_rfl) rfl (by kernel_rfl) (by kernel_rfl) rfl rfl rfl hce2 (by kernel_rfl) rfl (by kernel_rfl) (fun w7 hh7 hg7 => ⟨?_, ?_⟩)
 ·exact (hg7.block nb (gl hS1) (by simp; omega)).trans hS1
 (try simp only [Act.put, sA, sB, sC])
 refine wpL_done (by kernel_rfl) ?_ _
 go_wp2
 (try simp only [Exit.inBlock, Exit.then])
 refine br hh7 Tryz.underlying63 ?_
 exact ⟨rfl, HR2.out.1.keptB hg7 ⟨h.base.size, by have := h.mm.lt; simp; omega⟩, ((Kp.of0 HG1.out _).trans HR2.out.2).trans' hg7 (Nat.le_refl _)⟩
theorem nLocals_any (hnb : w.heap[nb]? = some (.cells #[.pointer (some ⟨A.c, 0, none⟩), .string ⟨nm.toArray⟩, .slice ua un uc, .slice ta tn tc, .slice la ln lc, .slice ia jn ic, .int .i64 at_, dv] 80 (0, 0))) (hnX : nb ∉ [A.b0, A.b1, A.b2]) (h : Ck w0 w A st) (hv : RepC w0 0 [] (.l 112 5 (vs.map varD)) (.slice la ln lc)) (ra re : Int) (r2 : St) (hr : Nam.declare true vs st = some ((ra, re), r2)) :
  Calls Tryz.prog 38 #[.pointer (some ⟨nb, 0, none⟩)] w fun e w' => e = .returned (.agg #[.int .i64 ra, .int .i64 re]) ∧ Ck w0 w' A r2 ∧ Kp [A.b1, A.b2] w w' := by
 obtain ⟨W1, hW1⟩ : ∃ W1, W1 = w.alloc fo := ⟨_, rfl⟩
 have hg1 : w.grownBy W1 none := by rw [hW1]; exact ga w fo none
 have hgd : w.grownBy W1.drew none := gdrew hg1
 have hce : W1.drew.heap[w.heap.size]? = some fo := by rw [hW1]; exact heap_alloc_new w fo
 have hS0 : (fun W' => W'.heap[nb]? = some (.cells #[.pointer (some ⟨A.c, 0, none⟩), .string ⟨nm.toArray⟩, .slice ua un uc, .slice ta tn tc, .slice la ln lc, .slice ia jn ic, .int .i64 at_, dv] 80 (0, 0))) W1.drew := (hgd.block nb (gl hnb) (by simp)).trans hnb
 have hlb := (gl hnb)
 have hlt := h.lt
 have hcall := declare2_any A vs _ _ _ st w0 W1.drew _ (h.kept hgd) hv hr
 have HF : Hid (W1 = w.alloc fo) := ld hW1
 obtain ⟨HCe, HG1⟩ : Hid (W1.drew.heap[w.heap.size]? = some fo) ∧ Hid (w.grownBy W1.drew none) := ⟨ld hce, ld hgd⟩
 have hfw : w.heap.size ∉ [A.b0, A.b1, A.b2] := by simp; omega
 clear hce hgd hg1 hW1
 go_enter Tryz.func38, Tryz.ntmps38
 go_wp2
 rw [show (Obj.cells #[Value.int .i64 0, Value.int .i64 0] 63) = fo from rfl, ← HF.out]
 refine wp_region_L2 (S := fun W' => W'.heap[nb]? = some (.cells #[.pointer (some ⟨A.c, 0, none⟩), .string ⟨nm.toArray⟩, .slice ua un uc, .slice ta tn tc, .slice la ln lc, .slice ia jn ic, .int .i64 at_, dv] 80 (0, 0))) (by kernel_rfl) ?_
 clear HF
 refine t1 0 3 (.pointer (some ⟨nb, 0, none⟩)) hS0 ?_
 (try simp only [Act.put, sA, sB, sC])
 refine t1 1 4 (.pointer (some ⟨nb, 0, none⟩)) hS0 ?_
 (try simp only [Act.put, sA, sB, sC])
 refine t1 2 5 (.pointer (some ⟨nb, 0, none⟩)) hS0 ?_
 (try simp only [Act.put, sA, sB, sC])
 refine t2 3 6 (.pointer (some ⟨A.c, 0, none⟩)) (fun w' hw' => ?_) hS0 ?_
 ·have hc0 := cell_of_row w' _ 0 _ _ _ (hw'); clear hw'; go_simp
 (try simp only [Act.put, sA, sB, sC])
 refine t1 4 7 (.pointer (some ⟨nb, 0, none⟩)) hS0 ?_
 (try simp only [Act.put, sA, sB, sC])
 refine t1 5 8 (.pointer (some ⟨nb, 0, none⟩)) hS0 ?_
 (try simp only [Act.put, sA, sB, sC])
 refine t1 6 9 (.pointer (some ⟨nb, 1, none⟩)) hS0 ?_
 (try simp only [Act.put, sA, sB, sC])
 refine t1 7 10 (.pointer (some ⟨nb, 4, none⟩)) hS0 ?_
 (try simp only [Act.put, sA, sB, sC])
 refine t2 8 11 (.slice la ln lc) (fun w' hw' => ?_) hS0 ?_
 ·have hc0 := cell_of_row w' _ 4 _ _ _ (hw'); clear hw'; go_simp
 (try simp only [Act.put, sA, sB, sC])
 refine wpL_call (i := 9) (d := 12) (R := fun v w' => v = .agg #[.int .i64 ra, .int .i64 re] ∧ (Ck w0 w' A r2 ∧ Kp [A.b1, A.b2] W1.drew w')) (by kernel_rfl) rfl (by kernel_rfl) (by kernel_rfl) (by kernel_rfl) (hcall.mono fun e w' he => ⟨_, he.1, rfl, he.2⟩) (fun v w' h => h.2.2.at hS0 (fun e => hnX (List.mem_cons_of_mem _ e))) (fun v w2 h => ?_)
 have hR := h.2
 rw [h.1]
 have hS1 : (fun W' => W'.heap[nb]? = some (.cells #[.pointer (some ⟨A.c, 0, none⟩), .string ⟨nm.toArray⟩, .slice ua un uc, .slice ta tn tc, .slice la ln lc, .slice ia jn ic, .int .i64 at_, dv] 80 (0, 0))) w2 := (fun v w' (h : v = v ∧ _) => h.2.2.at hS0 (fun e => hnX (List.mem_cons_of_mem _ e))) undef w2 ⟨rfl, hR⟩
 have HR2 := ld hR
 clear h v hR
 (try simp only [Act.put, sA, sB, sC])
 have hce2 : w2.heap[w.heap.size]? = some fo := HR2.out.2.at HCe.out (fun e => hfw (List.mem_cons_of_mem _ e))
 refine wpL_store (i := 10) w.heap.size #[.int .i64 ra, .int .i64 re] _ 63 63 _ _ (by kernel_rfl) rfl (by kernel_rfl) (by kernel_rfl) rfl rfl rfl hce2 (by kernel_rfl) rfl (by kernel_rfl) (fun w7 hh7 hg7 => ⟨?_, ?_⟩)
 ·exact (hg7.block nb (gl hS1) (by simp; omega)).trans hS1
 (try simp only [Act.put, sA, sB, sC])
 refine wpL_done (by kernel_rfl) ?_ _
 go_wp2
 (try simp only [Exit.inBlock, Exit.then])
 refine br hh7 Tryz.underlying63 ?_
 exact ⟨rfl, HR2.out.1.keptB hg7 ⟨h.base.size, by have := h.mm.lt; simp; omega⟩, ((Kp.of0 HG1.out _).trans HR2.out.2).trans' hg7 (Nat.le_refl _)⟩
theorem nOutsDef_any (hnb : w.heap[nb]? = some (.cells #[.pointer (some ⟨A.c, 0, none⟩), .string ⟨nm.toArray⟩, .slice ua un uc, .slice ta tn tc, .slice la ln lc, .slice ia jn ic, .int .i64 at_, dv] 80 (0, 0))) (hnX : nb ∉ [A.b0, A.b1, A.b2]) (h : Ck w0 w A st) (hv : RepC w0 0 [] (.l 112 5 (vs.map varD)) (.slice ta tn tc)) (b : Option Nat) (hdv : dv = .map b) (n : Nat) (D' : List (List UInt8)) (hD : SetO w b n D') (ra re : Int) (hr : Nam.missing D' vs = some (ra, re)) :
  Calls Tryz.prog 40 #[.pointer (some ⟨nb, 0, none⟩)] w fun e w' => e = .returned (.agg #[.int .i64 ra, .int .i64 re]) ∧ w.grownBy w' none := by
 obtain ⟨W1, hW1⟩ : ∃ W1, W1 = w.alloc fo := ⟨_, rfl⟩
 have hg1 : w.grownBy W1 none := by rw [hW1]; exact ga w fo none
 have hgd : w.grownBy W1.drew none := gdrew hg1
 have hce : W1.drew.heap[w.heap.size]? = some fo := by rw [hW1]; exact heap_alloc_new w fo
 have hS0 : (fun W' => W'.heap[nb]? = some (.cells #[.pointer (some ⟨A.c, 0, none⟩), .string ⟨nm.toArray⟩, .slice ua un uc, .slice ta tn tc, .slice la ln lc, .slice ia jn ic, .int .i64 at_, dv] 80 (0, 0))) W1.drew := (hgd.block nb (gl hnb) (by simp)).trans hnb
 have hlb := (gl hnb)
 have hlt := h.lt
 have hcall := missing_any b n D' vs _ _ _ w0 W1.drew _ (h.base.trans hgd) hv (hD.kept hgd) hr
 rw [← hdv] at hcall
 have HF : Hid (W1 = w.alloc fo) := ld hW1
 obtain ⟨HCe, HG1⟩ : Hid (W1.drew.heap[w.heap.size]? = some fo) ∧ Hid (w.grownBy W1.drew none) := ⟨ld hce, ld hgd⟩
 have hfw : w.heap.size ∉ [A.b0, A.b1, A.b2] := by simp; omega
 clear hce hgd hg1 hW1
 go_enter Tryz.func40, Tryz.ntmps40
 go_wp2
 rw [show (Obj.cells #[Value.int .i64 0, Value.int .i64 0] 63) = fo from rfl, ← HF.out]
 refine wp_region_L2 (S := fun W' => W'.heap[nb]? = some (.cells #[.pointer (some ⟨A.c, 0, none⟩), .string ⟨nm.toArray⟩, .slice ua un uc, .slice ta tn tc, .slice la ln lc, .slice ia jn ic, .int .i64 at_, dv] 80 (0, 0))) (by kernel_rfl) ?_
 clear HF
 refine t1 0 3 (.pointer (some ⟨nb, 0, none⟩)) hS0 ?_
 (try simp only [Act.put, sA, sB, sC])
 refine t1 1 4 (.pointer (some ⟨nb, 0, none⟩)) hS0 ?_
 (try simp only [Act.put, sA, sB, sC])
 refine t1 2 5 (.pointer (some ⟨nb, 1, none⟩)) hS0 ?_
 (try simp only [Act.put, sA, sB, sC])
 refine t1 3 6 (.pointer (some ⟨nb, 3, none⟩)) hS0 ?_
 (try simp only [Act.put, sA, sB, sC])
 refine t2 4 7 (.slice ta tn tc) (fun w' hw' => ?_) hS0 ?_
 ·have hc0 := cell_of_row w' _ 3 _ _ _ (hw'); clear hw'; go_simp
 (try simp only [Act.put, sA, sB, sC])
 refine t1 5 8 (.pointer (some ⟨nb, 0, none⟩)) hS0 ?_
 (try simp only [Act.put, sA, sB, sC])
 refine t1 6 9 (.pointer (some ⟨nb, 0, none⟩)) hS0 ?_
 (try simp only [Act.put, sA, sB, sC])
 refine t1 7 10 (.pointer (some ⟨nb, 7, none⟩)) hS0 ?_
 (try simp only [Act.put, sA, sB, sC])
 refine t2 8 11 dv (fun w' hw' => ?_) hS0 ?_
 ·have hc0 := cell_of_row w' _ 7 _ _ _ (hw'); clear hw'; go_simp
 (try simp only [Act.put, sA, sB, sC])
 refine wpL_call (i := 9) (d := 12) (R := fun v w' => v = .agg #[.int .i64 ra, .int .i64 re] ∧ (W1.drew.grownBy w' none)) (by kernel_rfl) rfl (by kernel_rfl) (by kernel_rfl) (by kernel_rfl) (hcall.mono fun e w' he => ⟨_, he.1, rfl, he.2⟩) (fun v w' h => (h.2.block _ (gl hS0) (by simp)).trans hS0) (fun v w2 h => ?_)
 have hR := h.2
 rw [h.1]
 have hS1 : (fun W' => W'.heap[nb]? = some (.cells #[.pointer (some ⟨A.c, 0, none⟩), .string ⟨nm.toArray⟩, .slice ua un uc, .slice ta tn tc, .slice la ln lc, .slice ia jn ic, .int .i64 at_, dv] 80 (0, 0))) w2 := (fun v w' (h : v = v ∧ _) => (h.2.block _ (gl hS0) (by simp)).trans hS0) undef w2 ⟨rfl, hR⟩
 have HR2 := ld hR
 clear h v hR
 (try simp only [Act.put, sA, sB, sC])
 have hce2 : w2.heap[w.heap.size]? = some fo := (HR2.out.block _ (gl HCe.out) (by simp)).trans HCe.out
 refine wpL_store (i := 10) w.heap.size #[.int .i64 ra, .int .i64 re] _ 63 63 _ _ (by kernel_rfl) rfl (by kernel_rfl) (by kernel_rfl) rfl rfl rfl hce2 (by kernel_rfl) rfl (by kernel_rfl) (fun w7 hh7 hg7 => ⟨?_, ?_⟩)
 ·exact (hg7.block nb (gl hS1) (by simp; omega)).trans hS1
 (try simp only [Act.put, sA, sB, sC])
 refine wpL_done (by kernel_rfl) ?_ _
 go_wp2
 (try simp only [Exit.inBlock, Exit.then])
 refine br hh7 Tryz.underlying63 ?_
 exact ⟨rfl, (HG1.out.trans HR2.out).andThen hg7 (fun j e => .inl (by cases e; exact Nat.le_refl _))⟩
theorem nLocalsDef_any (hnb : w.heap[nb]? = some (.cells #[.pointer (some ⟨A.c, 0, none⟩), .string ⟨nm.toArray⟩, .slice ua un uc, .slice ta tn tc, .slice la ln lc, .slice ia jn ic, .int .i64 at_, dv] 80 (0, 0))) (hnX : nb ∉ [A.b0, A.b1, A.b2]) (h : Ck w0 w A st) (hv : RepC w0 0 [] (.l 112 5 (vs.map varD)) (.slice la ln lc)) (b : Option Nat) (hdv : dv = .map b) (n : Nat) (D' : List (List UInt8)) (hD : SetO w b n D') (ra re : Int) (hr : Nam.missing D' vs = some (ra, re)) :
  Calls Tryz.prog 41 #[.pointer (some ⟨nb, 0, none⟩)] w fun e w' => e = .returned (.agg #[.int .i64 ra, .int .i64 re]) ∧ w.grownBy w' none := by
 obtain ⟨W1, hW1⟩ : ∃ W1, W1 = w.alloc fo := ⟨_, rfl⟩
 have hg1 : w.grownBy W1 none := by rw [hW1]; exact ga w fo none
 have hgd : w.grownBy W1.drew none := gdrew hg1
 have hce : W1.drew.heap[w.heap.size]? = some fo := by rw [hW1]; exact heap_alloc_new w fo
 have hS0 : (fun W' => W'.heap[nb]? = some (.cells #[.pointer (some ⟨A.c, 0, none⟩), .string ⟨nm.toArray⟩, .slice ua un uc, .slice ta tn tc, .slice la ln lc, .slice ia jn ic, .int .i64 at_, dv] 80 (0, 0))) W1.drew := (hgd.block nb (gl hnb) (by simp)).trans hnb
 have hlb := (gl hnb)
 have hlt := h.lt
 have hcall := missing_any b n D' vs _ _ _ w0 W1.drew _ (h.base.trans hgd) hv (hD.kept hgd) hr
 rw [← hdv] at hcall
 have HF : Hid (W1 = w.alloc fo) := ld hW1
 obtain ⟨HCe, HG1⟩ : Hid (W1.drew.heap[w.heap.size]? = some fo) ∧ Hid (w.grownBy W1.drew none) := ⟨ld hce, ld hgd⟩
 have hfw : w.heap.size ∉ [A.b0, A.b1, A.b2] := by simp; omega
 clear hce hgd hg1 hW1
 go_enter Tryz.func41, Tryz.ntmps41
 go_wp2
 rw [show (Obj.cells #[Value.int .i64 0, Value.int .i64 0] 63) = fo from rfl, ← HF.out]
 refine wp_region_L2 (S := fun W' => W'.heap[nb]? = some (.cells #[.pointer (some ⟨A.c, 0, none⟩), .string ⟨nm.toArray⟩, .slice ua un uc, .slice ta tn tc, .slice la ln lc, .slice ia jn ic, .int .i64 at_, dv] 80 (0, 0))) (by kernel_rfl) ?_
 clear HF
 refine t1 0 3 (.pointer (some ⟨nb, 0, none⟩)) hS0 ?_
 (try simp only [Act.put, sA, sB, sC])
 refine t1 1 4 (.pointer (some ⟨nb, 0, none⟩)) hS0 ?_
 (try simp only [Act.put, sA, sB, sC])
 refine t1 2 5 (.pointer (some ⟨nb, 1, none⟩)) hS0 ?_
 (try simp only [Act.put, sA, sB, sC])
 refine t1 3 6 (.pointer (some ⟨nb, 4, none⟩)) hS0 ?_
 (try simp only [Act.put, sA, sB, sC])
 refine t2 4 7 (.slice la ln lc) (fun w' hw' => ?_) hS0 ?_
 ·have hc0 := cell_of_row w' _ 4 _ _ _ (hw'); clear hw'; go_simp
 (try simp only [Act.put, sA, sB, sC])
 refine t1 5 8 (.pointer (some ⟨nb, 0, none⟩)) hS0 ?_
 (try simp only [Act.put, sA, sB, sC])
 refine t1 6 9 (.pointer (some ⟨nb, 0, none⟩)) hS0 ?_
 (try simp only [Act.put, sA, sB, sC])
 refine t1 7 10 (.pointer (some ⟨nb, 7, none⟩)) hS0 ?_
 (try simp only [Act.put, sA, sB, sC])
 refine t2 8 11 dv (fun w' hw' => ?_) hS0 ?_
 ·have hc0 := cell_of_row w' _ 7 _ _ _ (hw'); clear hw'; go_simp
 (try simp only [Act.put, sA, sB, sC])
 refine wpL_call (i := 9) (d := 12) (R := fun v w' => v = .agg #[.int .i64 ra, .int .i64 re] ∧ (W1.drew.grownBy w' none)) (by kernel_rfl) rfl (by kernel_rfl) (by kernel_rfl) (by kernel_rfl) (hcall.mono fun e w' he => ⟨_, he.1, rfl, he.2⟩) (fun v w' h => (h.2.block _ (gl hS0) (by simp)).trans hS0) (fun v w2 h => ?_)
 have hR := h.2
 rw [h.1]
 have hS1 : (fun W' => W'.heap[nb]? = some (.cells #[.pointer (some ⟨A.c, 0, none⟩), .string ⟨nm.toArray⟩, .slice ua un uc, .slice ta tn tc, .slice la ln lc, .slice ia jn ic, .int .i64 at_, dv] 80 (0, 0))) w2 := (fun v w' (h : v = v ∧ _) => (h.2.block _ (gl hS0) (by simp)).trans hS0) undef w2 ⟨rfl, hR⟩
 have HR2 := ld hR
 clear h v hR
 (try simp only [Act.put, sA, sB, sC])
 have hce2 : w2.heap[w.heap.size]? = some fo := (HR2.out.block _ (gl HCe.out) (by simp)).trans HCe.out
 refine wpL_store (i := 10) w.heap.size #[.int .i64 ra, .int .i64 re] _ 63 63 _ _ (by kernel_rfl) rfl (by kernel_rfl) (by kernel_rfl) rfl rfl rfl hce2 (by kernel_rfl) rfl (by kernel_rfl) (fun w7 hh7 hg7 => ⟨?_, ?_⟩)
 ·exact (hg7.block nb (gl hS1) (by simp; omega)).trans hS1
 (try simp only [Act.put, sA, sB, sC])
 refine wpL_done (by kernel_rfl) ?_ _
 go_wp2
 (try simp only [Exit.inBlock, Exit.then])
 refine br hh7 Tryz.underlying63 ?_
 exact ⟨rfl, (HG1.out.trans HR2.out).andThen hg7 (fun j e => .inl (by cases e; exact Nat.le_refl _))⟩
end
open Go.RowKit Go.Maps Go.WideMaps
open Nam (St F)
def oCode : Option Nat → Int
 | none => -1
 | some b => (b : Int)
theorem mapElem_code (o : Option Nat) : mapElem (.map o) = some (.lit (.int .i64 (oCode o)), []) := by cases o <;> rfl
theorem mapElem_form {v : Value} {z : DataW Unit × List MemPlace} (h : mapElem v = some z) : ∃ o, v = .map o := by
 unfold mapElem at h
 split at h
 ·exact ⟨_, rfl⟩
 ·exact ⟨_, rfl⟩
 ·cases h
theorem mapElem_invO {v : Value} {o : Option Nat} {ps : List MemPlace} (h : mapElem v = some (.lit (.int .i64 (oCode o)), ps)) : v = .map o := by
 cases o with
 | none => exact mapElem_invN h
 | some b => exact mapElem_inv h
def OutAt (w : World) (b n : Nat) (O : List (List UInt8 × Option Nat)) : Prop :=
 ∃ D : DataW Unit, w.ownsMap Tryz.prog 9 mapElem b n D ∧ (∀ s, Maps.has D (.string s) = (O.map Prod.fst).contains s) ∧ (∀ s o, (s, o) ∈ O → ∀ z, D.atKey (.string s) z = .lit (.int .i64 (oCode o)))
section
variable {w w' : World} {b n : Nat} {O : List (List UInt8 × Option Nat)}
theorem OutAt.lt (h : OutAt w b n O) : b < w.heap.size := by
 obtain ⟨D, h1, _⟩ := h
 exact h1.lt
theorem OutAt.keptK {X : List Nat} (h : OutAt w b n O) (hk : Kp X w w') (hb : b ∉ X) : OutAt w' b n O := by
 have hl := h.lt
 obtain ⟨D, ⟨es, clock, e1, e2⟩, h2⟩ := h
 exact ⟨D, ⟨es, clock, (hk.block b hl hb).trans e1, e2⟩, h2⟩
theorem OutAt.kept (h : OutAt w b n O) (hk : w.grownBy w' none) : OutAt w' b n O := h.keptK (Kp.of0 hk []) (by simp)
theorem OutAt.new (w : World) : OutAt (w.alloc (.map #[] 0)) w.heap.size 0 [] :=
 ⟨_, World.ownsMap_made w _ _ _, fun s => by simp [Maps.has_eq], fun s o h => by cases h⟩
theorem OutAt.put {D : DataW Unit} {s : List UInt8} {o : Option Nat} (h1 : w.ownsMap Tryz.prog 9 mapElem b n D) (h2 : ∀ s, Maps.has D (.string s) = (O.map Prod.fst).contains s) (h3 : ∀ s o, (s, o) ∈ O → ∀ z, D.atKey (.string s) z = .lit (.int .i64 (oCode o))) (hs : (O.map Prod.fst).contains s = false)
  (h' : w'.ownsMap Tryz.prog 9 mapElem b (n + 1) (D.put (.string s) (.lit (.int .i64 (oCode o))))) : OutAt w' b (n + 1) (O ++ [(s, o)]) := by
 refine ⟨_, h', fun t => ?_, fun t p hp z => ?_⟩
 ·by_cases e : t = s
  ·subst e
   rw [Maps.has_put_same h1.isMap (isKey_str t)]
   simp
  ·rw [Maps.has_put_other (by intro e2; exact e (by injection e2)), h2]
   simp [e]
 ·rcases List.mem_append.1 hp with h | h
  ·have hne : t ≠ s := fun e => by
    subst e
    have : (O.map Prod.fst).contains t = true := by simp only [List.contains_eq_mem, List.mem_map, decide_eq_true_eq]; exact ⟨_, h, rfl⟩
    rw [this] at hs; cases hs
   rw [Maps.atKey_put_other (by intro e2; exact hne (by injection e2))]
   exact h3 t p h z
  ·simp at h
   obtain ⟨rfl, rfl⟩ := h
   exact Maps.atKey_put_same h1.isMap (isKey_str t) _ _
theorem OutAt.upd {D : DataW Unit} {s : List UInt8} {o : Option Nat} (h1 : w.ownsMap Tryz.prog 9 mapElem b n D) (h2 : ∀ s, Maps.has D (.string s) = (O.map Prod.fst).contains s) (h3 : ∀ s o, (s, o) ∈ O → ∀ z, D.atKey (.string s) z = .lit (.int .i64 (oCode o))) (hs : (O.map Prod.fst).contains s = true)
  (h' : w'.ownsMap Tryz.prog 9 mapElem b (n + 1) (D.put (.string s) (.lit (.int .i64 (oCode o))))) : OutAt w' b (n + 1) (O.map fun x => if x.1 = s then (s, o) else x) := by
 have hmap : (O.map fun x => if x.1 = s then (s, o) else x).map Prod.fst = O.map Prod.fst := by
  rw [List.map_map]
  apply List.map_congr_left
  intro x _
  by_cases e : x.1 = s <;> simp [e]
 refine ⟨_, h', fun t => ?_, fun t p hp z => ?_⟩
 ·rw [hmap]
  by_cases e : t = s
  ·subst e
   rw [Maps.has_put_same h1.isMap (isKey_str t), hs]
  ·rw [Maps.has_put_other (by intro e2; exact e (by injection e2)), h2]
 ·obtain ⟨x, hx, hxe⟩ := List.mem_map.1 hp
  by_cases e : x.1 = s
  ·rw [if_pos e] at hxe
   cases hxe
   exact Maps.atKey_put_same h1.isMap (isKey_str s) _ _
  ·rw [if_neg e] at hxe
   subst hxe
   rw [Maps.atKey_put_other (by intro e2; exact e (by injection e2))]
   exact h3 _ _ hx z
theorem OutAt.look (h : OutAt w b n O) {s : List UInt8} (hs : Nam.short s = true) {o : Option Nat} (hm : (s, o) ∈ O) :
  (Instr.lookup 135 (.map (some b)) (strV s) false).run Tryz.prog w = .ok (.map o) w := by
 obtain ⟨D, h1, _, h3⟩ := h
 obtain ⟨v, ps, hr, hv⟩ := h1.lookup kLaw Tryz.underlying135 (zeroSet w) mapElem_none (key_of s hs)
 rw [h3 s o hm] at hv
 rw [mapElem_invO hv] at hr
 exact hr
end
theorem state_any (A : Adr) (ab ob n : Nat) (qa : Option Addr) (qn qc : Nat) (O : List (List UInt8 × Option Nat)) (s : List UInt8) (hs : Nam.short s = true) (w : World) (hab : w.heap[ab]? = some (.cells #[.pointer (some ⟨A.c, 0, none⟩), .slice qa qn qc, .map (some ob)] 137 (0, 0))) (hO : OutAt w ob n O) :
  Calls Tryz.prog 100 #[.pointer (some ⟨ab, 0, none⟩), strV s] w fun e w' => e = .returned (.bool ((O.map Prod.fst).contains s)) ∧ w' = w := by
 have c2 := cell_of_row w _ 2 _ _ _ hab
 obtain ⟨D, h1, h2, h3⟩ := hO
 obtain ⟨v, ps, hr, hv⟩ := h1.look_ok kLaw Tryz.underlying135 (zeroSet w) mapElem_none (key_of s hs)
 obtain ⟨o, rfl⟩ := mapElem_form hv
 rw [← h2]
 unfold strV at hr ⊢
 generalize Maps.has D (.string s) = q at hr ⊢
 clear h2 h3 hv h1
 go_enter Tryz.func100, Tryz.ntmps100
 go_wp2
 go_ret
 exact ⟨rfl, rfl⟩
open Go.RowKit Go.Maps Go.WideMaps
open Nam (St F)
theorem key_form (key : Value) (kl : Lit) (h : keyOf Tryz.prog 9 key = some kl) : ∃ x : ByteArray, key = .string x := by
 cases key <;> simp [keyOf, Tryz.underlying9, mapKey] at h
 exact ⟨_, rfl⟩
theorem key_lit (x : ByteArray) (kl : Lit) (h : keyOf Tryz.prog 9 (.string x) = some kl) : kl = .string x.data.toList ∧ x.size ≤ maxLen := by
 simp [keyOf, Tryz.underlying9, mapKey] at h
 exact ⟨h.2.symm, h.1⟩
theorem mapsEqual_any (d1 d2 n1 n2 : Nat) (L1 L2 : List (List UInt8)) (w : World) (h1 : SetAt w d1 n1 L1) (h2 : SetAt w d2 n2 L2) (hm1 : L1.length < 2000000) (hm2 : L2.length < 2000000) :
  Calls Tryz.prog 102 #[.map (some d1), .map (some d2)] w fun e w' => e = .returned (.bool (Nam.sameAs L2 L1)) ∧ w.grownBy w' none := by
 obtain ⟨D1, o1, p1, q1⟩ := h1
 obtain ⟨D2, o2, p2, q2⟩ := h2
 have e1 := o1.len Tryz.underlying74 3
 have e2 := o2.len Tryz.underlying74 3
 rw [q1] at e1
 rw [q2] at e2
 unfold Nam.sameAs
 by_cases hl : L1.length = L2.length
 ·have hb : (((L1.length : Nat) : Int) != ((L2.length : Nat) : Int)) = false := by rw [hl]; simp
  have hb2 : (L1.length == L2.length) = true := by rw [beq_iff_eq]; exact hl
  rw [hb2, Bool.true_and]
  have Hp := ld (And.intro p1 p2)
  have HO := ld o2
  clear p1 p2 q1 q2 hl hb2 o2
  go_enter Tryz.func102, Tryz.ntmps102
  go_wp2_with (first | (at_range; refine wpList_range_own _ rfl _ 74 rfl 9 108 kLaw Tryz.underlying74 unitElem d1 n1 D1 rfl o1 ?_; intro w0 hrg0 hg0 hs0))
  go_frame
  clear e1 e2
  go_loopw [16] (fun _ wr => ∃ left cnt, wr.ranges Tryz.prog 9 unitElem d1 w.heap.size n1 D1 left cnt ∧ Hid (w.grownBy wr none ∧ (∀ s, left (.string s) = true → L1.contains s = true) ∧ (∀ s, L1.contains s = true → left (.string s) = false → L2.contains s = true))) (fun _ wr => wr.rangeLeft d1 w.heap.size)
  case atStart => exact ⟨_, _, hrg0, ld ⟨hg0, fun s hs => by rw [← Hp.out.1 s]; exact hs, fun s hs hf => by rw [Hp.out.1 s, hs] at hf; cases hf⟩⟩
  case round =>
   obtain ⟨left, cnt, hrg, HI⟩ := hrel
   go_wp2_with (first | (at_next; refine wpList_next_ranges _ rfl _ rfl 9 kLaw unitElem Value.string (fun _ : Unit => Value.agg #[]) key_form (fun v y hv => ⟨(), (unitElem_inv hv).1⟩) d1 w.heap.size n1 D1 left cnt rfl hrg ?_ ?_))
   ·intro _ hl0
    go_wp2
    go_ret
    refine ⟨?_, HI.out.1⟩
    have hall : L1.all (fun x => L2.contains x) = true := by
     rw [List.all_eq_true]
     intro s hs
     exact HI.out.2.2 s (by simpa using hs) (hl0 _)
    rw [hall]
    rfl
   ·intro x kl y1 y2 w1 cnt1 hkx hlx hv hat hrg1 hlt hg1 hs1 hen
    obtain ⟨rfl, hsz⟩ := key_lit x kl hkx
    have hd2 : d2 < w.heap.size := HO.out.lt
    have ho2 : w1.ownsMap Tryz.prog 9 unitElem d2 n2 D2 := (HO.out.kept HI.out.1 (by simp)).kept hg1 (by simp; omega)
    have hgw : w.grownBy w1 none := HI.out.1.andThen hg1 (fun j e => .inl (by cases e; exact Nat.le_refl _))
    cases hq : Maps.has D2 (.string x.data.toList) with
    | true =>
     have HQ := ld hq
     have HJ := ld (And.intro hrg1 (And.intro hgw hlt))
     have HL := ld hrg
     clear hrg hrg1 hgw hlt hat hv hlx hg1 hs1
     go_wp2_with (first | (at_lookup; refine wpList_lookup_own_unit _ rfl _ _ 74 rfl 9 108 kLaw Tryz.underlying74 (zeroUnit _) d2 n2 D2 rfl (ho2.alloc _) _ _ rfl hkx ?_))
     have hrA := (HJ.out.1.alloc (.cells #[] 108)).alloc (.cells #[] 108)
     refine ⟨⟨_, _, hrA, ld ⟨galloc (galloc HJ.out.2.1 _) _, fun s hs => HI.out.2.1 s (by rw [Bool.and_eq_true] at hs; exact hs.1), fun s hs hf => ?_⟩⟩, ?_⟩
     ·rw [Bool.and_eq_false_iff] at hf
      rcases hf with hf | hf
      ·exact HI.out.2.2 s hs hf
      ·have he : s = x.data.toList := by simpa [Lit.sameKey] using hf
       rw [he, ← Hp.out.2, HQ.out]
     ·rw [hrA.left_eq, HL.out.left_eq]
      exact HJ.out.2.2
    | false =>
     have HJ := ld (And.intro hgw hlx)
     clear hrg hrg1 hgw hlt hat hv hg1 hs1
     go_wp2_with (first | (at_lookup; refine wpList_lookup_own_unit _ rfl _ _ 74 rfl 9 108 kLaw Tryz.underlying74 (zeroUnit _) d2 n2 D2 rfl (ho2.alloc _) _ _ rfl hkx ?_))
     go_ret
     refine ⟨?_, galloc (galloc HJ.out.1 _) _⟩
     have hall : L1.all (fun x => L2.contains x) = false := by
      rw [List.all_eq_false]
      refine ⟨x.data.toList, by simpa using HI.out.2.1 _ HJ.out.2, ?_⟩
      rw [← Hp.out.2, hq]
      simp
     rw [hall]
     rfl
 ·have hb : (((L1.length : Nat) : Int) != ((L2.length : Nat) : Int)) = true := by simp; omega
  have hb2 : (L1.length == L2.length) = false := by rw [beq_eq_false_iff_ne]; exact hl
  rw [hb2, Bool.false_and]
  clear p1 p2 q1 q2 hl hb2 o1 o2
  go_enter Tryz.func102, Tryz.ntmps102
  go_wp2
  go_ret
  exact ⟨rfl, World.grownBy.refl _ _⟩
open Go.RowKit Go.Maps Go.WideMaps
open Nam (St F)
theorem transAt {w : World} {B : Nat} {E : List Nat} {L cap t : Nat} {a : Option Addr} {ts : List Gram.Trans} {x : Gram.Trans} (h : RepC w B E (.l 139 12 (ts.map transD)) (.slice a L cap)) (hx : ts[t]? = some x) :
  ∃ g p q r, a = some ⟨g, 0, none⟩ ∧ KidsX w B E x.cond.kids (.slice p q r) ∧ ∀ k u, (expCells x.cond (.slice p q r) ++ [.string ⟨x.to.toArray⟩, .bool x.cont, .int .i64 x.at_])[k]? = some u → w.cell? ⟨g, t * 12 + k, none⟩ = some u := by
 obtain ⟨g, us, ha, hr, hq⟩ := nRowAt h (nMap transD (fun x => by obtain ⟨e, _, _, _⟩ := x; cases e; rfl) ts) t (nAt transD hx)
 unfold transD at hr
 obtain ⟨u1, u2, rfl, h1, h2⟩ := RepRow.appInv hr
 obtain ⟨p, q, r, rfl, hk⟩ := expInv h1
 obtain ⟨v1, rfl, h_1⟩ := h2.cInv
 obtain ⟨v2, rfl, h_2⟩ := h_1.cInv
 obtain ⟨v3, rfl, h_3⟩ := h_2.cInv
 obtain rfl := h_3.nInv
 exact ⟨g, p, q, r, ha, hk, hq⟩
abbrev TrS (A : Adr) (ab sb ob : Nat) (qa ua ta la ia ka : Option Addr) (qn qc un uc tn tc ln lc jn ic kn kc : Nat) (nm nm1 to : List UInt8) (at_ f1 s1 tk1 tl1 n1 m1 a1 ta_ : Int) (ct : Bool) (dv : Value) (r b : Nat) (W' : World) : Prop := W'.heap[ab]? = some (.cells #[.pointer (some ⟨A.c, 0, none⟩), .slice qa qn qc, .map (some ob)] 137 (0, 0)) ∧ W'.heap[sb]? = some (.cells #[.pointer (some ⟨ab, 0, none⟩), .string ⟨nm.toArray⟩, .slice ua un uc, .slice ta tn tc, .slice la ln lc, .slice ia jn ic, .int .i64 at_, dv] 143 (0, 0)) ∧ W'.heap[r]? = some (.cells #[.int .i64 f1, .int .i64 s1, .string ⟨nm1.toArray⟩, .int .i64 tk1, .int .i64 tl1, .int .i64 n1, .int .i64 m1, .slice ka kn kc, .int .i64 a1, .string ⟨to.toArray⟩, .bool ct, .int .i64 ta_] 139 (0, 0)) ∧ W'.heap[b]? = some fo
set_option maxRecDepth 40000 in
theorem trans_any (A : Adr) (w0 w : World) (st : St) (ab sb ob n : Nat) (qa ua ta la ia : Option Addr) (qn qc un uc tn tc ln lc jn ic : Nat) (nm : List UInt8) (at_ : Int) (dv : Value) (O : List (List UInt8 × Option Nat)) (ts : List Gram.Trans) (a : Option Addr) (L cap : Nat)
  (hab : w.heap[ab]? = some (.cells #[.pointer (some ⟨A.c, 0, none⟩), .slice qa qn qc, .map (some ob)] 137 (0, 0))) (hsb : w.heap[sb]? = some (.cells #[.pointer (some ⟨ab, 0, none⟩), .string ⟨nm.toArray⟩, .slice ua un uc, .slice ta tn tc, .slice la ln lc, .slice ia jn ic, .int .i64 at_, dv] 143 (0, 0))) (hO : OutAt w ob n O) (h : Ck w0 w A st) (hv : RepC w0 0 [] (.l 139 12 (ts.map transD)) (.slice a L cap)) (r : F) (hr : Nam.trans (O.map Prod.fst) st ts = some r) :
  Calls Tryz.prog 111 #[.pointer (some ⟨sb, 0, none⟩), .slice a L cap] w fun e w' => e = .returned (fv r) ∧ w.grownBy w' none := by
 obtain ⟨hL, hLm⟩ := nLen hv
 rw [List.length_map] at hL
 unfold maxLen at hLm
 have HL := ld hL
 have HR := ld hr
 have HH := ld h
 have HO := ld hO
 have HB := ld (And.intro hab hsb)
 have hla := (gl hab)
 have hlb := (gl hsb)
 clear hL hr h hO hab hsb
 go_enter Tryz.func111, Tryz.ntmps111
 go_wp2
 go_loopw [10] (fun iv wr => ∃ t : Nat, t ≤ L ∧ iv = .int .i64 (t : Int) ∧ Hid (w.grownBy wr none ∧ wr.heap[w.heap.size]? = some fo ∧ Nam.trans (O.map Prod.fst) st (ts.drop t) = some r)) (fun i _ => L - (intOf i).toNat)
 case atStart => exact ⟨0, Nat.zero_le _, rfl, ld ⟨ga _ _ _, heap_alloc_new w fo, HR.out⟩⟩
 case round =>
  obtain ⟨t, ht, rfl, HG⟩ := hrel
  obtain ⟨hg, hcell, hm⟩ := HG.out
  clear HG HR
  have hsz := (gl hcell)
  by_cases hlt : t < L
  ·obtain ⟨x, hx⟩ : ∃ x, ts[t]? = some x := ⟨_, List.getElem?_eq_getElem (by rw [← HL.out]; exact hlt)⟩
   rw [drop_at hx] at hm
   unfold Nam.trans at hm
   have hck := HH.out.kept hg
   obtain ⟨g, ka, kn, kc, rfl, hkd, hcl⟩ := transAt hv hx
   obtain ⟨cond, to, ct, ta_⟩ := x
   simp only at hm hkd hcl
   have hexp := fun V (hV : w.grownBy V none) xr (hxr : Nam.expression st cond = some xr) => expression_any A st w0 cond ka kn kc hkd V (HH.out.kept hV) xr hxr
   have hmem := fun V (hV : w.grownBy V none) => memory_any w0 (fun _ => true) ⟨cond, ka, kn, kc, hkd, by simp⟩ V (HH.out.base.trans hV)
   simp only [EV.enc] at hmem
   cases cond with
   | mk f1 s1 nm1 tk1 tl1 n1 m1 ks1 a1 =>
   simp only [expCells, List.cons_append, List.nil_append] at hcl hexp hmem
   obtain ⟨CO, hCO⟩ : ∃ CO, CO = Gram.Exp.mk f1 s1 nm1 tk1 tl1 n1 m1 ks1 a1 := ⟨_, rfl⟩
   rw [← hCO] at hm hexp hmem
   have u0 := hck.base.cell (hcl 0 _ rfl) (by simp)
   have u1 := hck.base.cell (hcl 1 _ rfl) (by simp)
   have u2 := hck.base.cell (hcl 2 _ rfl) (by simp)
   have u3 := hck.base.cell (hcl 3 _ rfl) (by simp)
   have u4 := hck.base.cell (hcl 4 _ rfl) (by simp)
   have u5 := hck.base.cell (hcl 5 _ rfl) (by simp)
   have u6 := hck.base.cell (hcl 6 _ rfl) (by simp)
   have u7 := hck.base.cell (hcl 7 _ rfl) (by simp)
   have u8 := hck.base.cell (hcl 8 _ rfl) (by simp)
   have u9 := hck.base.cell (hcl 9 _ rfl) (by simp)
   have u10 := hck.base.cell (hcl 10 _ rfl) (by simp)
   have u11 := hck.base.cell (hcl 11 _ rfl) (by simp)
   rw [Nat.add_zero] at u0
   by_cases hs : Nam.short to = true
   ·rw [if_pos hs] at hm
    obtain ⟨W1, hW1⟩ : ∃ W1, W1 = wr.alloc (.cells #[.int .i64 f1, .int .i64 s1, .string ⟨nm1.toArray⟩, .int .i64 tk1, .int .i64 tl1, .int .i64 n1, .int .i64 m1, .slice ka kn kc, .int .i64 a1, .string ⟨to.toArray⟩, .bool ct, .int .i64 ta_] 139 (0, 0)) := ⟨_, rfl⟩
    have hg1 : wr.grownBy W1 none := by rw [hW1]; exact ga wr _ none
    have hgd1 : w.grownBy W1.drew none := gdrew (hg.trans hg1)
    have kb : ∀ {V : World} {k : Nat} {o : Obj}, w.grownBy V none → w.heap[k]? = some o → V.heap[k]? = some o := fun hV hk => (hV.block _ (gl hk) (by simp)).trans hk
    have hS0 : (TrS A ab sb ob qa ua ta la ia ka qn qc un uc tn tc ln lc jn ic kn kc nm nm1 to at_ f1 s1 tk1 tl1 n1 m1 a1 ta_ ct dv wr.heap.size w.heap.size) W1.drew := ⟨kb hgd1 HB.out.1, kb hgd1 HB.out.2, by rw [hW1]; exact heap_alloc_new wr _, (hg1.block _ hsz (by simp)).trans hcell⟩
    have hst := state_any A ab ob n qa qn qc O to hs W1.drew hS0.1 (HO.out.kept hgd1)
    unfold strV at hst
    have HW1 := ld hW1
    have HGw1 := ld hgd1
    clear hW1 hcl hkd hck hx kb hcell hg
    cases hq : (O.map Prod.fst).contains to with
    | false =>
     rw [hq] at hst hm
     rw [if_neg (by decide)] at hm
     have HM := ld (Option.some.inj hm)
     clear hm hexp hmem
     go_wp2
     rw [← HW1.out]
     refine wp_region_L2 (S := TrS A ab sb ob qa ua ta la ia ka qn qc un uc tn tc ln lc jn ic kn kc nm nm1 to at_ f1 s1 tk1 tl1 n1 m1 a1 ta_ ct dv wr.heap.size w.heap.size) (by kernel_rfl) ?_
     refine t1 0 14 (.pointer (some ⟨sb, 0, none⟩)) hS0 ?_
     (try simp only [Act.put, sA, sB, sC])
     refine t1 1 15 (.pointer (some ⟨sb, 0, none⟩)) hS0 ?_
     (try simp only [Act.put, sA, sB, sC])
     refine t1 2 16 (.pointer (some ⟨sb, 0, none⟩)) hS0 ?_
     (try simp only [Act.put, sA, sB, sC])
     refine t2 3 17 (.pointer (some ⟨ab, 0, none⟩)) (fun w' hw' => ?_) hS0 ?_
     ·have hc0 := cell_of_row w' _ 0 _ _ _ (hw'.2.1); clear hw'; go_simp
     (try simp only [Act.put, sA, sB, sC])
     refine t1 4 18 (.pointer (some ⟨wr.heap.size, 9, none⟩)) hS0 ?_
     (try simp only [Act.put, sA, sB, sC])
     refine t2 5 19 (.string ⟨to.toArray⟩) (fun w' hw' => ?_) hS0 ?_
     ·have hc0 := cell_of_row w' _ 9 _ _ _ (hw'.2.2.1); clear hw'; go_simp
     (try simp only [Act.put, sA, sB, sC])
     refine wpL_call (i := 6) (d := 20) (R := fun v w' => v = .bool false ∧ w' = W1.drew) (by kernel_rfl) rfl (by kernel_rfl) (by kernel_rfl) (by kernel_rfl) (hst.mono fun e w' he => ⟨_, he.1, rfl, he.2⟩) (fun v w' h => by rw [h.2]; exact hS0) (fun v w' h => ?_)
     rw [h.1, h.2]
     clear h v w'
     (try simp only [Act.put, sA, sB, sC])
     refine t1 7 21 (.bool true) hS0 ?_
     (try simp only [Act.put, sA, sB, sC])
     refine wpL_done (by kernel_rfl) ?_ _
     have d11 := cell_of_row W1.drew _ 11 _ _ _ hS0.2.2.1
     have hce0 := hS0.2.2.2
     clear hS0 hst
     go_wp2_with (with_reducible refine hold_st 4 ?_)
     refine ld ?_
     refine sg hce0 ?_
     intro w7 hh7 hg7
     go_wp2
     (try simp only [Exit.inBlock, Exit.then])
     refine br hh7 Tryz.underlying63 ?_
     rw [← HM.out]
     exact ⟨rfl, HGw1.out.andThen hg7 (fun j e => .inl (by cases e; exact Nat.le_refl _))⟩
    | true =>
     rw [hq] at hst hm
     rw [if_pos rfl] at hm
     cases hxe : Nam.expression st CO with
     | none => rw [hxe] at hm; cases hm
     | some xr =>
     obtain ⟨xa, xe⟩ := xr
     rw [hxe] at hm
     simp only at hm
     have hex := fun V (hV : w.grownBy V none) => hexp V hV (xa, xe) hxe
     simp only [fv] at hex
     have hfd := found_any (xa, xe)
     simp only [fv] at hfd
     clear hexp
     obtain ⟨W2, hW2⟩ : ∃ W2, W2 = W1.drew := ⟨_, rfl⟩
     have hgd : w.grownBy W2.drew none := by rw [hW2]; exact gdrew HGw1.out
     have hS2 : (TrS A ab sb ob qa ua ta la ia ka qn qc un uc tn tc ln lc jn ic kn kc nm nm1 to at_ f1 s1 tk1 tl1 n1 m1 a1 ta_ ct dv wr.heap.size w.heap.size) W2.drew := by rw [hW2]; exact hS0
     have HGw := ld hgd
     have HW2 := ld hW2
     clear hW2
     by_cases h0 : xe = 0
     ·have hb : (xe != 0) = false := by simp [h0]
      rw [hb] at hfd
      rw [if_pos h0] at hm
      have H0 := ld h0
      clear h0 hb
      have hme := fun V (hV : W2.drew.grownBy V none) => hmem V (HGw.out.trans hV)
      cases hq2 : Nam.memory CO with
      | true =>
       rw [hq2] at hm hme
       rw [if_pos rfl] at hm
       have HM := ld (Option.some.inj hm)
       clear hm hmem
       go_wp2
       rw [← HW1.out]
       refine wp_region_L2 (S := TrS A ab sb ob qa ua ta la ia ka qn qc un uc tn tc ln lc jn ic kn kc nm nm1 to at_ f1 s1 tk1 tl1 n1 m1 a1 ta_ ct dv wr.heap.size w.heap.size) (by kernel_rfl) ?_
       refine t1 0 14 (.pointer (some ⟨sb, 0, none⟩)) hS0 ?_
       (try simp only [Act.put, sA, sB, sC])
       refine t1 1 15 (.pointer (some ⟨sb, 0, none⟩)) hS0 ?_
       (try simp only [Act.put, sA, sB, sC])
       refine t1 2 16 (.pointer (some ⟨sb, 0, none⟩)) hS0 ?_
       (try simp only [Act.put, sA, sB, sC])
       refine t2 3 17 (.pointer (some ⟨ab, 0, none⟩)) (fun w' hw' => ?_) hS0 ?_
       ·have hc0 := cell_of_row w' _ 0 _ _ _ (hw'.2.1); clear hw'; go_simp
       (try simp only [Act.put, sA, sB, sC])
       refine t1 4 18 (.pointer (some ⟨wr.heap.size, 9, none⟩)) hS0 ?_
       (try simp only [Act.put, sA, sB, sC])
       refine t2 5 19 (.string ⟨to.toArray⟩) (fun w' hw' => ?_) hS0 ?_
       ·have hc0 := cell_of_row w' _ 9 _ _ _ (hw'.2.2.1); clear hw'; go_simp
       (try simp only [Act.put, sA, sB, sC])
       refine wpL_call (i := 6) (d := 20) (R := fun v w' => v = .bool true ∧ w' = W1.drew) (by kernel_rfl) rfl (by kernel_rfl) (by kernel_rfl) (by kernel_rfl) (hst.mono fun e w' he => ⟨_, he.1, rfl, he.2⟩) (fun v w' h => by rw [h.2]; exact hS0) (fun v w' h => ?_)
       rw [h.1, h.2]
       clear h v w'
       (try simp only [Act.put, sA, sB, sC])
       refine t1 7 21 (.bool false) hS0 ?_
       (try simp only [Act.put, sA, sB, sC])
       refine wpL_done (by kernel_rfl) ?_ _
       go_wp2
       rw [← HW2.out]
       refine wp_region_L2 (S := TrS A ab sb ob qa ua ta la ia ka qn qc un uc tn tc ln lc jn ic kn kc nm nm1 to at_ f1 s1 tk1 tl1 n1 m1 a1 ta_ ct dv wr.heap.size w.heap.size) (by kernel_rfl) ?_
       refine t1 0 25 (.pointer (some ⟨sb, 0, none⟩)) hS2 ?_
       (try simp only [Act.put, sA, sB, sC])
       refine t1 1 26 (.pointer (some ⟨sb, 0, none⟩)) hS2 ?_
       (try simp only [Act.put, sA, sB, sC])
       refine t1 2 27 (.pointer (some ⟨sb, 0, none⟩)) hS2 ?_
       (try simp only [Act.put, sA, sB, sC])
       refine t2 3 28 (.pointer (some ⟨ab, 0, none⟩)) (fun w' hw' => ?_) hS2 ?_
       ·have hc0 := cell_of_row w' _ 0 _ _ _ (hw'.2.1); clear hw'; go_simp
       (try simp only [Act.put, sA, sB, sC])
       refine t1 4 29 (.pointer (some ⟨ab, 0, none⟩)) hS2 ?_
       (try simp only [Act.put, sA, sB, sC])
       refine t1 5 30 (.pointer (some ⟨ab, 0, none⟩)) hS2 ?_
       (try simp only [Act.put, sA, sB, sC])
       refine t2 6 31 (.pointer (some ⟨A.c, 0, none⟩)) (fun w' hw' => ?_) hS2 ?_
       ·have hc0 := cell_of_row w' _ 0 _ _ _ (hw'.1); clear hw'; go_simp
       (try simp only [Act.put, sA, sB, sC])
       refine t1 7 32 (.pointer (some ⟨wr.heap.size, 0, none⟩)) hS2 ?_
       (try simp only [Act.put, sA, sB, sC])
       refine t2 8 33 (.agg #[.int .i64 f1, .int .i64 s1, .string ⟨nm1.toArray⟩, .int .i64 tk1, .int .i64 tl1, .int .i64 n1, .int .i64 m1, .slice ka kn kc, .int .i64 a1]) (fun w' hw' => ?_) hS2 ?_
       ·have hc0 := cell_of_row w' _ 0 _ _ _ (hw'.2.2.1); have hc1 := cell_of_row w' _ 1 _ _ _ (hw'.2.2.1); have hc2 := cell_of_row w' _ 2 _ _ _ (hw'.2.2.1); have hc3 := cell_of_row w' _ 3 _ _ _ (hw'.2.2.1); have hc4 := cell_of_row w' _ 4 _ _ _ (hw'.2.2.1); have hc5 := cell_of_row w' _ 5 _ _ _ (hw'.2.2.1); have hc6 := cell_of_row w' _ 6 _ _ _ (hw'.2.2.1); have hc7 := cell_of_row w' _ 7 _ _ _ (hw'.2.2.1); have hc8 := cell_of_row w' _ 8 _ _ _ (hw'.2.2.1); clear hw'; go_simp
       (try simp only [Act.put, sA, sB, sC])
       refine wpL_both (i := 9) (j := 10) (by kernel_rfl) ?_ ?_
       ·refine wpOp_call (d := 34) (R := fun v w' => v = .agg #[.int .i64 xa, .int .i64 xe] ∧ W2.drew.grownBy w' none) rfl (by kernel_rfl) (by kernel_rfl) (by kernel_rfl) ((hex _ hgd).mono fun e w' he => ⟨_, he.1, rfl, he.2⟩) (fun v w3 h => ⟨fun _ => ⟨(h.2.block _ (gl hS2.1) (by simp)).trans hS2.1, (h.2.block _ (gl hS2.2.1) (by simp)).trans hS2.2.1, (h.2.block _ (gl hS2.2.2.1) (by simp)).trans hS2.2.2.1, (h.2.block _ (gl hS2.2.2.2) (by simp)).trans hS2.2.2.2⟩, ?_⟩)
        have hg3 := h.2
        rw [h.1]
        clear h v
        have hS3 : (TrS A ab sb ob qa ua ta la ia ka qn qc un uc tn tc ln lc jn ic kn kc nm nm1 to at_ f1 s1 tk1 tl1 n1 m1 a1 ta_ ct dv wr.heap.size w.heap.size) w3 := ⟨(hg3.block _ (gl hS2.1) (by simp)).trans hS2.1, (hg3.block _ (gl hS2.2.1) (by simp)).trans hS2.2.1, (hg3.block _ (gl hS2.2.2.1) (by simp)).trans hS2.2.2.1, (hg3.block _ (gl hS2.2.2.2) (by simp)).trans hS2.2.2.2⟩
        (try simp only [Act.put, sA, sB, sC])
        refine wpL_val (i := 10) (d := 7) (v := .pointer (some ⟨w3.heap.size, 0, none⟩)) (w' := w3.alloc fo) (by kernel_rfl) rfl (by kernel_rfl) (by kernel_rfl) (by kernel_rfl) ⟨((ga w3 fo none).block _ (gl hS3.1) (by simp)).trans hS3.1, ((ga w3 fo none).block _ (gl hS3.2.1) (by simp)).trans hS3.2.1, ((ga w3 fo none).block _ (gl hS3.2.2.1) (by simp)).trans hS3.2.2.1, ((ga w3 fo none).block _ (gl hS3.2.2.2) (by simp)).trans hS3.2.2.2⟩ ?_
        (try simp only [Act.put, sA, sB, sC])
        have hS4 : (TrS A ab sb ob qa ua ta la ia ka qn qc un uc tn tc ln lc jn ic kn kc nm nm1 to at_ f1 s1 tk1 tl1 n1 m1 a1 ta_ ct dv wr.heap.size w.heap.size) (w3.alloc fo) := ⟨((ga w3 fo none).block _ (gl hS3.1) (by simp)).trans hS3.1, ((ga w3 fo none).block _ (gl hS3.2.1) (by simp)).trans hS3.2.1, ((ga w3 fo none).block _ (gl hS3.2.2.1) (by simp)).trans hS3.2.2.1, ((ga w3 fo none).block _ (gl hS3.2.2.2) (by simp)).trans hS3.2.2.2⟩
        have hl3 := hg3.size
        have hfb : w.heap.size < w3.heap.size ∧ wr.heap.size < w3.heap.size ∧ ab < w3.heap.size ∧ sb < w3.heap.size := ⟨(gl hS3.2.2.2), (gl hS3.2.2.1), (gl hS3.1), (gl hS3.2.1)⟩
        refine wpL_store (i := 11) w3.heap.size #[.int .i64 xa, .int .i64 xe] _ 63 63 _ _ (by kernel_rfl) rfl (by kernel_rfl) (by kernel_rfl) rfl rfl rfl (heap_alloc_new w3 fo) (by kernel_rfl) rfl (by kernel_rfl) (fun w7 hh7 hg7 => ⟨⟨(hg7.block _ (gl hS4.1) (by simp; omega)).trans hS4.1, (hg7.block _ (gl hS4.2.1) (by simp; omega)).trans hS4.2.1, (hg7.block _ (gl hS4.2.2.1) (by simp; omega)).trans hS4.2.2.1, (hg7.block _ (gl hS4.2.2.2) (by simp; omega)).trans hS4.2.2.2⟩, ?_⟩)
        (try simp only [Act.put, sA, sB, sC])
        refine wpL_done (by kernel_rfl) ?_ _
        have hgz : W2.drew.grownBy w7 none := (galloc hg3 fo).andThen hg7 (fun j e => .inl (by cases e; exact hl3))
        have hSz : (TrS A ab sb ob qa ua ta la ia ka qn qc un uc tn tc ln lc jn ic kn kc nm nm1 to at_ f1 s1 tk1 tl1 n1 m1 a1 ta_ ct dv wr.heap.size w.heap.size) w7 := ⟨(hg7.block _ (gl hS4.1) (by simp; omega)).trans hS4.1, (hg7.block _ (gl hS4.2.1) (by simp; omega)).trans hS4.2.1, (hg7.block _ (gl hS4.2.2.1) (by simp; omega)).trans hS4.2.2.1, (hg7.block _ (gl hS4.2.2.2) (by simp; omega)).trans hS4.2.2.2⟩
        clear hg7 hS4 hS3 hg3 hl3
        have d0 := cell_of_row w7 _ 0 _ _ _ hh7
        have d1 := cell_of_row w7 _ 1 _ _ _ hh7
        have HSz := ld hSz
        have HGz := ld hgz
        have hfa := hfd w7
        have t0 := cell_of_row w7 _ 0 _ _ _ hSz.2.2.1
        have t1 := cell_of_row w7 _ 1 _ _ _ hSz.2.2.1
        have t2 := cell_of_row w7 _ 2 _ _ _ hSz.2.2.1
        have t3 := cell_of_row w7 _ 3 _ _ _ hSz.2.2.1
        have t4 := cell_of_row w7 _ 4 _ _ _ hSz.2.2.1
        have t5 := cell_of_row w7 _ 5 _ _ _ hSz.2.2.1
        have t6 := cell_of_row w7 _ 6 _ _ _ hSz.2.2.1
        have t7 := cell_of_row w7 _ 7 _ _ _ hSz.2.2.1
        have t8 := cell_of_row w7 _ 8 _ _ _ hSz.2.2.1
        clear hh7 hSz hgz hS0 hS2
        go_wp2_with (first | (go_at_call 29; refine hfa.mono ?_; rintro e w8 ⟨rfl, hg8⟩; have hg8z := HGz.out.trans hg8; have v0 := hg8.cell t0 (by simp); have v1 := hg8.cell t1 (by simp); have v2 := hg8.cell t2 (by simp); have v3 := hg8.cell t3 (by simp); have v4 := hg8.cell t4 (by simp); have v5 := hg8.cell t5 (by simp); have v6 := hg8.cell t6 (by simp); have v7 := hg8.cell t7 (by simp); have v8 := hg8.cell t8 (by simp)) | (go_at_call 16; refine (hme _ hg8z).mono ?_; rintro e w10 ⟨rfl, hg10⟩; have ta9 := hg10.cell (hg8.cell (cell_of_row w7 _ 11 _ _ _ HSz.out.2.2.1) (by simp)) (by simp); have hce8 := (hg10.block _ (gl ((hg8.block _ (Array.getElem?_eq_some_iff.1 HSz.out.2.2.2).1 (by simp)).trans HSz.out.2.2.2)) (by simp)).trans ((hg8.block _ (gl HSz.out.2.2.2) (by simp)).trans HSz.out.2.2.2); refine Hid.out ?_))
        refine ld ?_
        go_wp2_with (with_reducible refine hold_st 4 ?_)
        refine ld ?_
        refine sg hce8 ?_
        intro w9 hh9 hg9
        go_wp2
        (try simp only [Exit.inBlock, Exit.then])
        refine br hh9 Tryz.underlying63 ?_
        rw [← HM.out]
        exact ⟨rfl, (((HGw.out.trans HGz.out).trans hg8).trans hg10).andThen hg9 (fun j e => .inl (by cases e; exact Nat.le_refl _))⟩
       ·refine wpOp_val (d := 7) (v := .pointer (some ⟨W2.heap.size, 0, none⟩)) (w' := W2.drew.alloc fo) rfl (by kernel_rfl) (by kernel_rfl) (by kernel_rfl) ⟨fun _ => ⟨((ga W2.drew fo none).block _ (gl hS2.1) (by simp)).trans hS2.1, ((ga W2.drew fo none).block _ (gl hS2.2.1) (by simp)).trans hS2.2.1, ((ga W2.drew fo none).block _ (gl hS2.2.2.1) (by simp)).trans hS2.2.2.1, ((ga W2.drew fo none).block _ (gl hS2.2.2.2) (by simp)).trans hS2.2.2.2⟩, ?_⟩
        (try simp only [Act.put, sA, sB, sC])
        have hS4 : (TrS A ab sb ob qa ua ta la ia ka qn qc un uc tn tc ln lc jn ic kn kc nm nm1 to at_ f1 s1 tk1 tl1 n1 m1 a1 ta_ ct dv wr.heap.size w.heap.size) (W2.drew.alloc fo) := ⟨((ga W2.drew fo none).block _ (gl hS2.1) (by simp)).trans hS2.1, ((ga W2.drew fo none).block _ (gl hS2.2.1) (by simp)).trans hS2.2.1, ((ga W2.drew fo none).block _ (gl hS2.2.2.1) (by simp)).trans hS2.2.2.1, ((ga W2.drew fo none).block _ (gl hS2.2.2.2) (by simp)).trans hS2.2.2.2⟩
        have hgA : W2.drew.grownBy (W2.drew.alloc fo) none := ga _ _ _
        have hnA : (W2.drew.alloc fo).heap[W2.heap.size]? = some fo := heap_alloc_new W2.drew fo
        refine wpL_call (i := 9) (d := 34) (R := fun v w' => v = .agg #[.int .i64 xa, .int .i64 xe] ∧ (W2.drew.alloc fo).grownBy w' none) (by kernel_rfl) rfl (by kernel_rfl) (by kernel_rfl) (by kernel_rfl) ((hex _ (hgd.trans hgA)).mono fun e w' he => ⟨_, he.1, rfl, he.2⟩) (fun v w' h => ⟨(h.2.block _ (gl hS4.1) (by simp)).trans hS4.1, (h.2.block _ (gl hS4.2.1) (by simp)).trans hS4.2.1, (h.2.block _ (gl hS4.2.2.1) (by simp)).trans hS4.2.2.1, (h.2.block _ (gl hS4.2.2.2) (by simp)).trans hS4.2.2.2⟩) (fun v w3 h => ?_)
        have hg3 := h.2
        rw [h.1]
        clear h v
        (try simp only [Act.put, sA, sB, sC])
        have hS5 : (TrS A ab sb ob qa ua ta la ia ka qn qc un uc tn tc ln lc jn ic kn kc nm nm1 to at_ f1 s1 tk1 tl1 n1 m1 a1 ta_ ct dv wr.heap.size w.heap.size) w3 := ⟨(hg3.block _ (gl hS4.1) (by simp)).trans hS4.1, (hg3.block _ (gl hS4.2.1) (by simp)).trans hS4.2.1, (hg3.block _ (gl hS4.2.2.1) (by simp)).trans hS4.2.2.1, (hg3.block _ (gl hS4.2.2.2) (by simp)).trans hS4.2.2.2⟩
        have hn3 := (hg3.block _ (gl hnA) (by simp)).trans hnA
        have hfb : w.heap.size < W2.heap.size ∧ wr.heap.size < W2.heap.size ∧ ab < W2.heap.size ∧ sb < W2.heap.size := ⟨(gl hS2.2.2.2), (gl hS2.2.2.1), (gl hS2.1), (gl hS2.2.1)⟩
        refine wpL_store (i := 11) W2.heap.size #[.int .i64 xa, .int .i64 xe] _ 63 63 _ _ (by kernel_rfl) rfl (by kernel_rfl) (by kernel_rfl) rfl rfl rfl hn3 (by kernel_rfl) rfl (by kernel_rfl) (fun w7 hh7 hg7 => ⟨⟨(hg7.block _ (gl hS5.1) (by simp; omega)).trans hS5.1, (hg7.block _ (gl hS5.2.1) (by simp; omega)).trans hS5.2.1, (hg7.block _ (gl hS5.2.2.1) (by simp; omega)).trans hS5.2.2.1, (hg7.block _ (gl hS5.2.2.2) (by simp; omega)).trans hS5.2.2.2⟩, ?_⟩)
        (try simp only [Act.put, sA, sB, sC])
        refine wpL_done (by kernel_rfl) ?_ _
        have hgz : W2.drew.grownBy w7 none := (hgA.trans hg3).andThen hg7 (fun j e => .inl (by cases e; exact Nat.le_refl _))
        have hSz : (TrS A ab sb ob qa ua ta la ia ka qn qc un uc tn tc ln lc jn ic kn kc nm nm1 to at_ f1 s1 tk1 tl1 n1 m1 a1 ta_ ct dv wr.heap.size w.heap.size) w7 := ⟨(hg7.block _ (gl hS5.1) (by simp; omega)).trans hS5.1, (hg7.block _ (gl hS5.2.1) (by simp; omega)).trans hS5.2.1, (hg7.block _ (gl hS5.2.2.1) (by simp; omega)).trans hS5.2.2.1, (hg7.block _ (gl hS5.2.2.2) (by simp; omega)).trans hS5.2.2.2⟩
        clear hg7 hS5 hS4 hg3 hn3 hnA hgA
        have d0 := cell_of_row w7 _ 0 _ _ _ hh7
        have d1 := cell_of_row w7 _ 1 _ _ _ hh7
        have HSz := ld hSz
        have HGz := ld hgz
        have hfa := hfd w7
        have t0 := cell_of_row w7 _ 0 _ _ _ hSz.2.2.1
        have t1 := cell_of_row w7 _ 1 _ _ _ hSz.2.2.1
        have t2 := cell_of_row w7 _ 2 _ _ _ hSz.2.2.1
        have t3 := cell_of_row w7 _ 3 _ _ _ hSz.2.2.1
        have t4 := cell_of_row w7 _ 4 _ _ _ hSz.2.2.1
        have t5 := cell_of_row w7 _ 5 _ _ _ hSz.2.2.1
        have t6 := cell_of_row w7 _ 6 _ _ _ hSz.2.2.1
        have t7 := cell_of_row w7 _ 7 _ _ _ hSz.2.2.1
        have t8 := cell_of_row w7 _ 8 _ _ _ hSz.2.2.1
        clear hh7 hSz hgz hS0 hS2
        go_wp2_with (first | (go_at_call 29; refine hfa.mono ?_; rintro e w8 ⟨rfl, hg8⟩; have hg8z := HGz.out.trans hg8; have v0 := hg8.cell t0 (by simp); have v1 := hg8.cell t1 (by simp); have v2 := hg8.cell t2 (by simp); have v3 := hg8.cell t3 (by simp); have v4 := hg8.cell t4 (by simp); have v5 := hg8.cell t5 (by simp); have v6 := hg8.cell t6 (by simp); have v7 := hg8.cell t7 (by simp); have v8 := hg8.cell t8 (by simp)) | (go_at_call 16; refine (hme _ hg8z).mono ?_; rintro e w10 ⟨rfl, hg10⟩; have ta9 := hg10.cell (hg8.cell (cell_of_row w7 _ 11 _ _ _ HSz.out.2.2.1) (by simp)) (by simp); have hce8 := (hg10.block _ (gl ((hg8.block _ (Array.getElem?_eq_some_iff.1 HSz.out.2.2.2).1 (by simp)).trans HSz.out.2.2.2)) (by simp)).trans ((hg8.block _ (gl HSz.out.2.2.2) (by simp)).trans HSz.out.2.2.2); refine Hid.out ?_))
        refine ld ?_
        go_wp2_with (with_reducible refine hold_st 4 ?_)
        refine ld ?_
        refine sg hce8 ?_
        intro w9 hh9 hg9
        go_wp2
        (try simp only [Exit.inBlock, Exit.then])
        refine br hh9 Tryz.underlying63 ?_
        rw [← HM.out]
        exact ⟨rfl, (((HGw.out.trans HGz.out).trans hg8).trans hg10).andThen hg9 (fun j e => .inl (by cases e; exact Nat.le_refl _))⟩
      | false =>
       rw [hq2] at hm hme
       rw [if_neg (by decide)] at hm
       have HM := ld hm
       clear hm hmem
       go_wp2
       rw [← HW1.out]
       refine wp_region_L2 (S := TrS A ab sb ob qa ua ta la ia ka qn qc un uc tn tc ln lc jn ic kn kc nm nm1 to at_ f1 s1 tk1 tl1 n1 m1 a1 ta_ ct dv wr.heap.size w.heap.size) (by kernel_rfl) ?_
       refine t1 0 14 (.pointer (some ⟨sb, 0, none⟩)) hS0 ?_
       (try simp only [Act.put, sA, sB, sC])
       refine t1 1 15 (.pointer (some ⟨sb, 0, none⟩)) hS0 ?_
       (try simp only [Act.put, sA, sB, sC])
       refine t1 2 16 (.pointer (some ⟨sb, 0, none⟩)) hS0 ?_
       (try simp only [Act.put, sA, sB, sC])
       refine t2 3 17 (.pointer (some ⟨ab, 0, none⟩)) (fun w' hw' => ?_) hS0 ?_
       ·have hc0 := cell_of_row w' _ 0 _ _ _ (hw'.2.1); clear hw'; go_simp
       (try simp only [Act.put, sA, sB, sC])
       refine t1 4 18 (.pointer (some ⟨wr.heap.size, 9, none⟩)) hS0 ?_
       (try simp only [Act.put, sA, sB, sC])
       refine t2 5 19 (.string ⟨to.toArray⟩) (fun w' hw' => ?_) hS0 ?_
       ·have hc0 := cell_of_row w' _ 9 _ _ _ (hw'.2.2.1); clear hw'; go_simp
       (try simp only [Act.put, sA, sB, sC])
       refine wpL_call (i := 6) (d := 20) (R := fun v w' => v = .bool true ∧ w' = W1.drew) (by kernel_rfl) rfl (by kernel_rfl) (by kernel_rfl) (by kernel_rfl) (hst.mono fun e w' he => ⟨_, he.1, rfl, he.2⟩) (fun v w' h => by rw [h.2]; exact hS0) (fun v w' h => ?_)
       rw [h.1, h.2]
       clear h v w'
       (try simp only [Act.put, sA, sB, sC])
       refine t1 7 21 (.bool false) hS0 ?_
       (try simp only [Act.put, sA, sB, sC])
       refine wpL_done (by kernel_rfl) ?_ _
       go_wp2
       rw [← HW2.out]
       refine wp_region_L2 (S := TrS A ab sb ob qa ua ta la ia ka qn qc un uc tn tc ln lc jn ic kn kc nm nm1 to at_ f1 s1 tk1 tl1 n1 m1 a1 ta_ ct dv wr.heap.size w.heap.size) (by kernel_rfl) ?_
       refine t1 0 25 (.pointer (some ⟨sb, 0, none⟩)) hS2 ?_
       (try simp only [Act.put, sA, sB, sC])
       refine t1 1 26 (.pointer (some ⟨sb, 0, none⟩)) hS2 ?_
       (try simp only [Act.put, sA, sB, sC])
       refine t1 2 27 (.pointer (some ⟨sb, 0, none⟩)) hS2 ?_
       (try simp only [Act.put, sA, sB, sC])
       refine t2 3 28 (.pointer (some ⟨ab, 0, none⟩)) (fun w' hw' => ?_) hS2 ?_
       ·have hc0 := cell_of_row w' _ 0 _ _ _ (hw'.2.1); clear hw'; go_simp
       (try simp only [Act.put, sA, sB, sC])
       refine t1 4 29 (.pointer (some ⟨ab, 0, none⟩)) hS2 ?_
       (try simp only [Act.put, sA, sB, sC])
       refine t1 5 30 (.pointer (some ⟨ab, 0, none⟩)) hS2 ?_
       (try simp only [Act.put, sA, sB, sC])
       refine t2 6 31 (.pointer (some ⟨A.c, 0, none⟩)) (fun w' hw' => ?_) hS2 ?_
       ·have hc0 := cell_of_row w' _ 0 _ _ _ (hw'.1); clear hw'; go_simp
       (try simp only [Act.put, sA, sB, sC])
       refine t1 7 32 (.pointer (some ⟨wr.heap.size, 0, none⟩)) hS2 ?_
       (try simp only [Act.put, sA, sB, sC])
       refine t2 8 33 (.agg #[.int .i64 f1, .int .i64 s1, .string ⟨nm1.toArray⟩, .int .i64 tk1, .int .i64 tl1, .int .i64 n1, .int .i64 m1, .slice ka kn kc, .int .i64 a1]) (fun w' hw' => ?_) hS2 ?_
       ·have hc0 := cell_of_row w' _ 0 _ _ _ (hw'.2.2.1); have hc1 := cell_of_row w' _ 1 _ _ _ (hw'.2.2.1); have hc2 := cell_of_row w' _ 2 _ _ _ (hw'.2.2.1); have hc3 := cell_of_row w' _ 3 _ _ _ (hw'.2.2.1); have hc4 := cell_of_row w' _ 4 _ _ _ (hw'.2.2.1); have hc5 := cell_of_row w' _ 5 _ _ _ (hw'.2.2.1); have hc6 := cell_of_row w' _ 6 _ _ _ (hw'.2.2.1); have hc7 := cell_of_row w' _ 7 _ _ _ (hw'.2.2.1); have hc8 := cell_of_row w' _ 8 _ _ _ (hw'.2.2.1); clear hw'; go_simp
       (try simp only [Act.put, sA, sB, sC])
       refine wpL_both (i := 9) (j := 10) (by kernel_rfl) ?_ ?_
       ·refine wpOp_call (d := 34) (R := fun v w' => v = .agg #[.int .i64 xa, .int .i64 xe] ∧ W2.drew.grownBy w' none) rfl (by kernel_rfl) (by kernel_rfl) (by kernel_rfl) ((hex _ hgd).mono fun e w' he => ⟨_, he.1, rfl, he.2⟩) (fun v w3 h => ⟨fun _ => ⟨(h.2.block _ (gl hS2.1) (by simp)).trans hS2.1, (h.2.block _ (gl hS2.2.1) (by simp)).trans hS2.2.1, (h.2.block _ (gl hS2.2.2.1) (by simp)).trans hS2.2.2.1, (h.2.block _ (gl hS2.2.2.2) (by simp)).trans hS2.2.2.2⟩, ?_⟩)
        have hg3 := h.2
        rw [h.1]
        clear h v
        have hS3 : (TrS A ab sb ob qa ua ta la ia ka qn qc un uc tn tc ln lc jn ic kn kc nm nm1 to at_ f1 s1 tk1 tl1 n1 m1 a1 ta_ ct dv wr.heap.size w.heap.size) w3 := ⟨(hg3.block _ (gl hS2.1) (by simp)).trans hS2.1, (hg3.block _ (gl hS2.2.1) (by simp)).trans hS2.2.1, (hg3.block _ (gl hS2.2.2.1) (by simp)).trans hS2.2.2.1, (hg3.block _ (gl hS2.2.2.2) (by simp)).trans hS2.2.2.2⟩
        (try simp only [Act.put, sA, sB, sC])
        refine wpL_val (i := 10) (d := 7) (v := .pointer (some ⟨w3.heap.size, 0, none⟩)) (w' := w3.alloc fo) (by kernel_rfl) rfl (by kernel_rfl) (by kernel_rfl) (by kernel_rfl) ⟨((ga w3 fo none).block _ (gl hS3.1) (by simp)).trans hS3.1, ((ga w3 fo none).block _ (gl hS3.2.1) (by simp)).trans hS3.2.1, ((ga w3 fo none).block _ (gl hS3.2.2.1) (by simp)).trans hS3.2.2.1, ((ga w3 fo none).block _ (gl hS3.2.2.2) (by simp)).trans hS3.2.2.2⟩ ?_
        (try simp only [Act.put, sA, sB, sC])
        have hS4 : (TrS A ab sb ob qa ua ta la ia ka qn qc un uc tn tc ln lc jn ic kn kc nm nm1 to at_ f1 s1 tk1 tl1 n1 m1 a1 ta_ ct dv wr.heap.size w.heap.size) (w3.alloc fo) := ⟨((ga w3 fo none).block _ (gl hS3.1) (by simp)).trans hS3.1, ((ga w3 fo none).block _ (gl hS3.2.1) (by simp)).trans hS3.2.1, ((ga w3 fo none).block _ (gl hS3.2.2.1) (by simp)).trans hS3.2.2.1, ((ga w3 fo none).block _ (gl hS3.2.2.2) (by simp)).trans hS3.2.2.2⟩
        have hl3 := hg3.size
        have hfb : w.heap.size < w3.heap.size ∧ wr.heap.size < w3.heap.size ∧ ab < w3.heap.size ∧ sb < w3.heap.size := ⟨(gl hS3.2.2.2), (gl hS3.2.2.1), (gl hS3.1), (gl hS3.2.1)⟩
        refine wpL_store (i := 11) w3.heap.size #[.int .i64 xa, .int .i64 xe] _ 63 63 _ _ (by kernel_rfl) rfl (by kernel_rfl) (by kernel_rfl) rfl rfl rfl (heap_alloc_new w3 fo) (by kernel_rfl) rfl (by kernel_rfl) (fun w7 hh7 hg7 => ⟨⟨(hg7.block _ (gl hS4.1) (by simp; omega)).trans hS4.1, (hg7.block _ (gl hS4.2.1) (by simp; omega)).trans hS4.2.1, (hg7.block _ (gl hS4.2.2.1) (by simp; omega)).trans hS4.2.2.1, (hg7.block _ (gl hS4.2.2.2) (by simp; omega)).trans hS4.2.2.2⟩, ?_⟩)
        (try simp only [Act.put, sA, sB, sC])
        refine wpL_done (by kernel_rfl) ?_ _
        have hgz : W2.drew.grownBy w7 none := (galloc hg3 fo).andThen hg7 (fun j e => .inl (by cases e; exact hl3))
        have hSz : (TrS A ab sb ob qa ua ta la ia ka qn qc un uc tn tc ln lc jn ic kn kc nm nm1 to at_ f1 s1 tk1 tl1 n1 m1 a1 ta_ ct dv wr.heap.size w.heap.size) w7 := ⟨(hg7.block _ (gl hS4.1) (by simp; omega)).trans hS4.1, (hg7.block _ (gl hS4.2.1) (by simp; omega)).trans hS4.2.1, (hg7.block _ (gl hS4.2.2.1) (by simp; omega)).trans hS4.2.2.1, (hg7.block _ (gl hS4.2.2.2) (by simp; omega)).trans hS4.2.2.2⟩
        clear hg7 hS4 hS3 hg3 hl3
        have d0 := cell_of_row w7 _ 0 _ _ _ hh7
        have d1 := cell_of_row w7 _ 1 _ _ _ hh7
        have HSz := ld hSz
        have HGz := ld hgz
        have hfa := hfd w7
        have t0 := cell_of_row w7 _ 0 _ _ _ hSz.2.2.1
        have t1 := cell_of_row w7 _ 1 _ _ _ hSz.2.2.1
        have t2 := cell_of_row w7 _ 2 _ _ _ hSz.2.2.1
        have t3 := cell_of_row w7 _ 3 _ _ _ hSz.2.2.1
        have t4 := cell_of_row w7 _ 4 _ _ _ hSz.2.2.1
        have t5 := cell_of_row w7 _ 5 _ _ _ hSz.2.2.1
        have t6 := cell_of_row w7 _ 6 _ _ _ hSz.2.2.1
        have t7 := cell_of_row w7 _ 7 _ _ _ hSz.2.2.1
        have t8 := cell_of_row w7 _ 8 _ _ _ hSz.2.2.1
        clear hh7 hSz hgz hS0 hS2
        go_wp2_with (first | (go_at_call 29; refine hfa.mono ?_; rintro e w8 ⟨rfl, hg8⟩; have hg8z := HGz.out.trans hg8; have v0 := hg8.cell t0 (by simp); have v1 := hg8.cell t1 (by simp); have v2 := hg8.cell t2 (by simp); have v3 := hg8.cell t3 (by simp); have v4 := hg8.cell t4 (by simp); have v5 := hg8.cell t5 (by simp); have v6 := hg8.cell t6 (by simp); have v7 := hg8.cell t7 (by simp); have v8 := hg8.cell t8 (by simp)) | (go_at_call 16; refine (hme _ hg8z).mono ?_; rintro e w10 ⟨rfl, hg10⟩; have ta9 := hg10.cell (hg8.cell (cell_of_row w7 _ 11 _ _ _ HSz.out.2.2.1) (by simp)) (by simp); have hce8 := (hg10.block _ (gl ((hg8.block _ (Array.getElem?_eq_some_iff.1 HSz.out.2.2.2).1 (by simp)).trans HSz.out.2.2.2)) (by simp)).trans ((hg8.block _ (gl HSz.out.2.2.2) (by simp)).trans HSz.out.2.2.2); refine Hid.out ?_))
        refine ld ?_
        have HF8 := ld hce8
        have hgA := (HGw.out.trans HGz.out).trans (hg8.trans hg10)
        have HFA := ld hgA
        clear hce8 ta9 hgA
        go_wp2
        exact ⟨⟨t + 1, by omega, by go_num, ld ⟨HFA.out, HF8.out, HM.out⟩⟩, by simp [intOf]; omega⟩
       ·refine wpOp_val (d := 7) (v := .pointer (some ⟨W2.heap.size, 0, none⟩)) (w' := W2.drew.alloc fo) rfl (by kernel_rfl) (by kernel_rfl) (by kernel_rfl) ⟨fun _ => ⟨((ga W2.drew fo none).block _ (gl hS2.1) (by simp)).trans hS2.1, ((ga W2.drew fo none).block _ (gl hS2.2.1) (by simp)).trans hS2.2.1, ((ga W2.drew fo none).block _ (gl hS2.2.2.1) (by simp)).trans hS2.2.2.1, ((ga W2.drew fo none).block _ (gl hS2.2.2.2) (by simp)).trans hS2.2.2.2⟩, ?_⟩
        (try simp only [Act.put, sA, sB, sC])
        have hS4 : (TrS A ab sb ob qa ua ta la ia ka qn qc un uc tn tc ln lc jn ic kn kc nm nm1 to at_ f1 s1 tk1 tl1 n1 m1 a1 ta_ ct dv wr.heap.size w.heap.size) (W2.drew.alloc fo) := ⟨((ga W2.drew fo none).block _ (gl hS2.1) (by simp)).trans hS2.1, ((ga W2.drew fo none).block _ (gl hS2.2.1) (by simp)).trans hS2.2.1, ((ga W2.drew fo none).block _ (gl hS2.2.2.1) (by simp)).trans hS2.2.2.1, ((ga W2.drew fo none).block _ (gl hS2.2.2.2) (by simp)).trans hS2.2.2.2⟩
        have hgA : W2.drew.grownBy (W2.drew.alloc fo) none := ga _ _ _
        have hnA : (W2.drew.alloc fo).heap[W2.heap.size]? = some fo := heap_alloc_new W2.drew fo
        refine wpL_call (i := 9) (d := 34) (R := fun v w' => v = .agg #[.int .i64 xa, .int .i64 xe] ∧ (W2.drew.alloc fo).grownBy w' none) (by kernel_rfl) rfl (by kernel_rfl) (by kernel_rfl) (by kernel_rfl) ((hex _ (hgd.trans hgA)).mono fun e w' he => ⟨_, he.1, rfl, he.2⟩) (fun v w' h => ⟨(h.2.block _ (gl hS4.1) (by simp)).trans hS4.1, (h.2.block _ (gl hS4.2.1) (by simp)).trans hS4.2.1, (h.2.block _ (gl hS4.2.2.1) (by simp)).trans hS4.2.2.1, (h.2.block _ (gl hS4.2.2.2) (by simp)).trans hS4.2.2.2⟩) (fun v w3 h => ?_)
        have hg3 := h.2
        rw [h.1]
        clear h v
        (try simp only [Act.put, sA, sB, sC])
        have hS5 : (TrS A ab sb ob qa ua ta la ia ka qn qc un uc tn tc ln lc jn ic kn kc nm nm1 to at_ f1 s1 tk1 tl1 n1 m1 a1 ta_ ct dv wr.heap.size w.heap.size) w3 := ⟨(hg3.block _ (gl hS4.1) (by simp)).trans hS4.1, (hg3.block _ (gl hS4.2.1) (by simp)).trans hS4.2.1, (hg3.block _ (gl hS4.2.2.1) (by simp)).trans hS4.2.2.1, (hg3.block _ (gl hS4.2.2.2) (by simp)).trans hS4.2.2.2⟩
        have hn3 := (hg3.block _ (gl hnA) (by simp)).trans hnA
        have hfb : w.heap.size < W2.heap.size ∧ wr.heap.size < W2.heap.size ∧ ab < W2.heap.size ∧ sb < W2.heap.size := ⟨(gl hS2.2.2.2), (gl hS2.2.2.1), (gl hS2.1), (gl hS2.2.1)⟩
        refine wpL_store (i := 11) W2.heap.size #[.int .i64 xa, .int .i64 xe] _ 63 63 _ _ (by kernel_rfl) rfl (by kernel_rfl) (by kernel_rfl) rfl rfl rfl hn3 (by kernel_rfl) rfl (by kernel_rfl) (fun w7 hh7 hg7 => ⟨⟨(hg7.block _ (gl hS5.1) (by simp; omega)).trans hS5.1, (hg7.block _ (gl hS5.2.1) (by simp; omega)).trans hS5.2.1, (hg7.block _ (gl hS5.2.2.1) (by simp; omega)).trans hS5.2.2.1, (hg7.block _ (gl hS5.2.2.2) (by simp; omega)).trans hS5.2.2.2⟩, ?_⟩)
        (try simp only [Act.put, sA, sB, sC])
        refine wpL_done (by kernel_rfl) ?_ _
        have hgz : W2.drew.grownBy w7 none := (hgA.trans hg3).andThen hg7 (fun j e => .inl (by cases e; exact Nat.le_refl _))
        have hSz : (TrS A ab sb ob qa ua ta la ia ka qn qc un uc tn tc ln lc jn ic kn kc nm nm1 to at_ f1 s1 tk1 tl1 n1 m1 a1 ta_ ct dv wr.heap.size w.heap.size) w7 := ⟨(hg7.block _ (gl hS5.1) (by simp; omega)).trans hS5.1, (hg7.block _ (gl hS5.2.1) (by simp; omega)).trans hS5.2.1, (hg7.block _ (gl hS5.2.2.1) (by simp; omega)).trans hS5.2.2.1, (hg7.block _ (gl hS5.2.2.2) (by simp; omega)).trans hS5.2.2.2⟩
        clear hg7 hS5 hS4 hg3 hn3 hnA hgA
        have d0 := cell_of_row w7 _ 0 _ _ _ hh7
        have d1 := cell_of_row w7 _ 1 _ _ _ hh7
        have HSz := ld hSz
        have HGz := ld hgz
        have hfa := hfd w7
        have t0 := cell_of_row w7 _ 0 _ _ _ hSz.2.2.1
        have t1 := cell_of_row w7 _ 1 _ _ _ hSz.2.2.1
        have t2 := cell_of_row w7 _ 2 _ _ _ hSz.2.2.1
        have t3 := cell_of_row w7 _ 3 _ _ _ hSz.2.2.1
        have t4 := cell_of_row w7 _ 4 _ _ _ hSz.2.2.1
        have t5 := cell_of_row w7 _ 5 _ _ _ hSz.2.2.1
        have t6 := cell_of_row w7 _ 6 _ _ _ hSz.2.2.1
        have t7 := cell_of_row w7 _ 7 _ _ _ hSz.2.2.1
        have t8 := cell_of_row w7 _ 8 _ _ _ hSz.2.2.1
        clear hh7 hSz hgz hS0 hS2
        go_wp2_with (first | (go_at_call 29; refine hfa.mono ?_; rintro e w8 ⟨rfl, hg8⟩; have hg8z := HGz.out.trans hg8; have v0 := hg8.cell t0 (by simp); have v1 := hg8.cell t1 (by simp); have v2 := hg8.cell t2 (by simp); have v3 := hg8.cell t3 (by simp); have v4 := hg8.cell t4 (by simp); have v5 := hg8.cell t5 (by simp); have v6 := hg8.cell t6 (by simp); have v7 := hg8.cell t7 (by simp); have v8 := hg8.cell t8 (by simp)) | (go_at_call 16; refine (hme _ hg8z).mono ?_; rintro e w10 ⟨rfl, hg10⟩; have ta9 := hg10.cell (hg8.cell (cell_of_row w7 _ 11 _ _ _ HSz.out.2.2.1) (by simp)) (by simp); have hce8 := (hg10.block _ (gl ((hg8.block _ (Array.getElem?_eq_some_iff.1 HSz.out.2.2.2).1 (by simp)).trans HSz.out.2.2.2)) (by simp)).trans ((hg8.block _ (gl HSz.out.2.2.2) (by simp)).trans HSz.out.2.2.2); refine Hid.out ?_))
        refine ld ?_
        have HF8 := ld hce8
        have hgA := (HGw.out.trans HGz.out).trans (hg8.trans hg10)
        have HFA := ld hgA
        clear hce8 ta9 hgA
        go_wp2
        exact ⟨⟨t + 1, by omega, by go_num, ld ⟨HFA.out, HF8.out, HM.out⟩⟩, by simp [intOf]; omega⟩
     ·have hb : (xe != 0) = true := by simp [h0]
      rw [hb] at hfd
      rw [if_neg h0] at hm
      have HM := ld (Option.some.inj hm)
      clear hm h0 hb hmem
      go_wp2
      rw [← HW1.out]
      refine wp_region_L2 (S := TrS A ab sb ob qa ua ta la ia ka qn qc un uc tn tc ln lc jn ic kn kc nm nm1 to at_ f1 s1 tk1 tl1 n1 m1 a1 ta_ ct dv wr.heap.size w.heap.size) (by kernel_rfl) ?_
      refine t1 0 14 (.pointer (some ⟨sb, 0, none⟩)) hS0 ?_
      (try simp only [Act.put, sA, sB, sC])
      refine t1 1 15 (.pointer (some ⟨sb, 0, none⟩)) hS0 ?_
      (try simp only [Act.put, sA, sB, sC])
      refine t1 2 16 (.pointer (some ⟨sb, 0, none⟩)) hS0 ?_
      (try simp only [Act.put, sA, sB, sC])
      refine t2 3 17 (.pointer (some ⟨ab, 0, none⟩)) (fun w' hw' => ?_) hS0 ?_
      ·have hc0 := cell_of_row w' _ 0 _ _ _ (hw'.2.1); clear hw'; go_simp
      (try simp only [Act.put, sA, sB, sC])
      refine t1 4 18 (.pointer (some ⟨wr.heap.size, 9, none⟩)) hS0 ?_
      (try simp only [Act.put, sA, sB, sC])
      refine t2 5 19 (.string ⟨to.toArray⟩) (fun w' hw' => ?_) hS0 ?_
      ·have hc0 := cell_of_row w' _ 9 _ _ _ (hw'.2.2.1); clear hw'; go_simp
      (try simp only [Act.put, sA, sB, sC])
      refine wpL_call (i := 6) (d := 20) (R := fun v w' => v = .bool true ∧ w' = W1.drew) (by kernel_rfl) rfl (by kernel_rfl) (by kernel_rfl) (by kernel_rfl) (hst.mono fun e w' he => ⟨_, he.1, rfl, he.2⟩) (fun v w' h => by rw [h.2]; exact hS0) (fun v w' h => ?_)
      rw [h.1, h.2]
      clear h v w'
      (try simp only [Act.put, sA, sB, sC])
      refine t1 7 21 (.bool false) hS0 ?_
      (try simp only [Act.put, sA, sB, sC])
      refine wpL_done (by kernel_rfl) ?_ _
      go_wp2
      rw [← HW2.out]
      refine wp_region_L2 (S := TrS A ab sb ob qa ua ta la ia ka qn qc un uc tn tc ln lc jn ic kn kc nm nm1 to at_ f1 s1 tk1 tl1 n1 m1 a1 ta_ ct dv wr.heap.size w.heap.size) (by kernel_rfl) ?_
      refine t1 0 25 (.pointer (some ⟨sb, 0, none⟩)) hS2 ?_
      (try simp only [Act.put, sA, sB, sC])
      refine t1 1 26 (.pointer (some ⟨sb, 0, none⟩)) hS2 ?_
      (try simp only [Act.put, sA, sB, sC])
      refine t1 2 27 (.pointer (some ⟨sb, 0, none⟩)) hS2 ?_
      (try simp only [Act.put, sA, sB, sC])
      refine t2 3 28 (.pointer (some ⟨ab, 0, none⟩)) (fun w' hw' => ?_) hS2 ?_
      ·have hc0 := cell_of_row w' _ 0 _ _ _ (hw'.2.1); clear hw'; go_simp
      (try simp only [Act.put, sA, sB, sC])
      refine t1 4 29 (.pointer (some ⟨ab, 0, none⟩)) hS2 ?_
      (try simp only [Act.put, sA, sB, sC])
      refine t1 5 30 (.pointer (some ⟨ab, 0, none⟩)) hS2 ?_
      (try simp only [Act.put, sA, sB, sC])
      refine t2 6 31 (.pointer (some ⟨A.c, 0, none⟩)) (fun w' hw' => ?_) hS2 ?_
      ·have hc0 := cell_of_row w' _ 0 _ _ _ (hw'.1); clear hw'; go_simp
      (try simp only [Act.put, sA, sB, sC])
      refine t1 7 32 (.pointer (some ⟨wr.heap.size, 0, none⟩)) hS2 ?_
      (try simp only [Act.put, sA, sB, sC])
      refine t2 8 33 (.agg #[.int .i64 f1, .int .i64 s1, .string ⟨nm1.toArray⟩, .int .i64 tk1, .int .i64 tl1, .int .i64 n1, .int .i64 m1, .slice ka kn kc, .int .i64 a1]) (fun w' hw' => ?_) hS2 ?_
      ·have hc0 := cell_of_row w' _ 0 _ _ _ (hw'.2.2.1); have hc1 := cell_of_row w' _ 1 _ _ _ (hw'.2.2.1); have hc2 := cell_of_row w' _ 2 _ _ _ (hw'.2.2.1); have hc3 := cell_of_row w' _ 3 _ _ _ (hw'.2.2.1); have hc4 := cell_of_row w' _ 4 _ _ _ (hw'.2.2.1); have hc5 := cell_of_row w' _ 5 _ _ _ (hw'.2.2.1); have hc6 := cell_of_row w' _ 6 _ _ _ (hw'.2.2.1); have hc7 := cell_of_row w' _ 7 _ _ _ (hw'.2.2.1); have hc8 := cell_of_row w' _ 8 _ _ _ (hw'.2.2.1); clear hw'; go_simp
      (try simp only [Act.put, sA, sB, sC])
      refine wpL_both (i := 9) (j := 10) (by kernel_rfl) ?_ ?_
      ·refine wpOp_call (d := 34) (R := fun v w' => v = .agg #[.int .i64 xa, .int .i64 xe] ∧ W2.drew.grownBy w' none) rfl (by kernel_rfl) (by kernel_rfl) (by kernel_rfl) ((hex _ hgd).mono fun e w' he => ⟨_, he.1, rfl, he.2⟩) (fun v w3 h => ⟨fun _ => ⟨(h.2.block _ (gl hS2.1) (by simp)).trans hS2.1, (h.2.block _ (gl hS2.2.1) (by simp)).trans hS2.2.1, (h.2.block _ (gl hS2.2.2.1) (by simp)).trans hS2.2.2.1, (h.2.block _ (gl hS2.2.2.2) (by simp)).trans hS2.2.2.2⟩, ?_⟩)
       have hg3 := h.2
       rw [h.1]
       clear h v
       have hS3 : (TrS A ab sb ob qa ua ta la ia ka qn qc un uc tn tc ln lc jn ic kn kc nm nm1 to at_ f1 s1 tk1 tl1 n1 m1 a1 ta_ ct dv wr.heap.size w.heap.size) w3 := ⟨(hg3.block _ (gl hS2.1) (by simp)).trans hS2.1, (hg3.block _ (gl hS2.2.1) (by simp)).trans hS2.2.1, (hg3.block _ (gl hS2.2.2.1) (by simp)).trans hS2.2.2.1, (hg3.block _ (gl hS2.2.2.2) (by simp)).trans hS2.2.2.2⟩
       (try simp only [Act.put, sA, sB, sC])
       refine wpL_val (i := 10) (d := 7) (v := .pointer (some ⟨w3.heap.size, 0, none⟩)) (w' := w3.alloc fo) (by kernel_rfl) rfl (by kernel_rfl) (by kernel_rfl) (by kernel_rfl) ⟨((ga w3 fo none).block _ (gl hS3.1) (by simp)).trans hS3.1, ((ga w3 fo none).block _ (gl hS3.2.1) (by simp)).trans hS3.2.1, ((ga w3 fo none).block _ (gl hS3.2.2.1) (by simp)).trans hS3.2.2.1, ((ga w3 fo none).block _ (gl hS3.2.2.2) (by simp)).trans hS3.2.2.2⟩ ?_
       (try simp only [Act.put, sA, sB, sC])
       have hS4 : (TrS A ab sb ob qa ua ta la ia ka qn qc un uc tn tc ln lc jn ic kn kc nm nm1 to at_ f1 s1 tk1 tl1 n1 m1 a1 ta_ ct dv wr.heap.size w.heap.size) (w3.alloc fo) := ⟨((ga w3 fo none).block _ (gl hS3.1) (by simp)).trans hS3.1, ((ga w3 fo none).block _ (gl hS3.2.1) (by simp)).trans hS3.2.1, ((ga w3 fo none).block _ (gl hS3.2.2.1) (by simp)).trans hS3.2.2.1, ((ga w3 fo none).block _ (gl hS3.2.2.2) (by simp)).trans hS3.2.2.2⟩
       have hl3 := hg3.size
       have hfb : w.heap.size < w3.heap.size ∧ wr.heap.size < w3.heap.size ∧ ab < w3.heap.size ∧ sb < w3.heap.size := ⟨(gl hS3.2.2.2), (gl hS3.2.2.1), (gl hS3.1), (gl hS3.2.1)⟩
       refine wpL_store (i := 11) w3.heap.size #[.int .i64 xa, .int .i64 xe] _ 63 63 _ _ (by kernel_rfl) rfl (by kernel_rfl) (by kernel_rfl) rfl rfl rfl (heap_alloc_new w3 fo) (by kernel_rfl) rfl (by kernel_rfl) (fun w7 hh7 hg7 => ⟨⟨(hg7.block _ (gl hS4.1) (by simp; omega)).trans hS4.1, (hg7.block _ (gl hS4.2.1) (by simp; omega)).trans hS4.2.1, (hg7.block _ (gl hS4.2.2.1) (by simp; omega)).trans hS4.2.2.1, (hg7.block _ (gl hS4.2.2.2) (by simp; omega)).trans hS4.2.2.2⟩, ?_⟩)
       (try simp only [Act.put, sA, sB, sC])
       refine wpL_done (by kernel_rfl) ?_ _
       have hgz : W2.drew.grownBy w7 none := (galloc hg3 fo).andThen hg7 (fun j e => .inl (by cases e; exact hl3))
       have hSz : (TrS A ab sb ob qa ua ta la ia ka qn qc un uc tn tc ln lc jn ic kn kc nm nm1 to at_ f1 s1 tk1 tl1 n1 m1 a1 ta_ ct dv wr.heap.size w.heap.size) w7 := ⟨(hg7.block _ (gl hS4.1) (by simp; omega)).trans hS4.1, (hg7.block _ (gl hS4.2.1) (by simp; omega)).trans hS4.2.1, (hg7.block _ (gl hS4.2.2.1) (by simp; omega)).trans hS4.2.2.1, (hg7.block _ (gl hS4.2.2.2) (by simp; omega)).trans hS4.2.2.2⟩
       clear hg7 hS4 hS3 hg3 hl3
       have d0 := cell_of_row w7 _ 0 _ _ _ hh7
       have d1 := cell_of_row w7 _ 1 _ _ _ hh7
       have hce9 := hSz.2.2.2
       have HGz := ld hgz
       have hfa := hfd w7
       clear hh7 hSz hgz hS0 hS2
       go_wp2_with (go_at_call 29; refine hfa.mono ?_; rintro e w8 ⟨rfl, hg8⟩; have x0 := hg8.cell d0 (by simp); have x1 := hg8.cell d1 (by simp); have hce8 := (hg8.block _ (gl hce9) (by simp)).trans hce9; refine Hid.out ?_)
       refine ld ?_
       go_wp2_with (with_reducible refine hold_st 4 ?_)
       refine ld ?_
       refine sg hce8 ?_
       intro w9 hh9 hg9
       go_wp2
       (try simp only [Exit.inBlock, Exit.then])
       refine br hh9 Tryz.underlying63 ?_
       rw [← HM.out]
       exact ⟨rfl, ((HGw.out.trans HGz.out).trans hg8).andThen hg9 (fun j e => .inl (by cases e; exact Nat.le_refl _))⟩
      ·refine wpOp_val (d := 7) (v := .pointer (some ⟨W2.heap.size, 0, none⟩)) (w' := W2.drew.alloc fo) rfl (by kernel_rfl) (by kernel_rfl) (by kernel_rfl) ⟨fun _ => ⟨((ga W2.drew fo none).block _ (gl hS2.1) (by simp)).trans hS2.1, ((ga W2.drew fo none).block _ (gl hS2.2.1) (by simp)).trans hS2.2.1, ((ga W2.drew fo none).block _ (gl hS2.2.2.1) (by simp)).trans hS2.2.2.1, ((ga W2.drew fo none).block _ (gl hS2.2.2.2) (by simp)).trans hS2.2.2.2⟩, ?_⟩
       (try simp only [Act.put, sA, sB, sC])
       have hS4 : (TrS A ab sb ob qa ua ta la ia ka qn qc un uc tn tc ln lc jn ic kn kc nm nm1 to at_ f1 s1 tk1 tl1 n1 m1 a1 ta_ ct dv wr.heap.size w.heap.size) (W2.drew.alloc fo) := ⟨((ga W2.drew fo none).block _ (gl hS2.1) (by simp)).trans hS2.1, ((ga W2.drew fo none).block _ (gl hS2.2.1) (by simp)).trans hS2.2.1, ((ga W2.drew fo none).block _ (gl hS2.2.2.1) (by simp)).trans hS2.2.2.1, ((ga W2.drew fo none).block _ (gl hS2.2.2.2) (by simp)).trans hS2.2.2.2⟩
       have hgA : W2.drew.grownBy (W2.drew.alloc fo) none := ga _ _ _
       have hnA : (W2.drew.alloc fo).heap[W2.heap.size]? = some fo := heap_alloc_new W2.drew fo
       refine wpL_call (i := 9) (d := 34) (R := fun v w' => v = .agg #[.int .i64 xa, .int .i64 xe] ∧ (W2.drew.alloc fo).grownBy w' none) (by kernel_rfl) rfl (by kernel_rfl) (by kernel_rfl) (by kernel_rfl) ((hex _ (hgd.trans hgA)).mono fun e w' he => ⟨_, he.1, rfl, he.2⟩) (fun v w' h => ⟨(h.2.block _ (gl hS4.1) (by simp)).trans hS4.1, (h.2.block _ (gl hS4.2.1) (by simp)).trans hS4.2.1, (h.2.block _ (gl hS4.2.2.1) (by simp)).trans hS4.2.2.1, (h.2.block _ (gl hS4.2.2.2) (by simp)).trans hS4.2.2.2⟩) (fun v w3 h => ?_)
       have hg3 := h.2
       rw [h.1]
       clear h v
       (try simp only [Act.put, sA, sB, sC])
       have hS5 : (TrS A ab sb ob qa ua ta la ia ka qn qc un uc tn tc ln lc jn ic kn kc nm nm1 to at_ f1 s1 tk1 tl1 n1 m1 a1 ta_ ct dv wr.heap.size w.heap.size) w3 := ⟨(hg3.block _ (gl hS4.1) (by simp)).trans hS4.1, (hg3.block _ (gl hS4.2.1) (by simp)).trans hS4.2.1, (hg3.block _ (gl hS4.2.2.1) (by simp)).trans hS4.2.2.1, (hg3.block _ (gl hS4.2.2.2) (by simp)).trans hS4.2.2.2⟩
       have hn3 := (hg3.block _ (gl hnA) (by simp)).trans hnA
       have hfb : w.heap.size < W2.heap.size ∧ wr.heap.size < W2.heap.size ∧ ab < W2.heap.size ∧ sb < W2.heap.size := ⟨(gl hS2.2.2.2), (gl hS2.2.2.1), (gl hS2.1), (gl hS2.2.1)⟩
       refine wpL_store (i := 11) W2.heap.size #[.int .i64 xa, .int .i64 xe] _ 63 63 _ _ (by kernel_rfl) rfl (by kernel_rfl) (by kernel_rfl) rfl rfl rfl hn3 (by kernel_rfl) rfl (by kernel_rfl) (fun w7 hh7 hg7 => ⟨⟨(hg7.block _ (gl hS5.1) (by simp; omega)).trans hS5.1, (hg7.block _ (gl hS5.2.1) (by simp; omega)).trans hS5.2.1, (hg7.block _ (gl hS5.2.2.1) (by simp; omega)).trans hS5.2.2.1, (hg7.block _ (gl hS5.2.2.2) (by simp; omega)).trans hS5.2.2.2⟩, ?_⟩)
       (try simp only [Act.put, sA, sB, sC])
       refine wpL_done (by kernel_rfl) ?_ _
       have hgz : W2.drew.grownBy w7 none := (hgA.trans hg3).andThen hg7 (fun j e => .inl (by cases e; exact Nat.le_refl _))
       have hSz : (TrS A ab sb ob qa ua ta la ia ka qn qc un uc tn tc ln lc jn ic kn kc nm nm1 to at_ f1 s1 tk1 tl1 n1 m1 a1 ta_ ct dv wr.heap.size w.heap.size) w7 := ⟨(hg7.block _ (gl hS5.1) (by simp; omega)).trans hS5.1, (hg7.block _ (gl hS5.2.1) (by simp; omega)).trans hS5.2.1, (hg7.block _ (gl hS5.2.2.1) (by simp; omega)).trans hS5.2.2.1, (hg7.block _ (gl hS5.2.2.2) (by simp; omega)).trans hS5.2.2.2⟩
       clear hg7 hS5 hS4 hg3 hn3 hnA hgA
       have d0 := cell_of_row w7 _ 0 _ _ _ hh7
       have d1 := cell_of_row w7 _ 1 _ _ _ hh7
       have hce9 := hSz.2.2.2
       have HGz := ld hgz
       have hfa := hfd w7
       clear hh7 hSz hgz hS0 hS2
       go_wp2_with (go_at_call 29; refine hfa.mono ?_; rintro e w8 ⟨rfl, hg8⟩; have x0 := hg8.cell d0 (by simp); have x1 := hg8.cell d1 (by simp); have hce8 := (hg8.block _ (gl hce9) (by simp)).trans hce9; refine Hid.out ?_)
       refine ld ?_
       go_wp2_with (with_reducible refine hold_st 4 ?_)
       refine ld ?_
       refine sg hce8 ?_
       intro w9 hh9 hg9
       go_wp2
       (try simp only [Exit.inBlock, Exit.then])
       refine br hh9 Tryz.underlying63 ?_
       rw [← HM.out]
       exact ⟨rfl, ((HGw.out.trans HGz.out).trans hg8).andThen hg9 (fun j e => .inl (by cases e; exact Nat.le_refl _))⟩
   ·rw [if_neg hs] at hm; cases hm
  ·have e : t = L := by omega
   subst e
   rw [List.drop_eq_nil_of_le (by rw [← HL.out]; exact Nat.le_refl _)] at hm
   have HM := ld (Option.some.inj hm)
   clear hm
   go_wp2_with (with_reducible refine hold_st 4 ?_)
   refine ld ?_
   refine sg hcell ?_
   intro w7 hh7 hg7
   go_wp2
   (try simp only [Exit.inBlock, Exit.then])
   refine br hh7 Tryz.underlying63 ?_
   rw [← HM.out]
   exact ⟨rfl, hg.andThen hg7 (fun j e => .inl (by cases e; exact Nat.le_refl _))⟩
open Go.RowKit Go.Maps Go.WideMaps
open Nam (St F)
theorem SetAt.tight {w : World} {b n : Nat} {L : List (List UInt8)} (h : SetAt w b n L) : SetAt w b L.length L := by
 obtain ⟨D, ⟨es, clock, e1, e2, e3, e4⟩, h2, h3⟩ := h
 refine ⟨D, ⟨es, clock, e1, e2, ?_, e4⟩, h2, h3⟩
 rw [← h3, e4]
 simp [Maps.size, length_sorted]
theorem forget_short {own : Bool} : ∀ {vs : List Gram.Var} {st r : St}, Nam.forget own vs st = some r → ∀ x ∈ vs, Nam.short x.name = true
 | [], _, _, _ => fun x hx => by cases hx
 | v :: r, st, _, h => fun x hx => by
  unfold Nam.forget at h
  by_cases hs : Nam.short v.name = true
  ·rw [if_pos hs] at h
   rcases List.mem_cons.1 hx with rfl | hx
   ·exact hs
   ·exact forget_short h x hx
  ·rw [if_neg hs] at h; cases h
section
variable (A : Adr) (w0 w : World) (st : St) (ab sb ob n : Nat) (qa ua ta la ia : Option Addr) (qn qc un uc tn tc ln lc jn ic : Nat) (nm : List UInt8) (at_ : Int)
theorem sUnless_any (dv : Value) (O : List (List UInt8 × Option Nat)) (ts : List Gram.Trans) (hab : w.heap[ab]? = some (.cells #[.pointer (some ⟨A.c, 0, none⟩), .slice qa qn qc, .map (some ob)] 137 (0, 0))) (hsb : w.heap[sb]? = some (.cells #[.pointer (some ⟨ab, 0, none⟩), .string ⟨nm.toArray⟩, .slice ua un uc, .slice ta tn tc, .slice la ln lc, .slice ia jn ic, .int .i64 at_, dv] 143 (0, 0))) (hO : OutAt w ob n O) (h : Ck w0 w A st) (hv : RepC w0 0 [] (.l 139 12 (ts.map transD)) (.slice ua un uc)) (ra re : Int) (hr : Nam.trans (O.map Prod.fst) st ts = some (ra, re)) :
  Calls Tryz.prog 106 #[.pointer (some ⟨sb, 0, none⟩)] w fun e w' => e = .returned (.agg #[.int .i64 ra, .int .i64 re]) ∧ w.grownBy w' none := by
 have hg1 : w.grownBy (w.alloc fo) none := ga w fo none
 have hlb := (gl hsb)
 have c2 := cell_of_row w _ 2 _ _ _ hsb
 have hc := trans_any A w0 (w.alloc fo) st ab sb ob n qa ua ta la ia qn qc un uc tn tc ln lc jn ic nm at_ dv O ts _ _ _ ((hg1.block _ (gl hab) (by simp)).trans hab) ((hg1.block _ hlb (by simp)).trans hsb) (hO.kept hg1) (h.kept hg1) hv _ hr
 simp only [fv] at hc
 have hce : (w.alloc fo).heap[w.heap.size]? = some fo := heap_alloc_new w fo
 have HCe := ld hce
 rw [show fo = (Obj.cells #[Value.int .i64 0, Value.int .i64 0] 63) from rfl] at hc
 clear hce hab hsb hO h hv hr
 go_enter Tryz.func106, Tryz.ntmps106
 go_wp2_with (go_at_call 111; refine hc.mono ?_; rintro e w2 ⟨rfl, hg2⟩; have hce2 := (hg2.block _ (gl HCe.out) (by simp)).trans HCe.out; refine Hid.out ?_)
 refine ld ?_
 go_wp2_with (with_reducible refine hold_st 2 ?_)
 refine ld ?_
 refine sg hce2 ?_
 intro w7 hh7 hg7
 go_wp2
 (try simp only [Exit.inBlock, Exit.then])
 refine br hh7 Tryz.underlying63 ?_
 exact ⟨rfl, (hg1.trans hg2).andThen hg7 (fun j e => .inl (by cases e; exact Nat.le_refl _))⟩
theorem sUntil_any (dv : Value) (O : List (List UInt8 × Option Nat)) (ts : List Gram.Trans) (hab : w.heap[ab]? = some (.cells #[.pointer (some ⟨A.c, 0, none⟩), .slice qa qn qc, .map (some ob)] 137 (0, 0))) (hsb : w.heap[sb]? = some (.cells #[.pointer (some ⟨ab, 0, none⟩), .string ⟨nm.toArray⟩, .slice ua un uc, .slice ta tn tc, .slice la ln lc, .slice ia jn ic, .int .i64 at_, dv] 143 (0, 0))) (hO : OutAt w ob n O) (h : Ck w0 w A st) (hv : RepC w0 0 [] (.l 139 12 (ts.map transD)) (.slice ta tn tc)) (ra re : Int) (hr : Nam.trans (O.map Prod.fst) st ts = some (ra, re)) :
  Calls Tryz.prog 109 #[.pointer (some ⟨sb, 0, none⟩)] w fun e w' => e = .returned (.agg #[.int .i64 ra, .int .i64 re]) ∧ w.grownBy w' none := by
 have hg1 : w.grownBy (w.alloc fo) none := ga w fo none
 have hlb := (gl hsb)
 have c3 := cell_of_row w _ 3 _ _ _ hsb
 have hc := trans_any A w0 (w.alloc fo) st ab sb ob n qa ua ta la ia qn qc un uc tn tc ln lc jn ic nm at_ dv O ts _ _ _ ((hg1.block _ (gl hab) (by simp)).trans hab) ((hg1.block _ hlb (by simp)).trans hsb) (hO.kept hg1) (h.kept hg1) hv _ hr
 simp only [fv] at hc
 have hce : (w.alloc fo).heap[w.heap.size]? = some fo := heap_alloc_new w fo
 have HCe := ld hce
 rw [show fo = (Obj.cells #[Value.int .i64 0, Value.int .i64 0] 63) from rfl] at hc
 clear hce hab hsb hO h hv hr
 go_enter Tryz.func109, Tryz.ntmps109
 go_wp2_with (go_at_call 111; refine hc.mono ?_; rintro e w2 ⟨rfl, hg2⟩; have hce2 := (hg2.block _ (gl HCe.out) (by simp)).trans HCe.out; refine Hid.out ?_)
 refine ld ?_
 go_wp2_with (with_reducible refine hold_st 2 ?_)
 refine ld ?_
 refine sg hce2 ?_
 intro w7 hh7 hg7
 go_wp2
 (try simp only [Exit.inBlock, Exit.then])
 refine br hh7 Tryz.underlying63 ?_
 exact ⟨rfl, (hg1.trans hg2).andThen hg7 (fun j e => .inl (by cases e; exact Nat.le_refl _))⟩
theorem sLeave_none (vs : List Gram.Var)  (hab : w.heap[ab]? = some (.cells #[.pointer (some ⟨A.c, 0, none⟩), .slice qa qn qc, .map (some ob)] 137 (0, 0))) (hsb : w.heap[sb]? = some (.cells #[.pointer (some ⟨ab, 0, none⟩), .string ⟨nm.toArray⟩, .slice ua un uc, .slice ta tn tc, .slice la ln lc, .slice ia jn ic, .int .i64 at_, .map none] 143 (0, 0))) (haX : ab ∉ [A.b0, A.b1, A.b2]) (hsX : sb ∉ [A.b0, A.b1, A.b2]) (h : Ck w0 w A st) (hv : RepC w0 0 [] (.l 112 5 (vs.map varD)) (.slice la ln lc)) (r2 : St) (hr : Nam.forget true vs st = some r2) :
  Calls Tryz.prog 105 #[.pointer (some ⟨sb, 0, none⟩)] w fun e w' => e = .returned (.agg #[.int .i64 0, .int .i64 0]) ∧ Ck w0 w' A r2 ∧ Kp [A.b1, A.b2] w w' := by
 obtain ⟨hL, hLm⟩ := nLen hv
 rw [List.length_map] at hL
 unfold maxLen at hLm
 have HL := ld hL
 have hshort : ∀ x ∈ vs, Nam.short x.name = true := forget_short hr
 have HSH := ld hshort
 obtain ⟨W1, hW1⟩ : ∃ W1, W1 = w.alloc fo := ⟨_, rfl⟩
 have hg1 : w.grownBy W1 none := by rw [hW1]; exact ga w fo none
 have hgd : w.grownBy W1.drew none := gdrew hg1
 have hce : W1.drew.heap[w.heap.size]? = some fo := by rw [hW1]; exact heap_alloc_new w fo
 have hS0 : (fun W' => W'.heap[ab]? = some (.cells #[.pointer (some ⟨A.c, 0, none⟩), .slice qa qn qc, .map (some ob)] 137 (0, 0)) ∧ W'.heap[sb]? = some (.cells #[.pointer (some ⟨ab, 0, none⟩), .string ⟨nm.toArray⟩, .slice ua un uc, .slice ta tn tc, .slice la ln lc, .slice ia jn ic, .int .i64 at_, .map none] 143 (0, 0))) W1.drew := ⟨(hgd.block ab (gl hab) (by simp)).trans hab, (hgd.block sb (gl hsb) (by simp)).trans hsb⟩
 have hlb := (gl hsb)
 have hlt := h.lt
 have hlm := h.mm.lt
 have hb0 := h.base.size
 have hcall := forget2_any A vs _ _ _ st w0 W1.drew _ (h.kept hgd) hv hr
 have HF := ld hW1
 have HCe := ld hce
 have HG1 := ld hgd
 have hfw : w.heap.size ∉ [A.b1, A.b2] := by simp; omega
 clear hce hgd hg1 hW1 hL hshort hr
 go_enter Tryz.func105, Tryz.ntmps105
 go_wp2
 rw [show (Obj.cells #[Value.int .i64 0, Value.int .i64 0] 63) = fo from rfl, ← HF.out]
 refine wp_region_L2 (S := fun W' => W'.heap[ab]? = some (.cells #[.pointer (some ⟨A.c, 0, none⟩), .slice qa qn qc, .map (some ob)] 137 (0, 0)) ∧ W'.heap[sb]? = some (.cells #[.pointer (some ⟨ab, 0, none⟩), .string ⟨nm.toArray⟩, .slice ua un uc, .slice ta tn tc, .slice la ln lc, .slice ia jn ic, .int .i64 at_, .map none] 143 (0, 0))) (by kernel_rfl) ?_
 clear HF
 refine t1 0 5 (.pointer (some ⟨sb, 0, none⟩)) hS0 ?_
 (try simp only [Act.put, sA, sB, sC])
 refine t1 1 6 (.pointer (some ⟨sb, 0, none⟩)) hS0 ?_
 (try simp only [Act.put, sA, sB, sC])
 refine t1 2 7 (.pointer (some ⟨sb, 0, none⟩)) hS0 ?_
 (try simp only [Act.put, sA, sB, sC])
 refine t2 3 8 (.pointer (some ⟨ab, 0, none⟩)) (fun w' hw' => ?_) hS0 ?_
 ·have hc0 := cell_of_row w' _ 0 _ _ _ (hw'.2); clear hw'; go_simp
 (try simp only [Act.put, sA, sB, sC])
 refine t1 4 9 (.pointer (some ⟨ab, 0, none⟩)) hS0 ?_
 (try simp only [Act.put, sA, sB, sC])
 refine t1 5 10 (.pointer (some ⟨ab, 0, none⟩)) hS0 ?_
 (try simp only [Act.put, sA, sB, sC])
 refine t2 6 11 (.pointer (some ⟨A.c, 0, none⟩)) (fun w' hw' => ?_) hS0 ?_
 ·have hc0 := cell_of_row w' _ 0 _ _ _ (hw'.1); clear hw'; go_simp
 (try simp only [Act.put, sA, sB, sC])
 refine t1 7 12 (.pointer (some ⟨sb, 0, none⟩)) hS0 ?_
 (try simp only [Act.put, sA, sB, sC])
 refine t1 8 13 (.pointer (some ⟨sb, 0, none⟩)) hS0 ?_
 (try simp only [Act.put, sA, sB, sC])
 refine t1 9 14 (.pointer (some ⟨sb, 1, none⟩)) hS0 ?_
 (try simp only [Act.put, sA, sB, sC])
 refine t1 10 15 (.pointer (some ⟨sb, 4, none⟩)) hS0 ?_
 (try simp only [Act.put, sA, sB, sC])
 refine t2 11 16 (.slice la ln lc) (fun w' hw' => ?_) hS0 ?_
 ·have hc0 := cell_of_row w' _ 4 _ _ _ (hw'.2); clear hw'; go_simp
 (try simp only [Act.put, sA, sB, sC])
 refine wpL_call (i := 12) (d := 17) (R := fun v w' => v = .tuple #[] ∧ Ck w0 w' A r2 ∧ Kp [A.b1, A.b2] W1.drew w') (by kernel_rfl) rfl (by kernel_rfl) (by kernel_rfl) (by kernel_rfl) (hcall.mono fun e w' he => ⟨_, he.1, rfl, he.2⟩) (fun v w' h => ⟨h.2.2.at hS0.1 (fun e => haX (List.mem_cons_of_mem _ e)), h.2.2.at hS0.2 (fun e => hsX (List.mem_cons_of_mem _ e))⟩) (fun v w2 h => ?_)
 have hck2 := h.2.1
 have hkp2 := h.2.2
 rw [h.1]
 clear h v
 (try simp only [Act.put, sA, sB, sC])
 refine wpL_done (by kernel_rfl) ?_ _
 have hsb2 := hkp2.at hS0.2 (fun e => hsX (List.mem_cons_of_mem _ e))
 have hce2 := hkp2.at HCe.out (fun e => hfw (by simp at e ⊢; omega))
 have c4 := cell_of_row w2 _ 4 _ _ _ hsb2
 have hkw : Kp [A.b1, A.b2] w w2 := ((Kp.of0 HG1.out _).trans hkp2)
 have HCK := ld hck2
 have HKW := ld hkw
 have HSB := ld hsb2
 have HCE := ld hce2
 clear hck2 hkp2 hsb2 hce2 hkw hS0 hcall
 go_wp2
 go_loopw [24] (fun iv wr => ∃ t : Nat, t ≤ ln ∧ iv = .int .i64 (t : Int) ∧ Hid (Ck w0 wr A r2 ∧ Kp [A.b1, A.b2] w wr ∧ wr.heap[sb]? = some (.cells #[.pointer (some ⟨ab, 0, none⟩), .string ⟨nm.toArray⟩, .slice ua un uc, .slice ta tn tc, .slice la ln lc, .slice ia jn ic, .int .i64 at_, .map none] 143 (0, 0)) ∧ wr.heap[w.heap.size]? = some fo ∧ True)) (fun i _ => ln - (intOf i).toNat)
 case atStart => exact ⟨0, Nat.zero_le _, rfl, ld ⟨HCK.out, HKW.out, HSB.out, HCE.out, trivial⟩⟩
 case round =>
  obtain ⟨t, ht, rfl, HG⟩ := hrel
  obtain ⟨hck, hkp, hsbr, hcell, _⟩ := HG.out
  clear HG
  have hsz := (gl hcell)
  by_cases hlt2 : t < ln
  ·obtain ⟨x, hx⟩ : ∃ x, vs[t]? = some x := ⟨_, List.getElem?_eq_getElem (by rw [← HL.out]; exact hlt2)⟩
   have hs := HSH.out x (List.mem_of_getElem? hx)
   obtain ⟨g, p, q, r', rfl, c0, c1, c2, c3, c4', hc⟩ := varAt (RepC.kept hck.base (fun k e => by cases e) hv) hx
   obtain ⟨W3, hW3⟩ : ∃ W3, W3 = wr.alloc (.cells #[.string ⟨x.name.toArray⟩, .int .i64 x.tk, .int .i64 x.tl, .slice p q r', .int .i64 x.at_] 112) := ⟨_, rfl⟩
   have hg3 : wr.grownBy W3 none := by rw [hW3]; exact ga wr _ none
   have d0 : W3.cell? ⟨wr.heap.size, 0, none⟩ = some (.string ⟨x.name.toArray⟩) := by rw [hW3]; exact cell_of_row _ _ 0 _ _ _ (heap_alloc_new wr _)
   have d7 : W3.cell? ⟨sb, 7, none⟩ = some (.map none) := hg3.cell (cell_of_row wr _ 7 _ _ _ hsbr) (by simp)
   have hlw : wr.heap.size < W3.heap.size := by rw [hW3]; simp
   have hls : sb < wr.heap.size := (gl hsbr)
   have hrun := Maps.drop_nil (P := Tryz.prog) (w := W3.drew) (t := 74) (e := 108) kLaw Tryz.underlying74 (key_of x.name hs) 0
   unfold strV at hrun
   have hS4 : W3.drew.cell? ⟨wr.heap.size, 0, none⟩ = some (.string ⟨x.name.toArray⟩) ∧ W3.drew.cell? ⟨sb, 7, none⟩ = some (.map none) := ⟨d0, d7⟩
   have HFz := ld (And.intro (hck.kept (gdrew hg3)) (And.intro (hkp.trans (Kp.of0 (gdrew hg3) _)) (And.intro ((hg3.block _ hls (by simp)).trans hsbr) ((hg3.block _ hsz (by simp)).trans hcell))))
   have HW3 := ld hW3
   clear hW3 hck hkp hsbr hcell hx hg3
   go_wp2
   rw [← HW3.out]
   go_region_held3 (fun W => W.cell? ⟨wr.heap.size, 0, none⟩ = some (.string ⟨x.name.toArray⟩) ∧ W.cell? ⟨sb, 7, none⟩ = some (.map none)) (first | with_reducible exact hS4)
    (fail)
   go_wp2
   exact ⟨⟨t + 1, by omega, by go_num, ld ⟨HFz.out.1, HFz.out.2.1, HFz.out.2.2.1, HFz.out.2.2.2, trivial⟩⟩, by simp [intOf]; omega⟩
  ·have e : t = ln := by omega
   subst e
   go_wp2_with (with_reducible refine hold_st 2 ?_)
   refine ld ?_
   refine sg hcell ?_
   intro w7 hh7 hg7
   go_wp2
   (try simp only [Exit.inBlock, Exit.then])
   refine br hh7 Tryz.underlying63 ?_
   exact ⟨rfl, hck.keptB hg7 ⟨hb0, by simp; omega⟩, hkp.trans' hg7 (Nat.le_refl _)⟩
theorem sLeave_some (vs : List Gram.Var) (k m : Nat) (D1 D2 : List (List UInt8)) (hD : SetAt w k m D1) (hDn : D1.Nodup) (hkA : k ∉ [A.c, A.m, A.b0, A.b1, A.b2]) (hk0 : w0.heap.size ≤ k) (hka : ab ≠ k) (hkb : sb ≠ k) (hdr : Nam.dropAll D1 vs = some D2) (hab : w.heap[ab]? = some (.cells #[.pointer (some ⟨A.c, 0, none⟩), .slice qa qn qc, .map (some ob)] 137 (0, 0))) (hsb : w.heap[sb]? = some (.cells #[.pointer (some ⟨ab, 0, none⟩), .string ⟨nm.toArray⟩, .slice ua un uc, .slice ta tn tc, .slice la ln lc, .slice ia jn ic, .int .i64 at_, .map (some k)] 143 (0, 0))) (haX : ab ∉ [A.b0, A.b1, A.b2]) (hsX : sb ∉ [A.b0, A.b1, A.b2]) (h : Ck w0 w A st) (hv : RepC w0 0 [] (.l 112 5 (vs.map varD)) (.slice la ln lc)) (r2 : St) (hr : Nam.forget true vs st = some r2) :
  Calls Tryz.prog 105 #[.pointer (some ⟨sb, 0, none⟩)] w fun e w' => e = .returned (.agg #[.int .i64 0, .int .i64 0]) ∧ Ck w0 w' A r2 ∧ Kp [A.b1, A.b2, k] w w' ∧ SetAt w' k m D2 ∧ D2.Nodup := by
 obtain ⟨hL, hLm⟩ := nLen hv
 rw [List.length_map] at hL
 unfold maxLen at hLm
 have HL := ld hL
 have hshort : ∀ x ∈ vs, Nam.short x.name = true := forget_short hr
 have HSH := ld hshort
 obtain ⟨W1, hW1⟩ : ∃ W1, W1 = w.alloc fo := ⟨_, rfl⟩
 have hg1 : w.grownBy W1 none := by rw [hW1]; exact ga w fo none
 have hgd : w.grownBy W1.drew none := gdrew hg1
 have hce : W1.drew.heap[w.heap.size]? = some fo := by rw [hW1]; exact heap_alloc_new w fo
 have hS0 : (fun W' => W'.heap[ab]? = some (.cells #[.pointer (some ⟨A.c, 0, none⟩), .slice qa qn qc, .map (some ob)] 137 (0, 0)) ∧ W'.heap[sb]? = some (.cells #[.pointer (some ⟨ab, 0, none⟩), .string ⟨nm.toArray⟩, .slice ua un uc, .slice ta tn tc, .slice la ln lc, .slice ia jn ic, .int .i64 at_, .map (some k)] 143 (0, 0))) W1.drew := ⟨(hgd.block ab (gl hab) (by simp)).trans hab, (hgd.block sb (gl hsb) (by simp)).trans hsb⟩
 have hlb := (gl hsb)
 have hlt := h.lt
 have hlm := h.mm.lt
 have hb0 := h.base.size
 have hcall := forget2_any A vs _ _ _ st w0 W1.drew _ (h.kept hgd) hv hr
 have HF := ld hW1
 have HCe := ld hce
 have HG1 := ld hgd
 have hfw : w.heap.size ∉ [A.b1, A.b2, k] := by have := hD.lt; simp; omega
 clear hce hgd hg1 hW1 hL hshort hr
 go_enter Tryz.func105, Tryz.ntmps105
 go_wp2
 rw [show (Obj.cells #[Value.int .i64 0, Value.int .i64 0] 63) = fo from rfl, ← HF.out]
 refine wp_region_L2 (S := fun W' => W'.heap[ab]? = some (.cells #[.pointer (some ⟨A.c, 0, none⟩), .slice qa qn qc, .map (some ob)] 137 (0, 0)) ∧ W'.heap[sb]? = some (.cells #[.pointer (some ⟨ab, 0, none⟩), .string ⟨nm.toArray⟩, .slice ua un uc, .slice ta tn tc, .slice la ln lc, .slice ia jn ic, .int .i64 at_, .map (some k)] 143 (0, 0))) (by kernel_rfl) ?_
 clear HF
 refine t1 0 5 (.pointer (some ⟨sb, 0, none⟩)) hS0 ?_
 (try simp only [Act.put, sA, sB, sC])
 refine t1 1 6 (.pointer (some ⟨sb, 0, none⟩)) hS0 ?_
 (try simp only [Act.put, sA, sB, sC])
 refine t1 2 7 (.pointer (some ⟨sb, 0, none⟩)) hS0 ?_
 (try simp only [Act.put, sA, sB, sC])
 refine t2 3 8 (.pointer (some ⟨ab, 0, none⟩)) (fun w' hw' => ?_) hS0 ?_
 ·have hc0 := cell_of_row w' _ 0 _ _ _ (hw'.2); clear hw'; go_simp
 (try simp only [Act.put, sA, sB, sC])
 refine t1 4 9 (.pointer (some ⟨ab, 0, none⟩)) hS0 ?_
 (try simp only [Act.put, sA, sB, sC])
 refine t1 5 10 (.pointer (some ⟨ab, 0, none⟩)) hS0 ?_
 (try simp only [Act.put, sA, sB, sC])
 refine t2 6 11 (.pointer (some ⟨A.c, 0, none⟩)) (fun w' hw' => ?_) hS0 ?_
 ·have hc0 := cell_of_row w' _ 0 _ _ _ (hw'.1); clear hw'; go_simp
 (try simp only [Act.put, sA, sB, sC])
 refine t1 7 12 (.pointer (some ⟨sb, 0, none⟩)) hS0 ?_
 (try simp only [Act.put, sA, sB, sC])
 refine t1 8 13 (.pointer (some ⟨sb, 0, none⟩)) hS0 ?_
 (try simp only [Act.put, sA, sB, sC])
 refine t1 9 14 (.pointer (some ⟨sb, 1, none⟩)) hS0 ?_
 (try simp only [Act.put, sA, sB, sC])
 refine t1 10 15 (.pointer (some ⟨sb, 4, none⟩)) hS0 ?_
 (try simp only [Act.put, sA, sB, sC])
 refine t2 11 16 (.slice la ln lc) (fun w' hw' => ?_) hS0 ?_
 ·have hc0 := cell_of_row w' _ 4 _ _ _ (hw'.2); clear hw'; go_simp
 (try simp only [Act.put, sA, sB, sC])
 refine wpL_call (i := 12) (d := 17) (R := fun v w' => v = .tuple #[] ∧ Ck w0 w' A r2 ∧ Kp [A.b1, A.b2] W1.drew w') (by kernel_rfl) rfl (by kernel_rfl) (by kernel_rfl) (by kernel_rfl) (hcall.mono fun e w' he => ⟨_, he.1, rfl, he.2⟩) (fun v w' h => ⟨h.2.2.at hS0.1 (fun e => haX (List.mem_cons_of_mem _ e)), h.2.2.at hS0.2 (fun e => hsX (List.mem_cons_of_mem _ e))⟩) (fun v w2 h => ?_)
 have hck2 := h.2.1
 have hkp2 := h.2.2
 rw [h.1]
 clear h v
 (try simp only [Act.put, sA, sB, sC])
 refine wpL_done (by kernel_rfl) ?_ _
 have hsb2 := hkp2.at hS0.2 (fun e => hsX (List.mem_cons_of_mem _ e))
 have hce2 := hkp2.at HCe.out (fun e => hfw (by simp at e ⊢; omega))
 have c4 := cell_of_row w2 _ 4 _ _ _ hsb2
 have hkw : Kp [A.b1, A.b2, k] w w2 := ((Kp.of0 HG1.out _).trans hkp2).mono (fun i hi _ => by simp at hi ⊢; omega)
 have HCK := ld hck2
 have HKW := ld hkw
 have HSB := ld hsb2
 have HCE := ld hce2
 have HDD := ld (And.intro (hD.keptK ((Kp.of0 HG1.out [A.b1, A.b2]).trans hkp2) (by simp at hkA ⊢; omega)) (And.intro hDn hdr))
 clear hck2 hkp2 hsb2 hce2 hkw hS0 hcall
 go_wp2
 go_loopw [24] (fun iv wr => ∃ (t : Nat) (E : List (List UInt8)), t ≤ ln ∧ iv = .int .i64 (t : Int) ∧ Hid (Ck w0 wr A r2 ∧ Kp [A.b1, A.b2, k] w wr ∧ wr.heap[sb]? = some (.cells #[.pointer (some ⟨ab, 0, none⟩), .string ⟨nm.toArray⟩, .slice ua un uc, .slice ta tn tc, .slice la ln lc, .slice ia jn ic, .int .i64 at_, .map (some k)] 143 (0, 0)) ∧ wr.heap[w.heap.size]? = some fo ∧ SetAt wr k m E ∧ E.Nodup ∧ Nam.dropAll E (vs.drop t) = some D2)) (fun i _ => ln - (intOf i).toNat)
 case atStart => exact ⟨0, D1, Nat.zero_le _, rfl, ld ⟨HCK.out, HKW.out, HSB.out, HCE.out, HDD.out.1, HDD.out.2.1, HDD.out.2.2⟩⟩
 case round =>
  obtain ⟨t, E, ht, rfl, HG⟩ := hrel
  obtain ⟨hck, hkp, hsbr, hcell, hE, hEn, hm⟩ := HG.out
  clear HG
  have hsz := (gl hcell)
  by_cases hlt2 : t < ln
  ·obtain ⟨x, hx⟩ : ∃ x, vs[t]? = some x := ⟨_, List.getElem?_eq_getElem (by rw [← HL.out]; exact hlt2)⟩
   have hs := HSH.out x (List.mem_of_getElem? hx)
   obtain ⟨g, p, q, r', rfl, c0, c1, c2, c3, c4', hc⟩ := varAt (RepC.kept hck.base (fun k e => by cases e) hv) hx
   obtain ⟨W3, hW3⟩ : ∃ W3, W3 = wr.alloc (.cells #[.string ⟨x.name.toArray⟩, .int .i64 x.tk, .int .i64 x.tl, .slice p q r', .int .i64 x.at_] 112) := ⟨_, rfl⟩
   have hg3 : wr.grownBy W3 none := by rw [hW3]; exact ga wr _ none
   have d0 : W3.cell? ⟨wr.heap.size, 0, none⟩ = some (.string ⟨x.name.toArray⟩) := by rw [hW3]; exact cell_of_row _ _ 0 _ _ _ (heap_alloc_new wr _)
   have d7 : W3.cell? ⟨sb, 7, none⟩ = some (.map (some k)) := hg3.cell (cell_of_row wr _ 7 _ _ _ hsbr) (by simp)
   have hlw : wr.heap.size < W3.heap.size := by rw [hW3]; simp
   have hls : sb < wr.heap.size := (gl hsbr)
   rw [drop_at hx] at hm
   unfold Nam.dropAll at hm
   rw [if_pos hs] at hm
   obtain ⟨D', h1, h2, h3⟩ := (hE.kept hg3)
   obtain ⟨w4, hrun, ho4, htn⟩ := (show W3.drew.ownsMap _ _ _ _ _ _ from h1).drop kLaw Tryz.underlying74 (key_of x.name hs) 0
   have hset4 := SetAt.del hEn h1 h2 h3 ho4
   have hg4 := htn.grown
   unfold strV at hrun
   have hS4 : W3.drew.cell? ⟨wr.heap.size, 0, none⟩ = some (.string ⟨x.name.toArray⟩) ∧ W3.drew.cell? ⟨sb, 7, none⟩ = some (.map (some k)) := ⟨d0, d7⟩
   have hkl := hE.lt
   have hS5 : w4.cell? ⟨wr.heap.size, 0, none⟩ = some (.string ⟨x.name.toArray⟩) ∧ w4.cell? ⟨sb, 7, none⟩ = some (.map (some k)) := ⟨hg4.cell hS4.1 (by simp; omega), hg4.cell hS4.2 (by simp; omega)⟩
   have hgd3 : wr.grownBy W3.drew none := gdrew hg3
   have hk4 : Kp [k] W3.drew w4 := Kp.of hg4 _ (fun k e _ => by cases e; simp)
   have HFz := ld (And.intro ((hck.kept hgd3).keptB hg4 ⟨hk0, hkA⟩) (And.intro ((hkp.trans (Kp.of0 hgd3 _)).trans (hk4.mono (fun i hi _ => by simp at hi ⊢; omega))) (And.intro (hk4.at ((hgd3.block _ hls (by simp)).trans hsbr) (by simp; omega)) (And.intro (hk4.at ((hgd3.block _ hsz (by simp)).trans hcell) (by intro e; exact hfw (by simp at e ⊢; omega))) (And.intro hset4 (And.intro (nodup_drop x.name hEn) hm))))))
   have HW3 := ld hW3
   clear hW3 hck hkp hsbr hcell hx hg3 h1 h2 h3 ho4 htn hg4 hset4 hgd3 hk4 hm hE hEn
   go_wp2
   rw [← HW3.out]
   go_region_held3 (fun W => W.cell? ⟨wr.heap.size, 0, none⟩ = some (.string ⟨x.name.toArray⟩) ∧ W.cell? ⟨sb, 7, none⟩ = some (.map (some k))) (first | with_reducible exact hS4 | with_reducible exact hS5)
    (fail)
   go_wp2
   exact ⟨⟨t + 1, _, by omega, by go_num, ld ⟨HFz.out.1, HFz.out.2.1, HFz.out.2.2.1, HFz.out.2.2.2.1, HFz.out.2.2.2.2.1, HFz.out.2.2.2.2.2.1, HFz.out.2.2.2.2.2.2⟩⟩, by simp [intOf]; omega⟩
  ·have e : t = ln := by omega
   subst e
   rw [List.drop_eq_nil_of_le (by rw [← HL.out]; exact Nat.le_refl _)] at hm
   have HM := ld (Option.some.inj hm)
   clear hm
   go_wp2_with (with_reducible refine hold_st 2 ?_)
   refine ld ?_
   refine sg hcell ?_
   intro w7 hh7 hg7
   go_wp2
   (try simp only [Exit.inBlock, Exit.then])
   refine br hh7 Tryz.underlying63 ?_
   rw [← HM.out]
   exact ⟨rfl, hck.keptB hg7 ⟨hb0, by simp; omega⟩, hkp.trans' hg7 (Nat.le_refl _), hE.keptK (Kp.of hg7 [w.heap.size] (fun i e _ => by cases e; simp)) (by have := hD.lt; simp; omega), hEn⟩
end
end Go.Proofs.YtonafedbehnneaaGreat
