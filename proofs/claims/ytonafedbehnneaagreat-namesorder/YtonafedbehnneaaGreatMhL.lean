/- My texts NmS NmT NmU NmV NmW NmX NmY NmZ NoA, joined. -/
import Derived.Test.YtonafedbehnneaaGreatMhK
set_option linter.unusedVariables false
set_option linter.unusedSimpArgs false
set_option linter.unnecessarySimpa false
set_option linter.unusedSectionVars false
set_option maxHeartbeats 12800000
set_option maxRecDepth 20000
namespace Go.Proofs.YtonafedbehnneaaGreat
open Go.RowKit Go.Maps Go.WideMaps
open Nam (St F)
def itPost (A : Adr) (w0 w : World) (r : (List (List UInt8) × F) × St) (o : Option Nat) (w' : World) : Prop :=
 Kp [A.b1, A.b2] w w' ∧ (r.1.2.2 = 0 → Ck w0 w' A r.2 ∧ ∃ k, o = some k ∧ w.heap.size ≤ k ∧ SetAt w' k r.1.1.length r.1.1 ∧ r.1.1.Nodup)
def CIt (f : Nat) : Prop := ∀ (A : Adr) (w0 w : World) (st : St) (its : List Gram.Item) (a : Option Addr) (L cap : Nat) (D : List (List UInt8)) (ra re : Int) (r2 : St), Ck w0 w A st → RepC w0 0 [] (.l 40 12 (itemsD its)) (.slice a L cap) → Nam.items f its st = some ((D, (ra, re)), r2) →
 Calls Tryz.prog 53 #[.pointer (some ⟨A.c, 0, none⟩), .slice a L cap] w fun e w' => ∃ o, e = .returned (.tuple #[.map o, .agg #[.int .i64 ra, .int .i64 re]]) ∧ itPost A w0 w ((D, (ra, re)), r2) o w'
section
variable (A : Adr) (w0 w : World) (st : St) (ab sb nb ob : Nat) (qa ua ta la ia : Option Addr) (qn qc un uc tn tc ln lc jn ic : Nat) (nm : List UInt8) (at_ : Int)
theorem sItems_any (dv : Value) (f : Nat) (hC : CIt f) (hab : w.heap[ab]? = some (.cells #[.pointer (some ⟨A.c, 0, none⟩), .slice qa qn qc, .map (some ob)] 137 (0, 0))) (hnb : w.heap[sb]? = some (.cells #[.pointer (some ⟨ab, 0, none⟩), .string ⟨nm.toArray⟩, .slice ua un uc, .slice ta tn tc, .slice la ln lc, .slice ia jn ic, .int .i64 at_, dv] 143 (0, 0))) (haX : ab ∉ [A.b0, A.b1, A.b2]) (hnX : sb ∉ [A.c, A.m, A.b0, A.b1, A.b2]) (hn0 : w0.heap.size ≤ sb) (hsa : ab ≠ sb) (h : Ck w0 w A st) (its : List Gram.Item) (hv : RepC w0 0 [] (.l 40 12 (itemsD its)) (.slice ia jn ic)) (D : List (List UInt8)) (ra re : Int) (r2 : St) (hr : Nam.items f its st = some ((D, (ra, re)), r2)) :
  Calls Tryz.prog 107 #[.pointer (some ⟨sb, 0, none⟩)] w fun e w' => e = .returned (.agg #[.int .i64 ra, .int .i64 re]) ∧ Kp [A.b1, A.b2, sb] w w' ∧ ∃ o, w'.heap[sb]? = some (.cells #[.pointer (some ⟨ab, 0, none⟩), .string ⟨nm.toArray⟩, .slice ua un uc, .slice ta tn tc, .slice la ln lc, .slice ia jn ic, .int .i64 at_, .map o] 143 (0, 0)) ∧ (re = 0 → Ck w0 w' A r2 ∧ ∃ k, o = some k ∧ w.heap.size < k ∧ SetAt w' k D.length D ∧ D.Nodup) := by
 obtain ⟨W1, hW1⟩ : ∃ W1, W1 = w.alloc fo := ⟨_, rfl⟩
 have hg1 : w.grownBy W1 none := by rw [hW1]; exact ga w fo none
 have hs1 : W1.heap.size = w.heap.size + 1 := by rw [hW1]; simp
 have hgd : w.grownBy W1.drew none := gdrew hg1
 have hce : W1.drew.heap[w.heap.size]? = some fo := by rw [hW1]; exact heap_alloc_new w fo
 have hS0 : (fun W' => W'.cell? ⟨ab, 0, none⟩ = some (.pointer (some ⟨A.c, 0, none⟩)) ∧ W'.cell? ⟨sb, 0, none⟩ = some (.pointer (some ⟨ab, 0, none⟩)) ∧ W'.cell? ⟨sb, 5, none⟩ = some (.slice ia jn ic)) W1.drew := ⟨hgd.cell (cell_of_row w _ 0 _ _ _ hab) (by simp), hgd.cell (cell_of_row w _ 0 _ _ _ hnb) (by simp), hgd.cell (cell_of_row w _ 5 _ _ _ hnb) (by simp)⟩
 have hbk : W1.drew.heap[sb]? = some (.cells #[.pointer (some ⟨ab, 0, none⟩), .string ⟨nm.toArray⟩, .slice ua un uc, .slice ta tn tc, .slice la ln lc, .slice ia jn ic, .int .i64 at_, dv] 143 (0, 0)) := (hgd.block _ (gl hnb) (by simp)).trans hnb
 have hlb := (gl hnb)
 have hla := (gl hab)
 have hlt := h.lt
 have hlm := h.mm.lt
 have hb0 := h.base.size
 have hcall := hC A w0 W1.drew st its _ _ _ D ra re r2 (h.kept hgd) hv hr
 have HF := ld hW1
 have HCe := ld hce
 have HG1 := ld hgd
 have HBK := ld hbk
 clear hce hgd hg1 hW1 hr hbk hnb hab
 go_enter Tryz.func107, Tryz.ntmps107
 go_wp2
 rw [show (Obj.cells #[Value.int .i64 0, Value.int .i64 0] 63) = fo from rfl, ← HF.out]
 refine wp_region_L2 (S := fun W' => W'.cell? ⟨ab, 0, none⟩ = some (.pointer (some ⟨A.c, 0, none⟩)) ∧ W'.cell? ⟨sb, 0, none⟩ = some (.pointer (some ⟨ab, 0, none⟩)) ∧ W'.cell? ⟨sb, 5, none⟩ = some (.slice ia jn ic)) (by kernel_rfl) ?_
 clear HF
 refine t1 0 4 (.pointer (some ⟨sb, 0, none⟩)) hS0 ?_
 (try simp only [Act.put, sA, sB, sC])
 refine t1 1 5 (.pointer (some ⟨sb, 0, none⟩)) hS0 ?_
 (try simp only [Act.put, sA, sB, sC])
 refine t1 2 6 (.pointer (some ⟨sb, 0, none⟩)) hS0 ?_
 (try simp only [Act.put, sA, sB, sC])
 refine t1 3 7 (.pointer (some ⟨sb, 0, none⟩)) hS0 ?_
 (try simp only [Act.put, sA, sB, sC])
 refine t2 4 8 (.pointer (some ⟨ab, 0, none⟩)) (fun w' hw' => ?_) hS0 ?_
 ·have hc0 := hw'.2.1; clear hw'; go_simp
 (try simp only [Act.put, sA, sB, sC])
 refine t1 5 9 (.pointer (some ⟨ab, 0, none⟩)) hS0 ?_
 (try simp only [Act.put, sA, sB, sC])
 refine t1 6 10 (.pointer (some ⟨ab, 0, none⟩)) hS0 ?_
 (try simp only [Act.put, sA, sB, sC])
 refine t2 7 11 (.pointer (some ⟨A.c, 0, none⟩)) (fun w' hw' => ?_) hS0 ?_
 ·have hc0 := hw'.1; clear hw'; go_simp
 (try simp only [Act.put, sA, sB, sC])
 refine t1 8 12 (.pointer (some ⟨sb, 0, none⟩)) hS0 ?_
 (try simp only [Act.put, sA, sB, sC])
 refine t1 9 13 (.pointer (some ⟨sb, 0, none⟩)) hS0 ?_
 (try simp only [Act.put, sA, sB, sC])
 refine t1 10 14 (.pointer (some ⟨sb, 1, none⟩)) hS0 ?_
 (try simp only [Act.put, sA, sB, sC])
 refine t1 11 15 (.pointer (some ⟨sb, 5, none⟩)) hS0 ?_
 (try simp only [Act.put, sA, sB, sC])
 refine t2 12 16 (.slice ia jn ic) (fun w' hw' => ?_) hS0 ?_
 ·have hc0 := hw'.2.2; clear hw'; go_simp
 (try simp only [Act.put, sA, sB, sC])
 refine wpL_call (i := 13) (d := 17) (R := fun v w' => ∃ o, v = .tuple #[.map o, .agg #[.int .i64 ra, .int .i64 re]] ∧ itPost A w0 W1.drew ((D, (ra, re)), r2) o w') (by kernel_rfl) rfl (by kernel_rfl) (by kernel_rfl) (by kernel_rfl) (hcall.mono fun e w' he => by obtain ⟨o, h1, h2⟩ := he; exact ⟨_, h1, o, rfl, h2⟩) (fun v w' h => by obtain ⟨o, _, h2⟩ := h; exact ⟨h2.1.cellAt hS0.1 (by intro e; simp at e haX; omega), h2.1.cellAt hS0.2.1 (by intro e; simp at e hnX; omega), h2.1.cellAt hS0.2.2 (by intro e; simp at e hnX; omega)⟩) (fun v w2 h => ?_)
 obtain ⟨o, rfl, hR⟩ := h
 have hS1 : (fun W' => W'.cell? ⟨ab, 0, none⟩ = some (.pointer (some ⟨A.c, 0, none⟩)) ∧ W'.cell? ⟨sb, 0, none⟩ = some (.pointer (some ⟨ab, 0, none⟩)) ∧ W'.cell? ⟨sb, 5, none⟩ = some (.slice ia jn ic)) w2 := ⟨hR.1.cellAt hS0.1 (by intro e; simp at e haX; omega), hR.1.cellAt hS0.2.1 (by intro e; simp at e hnX; omega), hR.1.cellAt hS0.2.2 (by intro e; simp at e hnX; omega)⟩
 have hbk2 := hR.1.at HBK.out (by intro e; simp at e hnX; omega)
 have hce2 := hR.1.at HCe.out (by simp; omega)
 have HR := ld hR
 clear hR
 (try simp only [Act.put, sA, sB, sC])
 refine t1 14 3 (.tuple #[.map o, .agg #[.int .i64 ra, .int .i64 re]]) hS1 ?_
 (try simp only [Act.put, sA, sB, sC])
 refine t1 15 18 (.map o) hS1 ?_
 (try simp only [Act.put, sA, sB, sC])
 refine t1 16 19 (.agg #[.int .i64 ra, .int .i64 re]) hS1 ?_
 (try simp only [Act.put, sA, sB, sC])
 refine t1 17 20 (.pointer (some ⟨sb, 0, none⟩)) hS1 ?_
 (try simp only [Act.put, sA, sB, sC])
 refine t1 18 21 (.pointer (some ⟨sb, 7, none⟩)) hS1 ?_
 (try simp only [Act.put, sA, sB, sC])
 have hlw := (gl hce2)
 have hl2 := (gl hbk2)
 have hFIN : ∀ w7, w7.heap[sb]? = some (.cells #[.pointer (some ⟨ab, 0, none⟩), .string ⟨nm.toArray⟩, .slice ua un uc, .slice ta tn tc, .slice la ln lc, .slice ia jn ic, .int .i64 at_, .map o] 143 (0, 0)) → Kp [sb, w.heap.size] w2 w7 → Kp [A.b1, A.b2, sb] w w7 ∧ ∃ o, w7.heap[sb]? = some (.cells #[.pointer (some ⟨ab, 0, none⟩), .string ⟨nm.toArray⟩, .slice ua un uc, .slice ta tn tc, .slice la ln lc, .slice ia jn ic, .int .i64 at_, .map o] 143 (0, 0)) ∧ (re = 0 → Ck w0 w7 A r2 ∧ ∃ k, o = some k ∧ w.heap.size < k ∧ SetAt w7 k D.length D ∧ D.Nodup) := by
  intro w7 hh hk
  refine ⟨⟨hk.os.trans (HR.out.1.os.trans HG1.out.os), hk.tape.trans (HR.out.1.tape.trans HG1.out.tape), hk.output.trans (HR.out.1.output.trans HG1.out.output), Nat.le_trans HG1.out.size (Nat.le_trans HR.out.1.size hk.size), fun i hi hx => ?_⟩, o, hh, fun h0 => ?_⟩
  ·simp at hx
   exact (hk.block i (Nat.lt_of_lt_of_le hi (Nat.le_trans HG1.out.size HR.out.1.size)) (by simp; omega)).trans ((HR.out.1.block i (Nat.lt_of_lt_of_le hi HG1.out.size) (by simp; omega)).trans (HG1.out.block i hi (by simp)))
  ·obtain ⟨hck, k, ho, hk1, hk2, hk3⟩ := HR.out.2 h0
   have hk1' : w.heap.size < k := Nat.lt_of_lt_of_le (by show w.heap.size < W1.heap.size; omega) hk1
   exact ⟨hck.keptK hk (by simp at hnX ⊢; omega), k, ho, hk1', hk2.keptK hk (by simp; omega), hk3⟩
 have HFIN := ld hFIN
 clear hFIN HR HG1 HCe HBK hcall
 refine wpL_one (i := 19) (by kernel_rfl) ?_
 ·refine wpOp_now rfl (by kernel_rfl) (fun K' hK => ?_)
  have x7 := cell_of_row w2 _ 7 _ _ _ hbk2
  have z7 := frozen_of_row w2 _ 7 _ _ hbk2
  unfold Oper.wp
  go_simp
  refine hK _ _ ⟨fun _ => ⟨(World.cell?_setCell_other _ _ _ _ (by simp <;> omega)).trans hS1.1, (World.cell?_setCell_other _ _ _ _ (by simp)).trans hS1.2.1, (World.cell?_setCell_other _ _ _ _ (by simp)).trans hS1.2.2⟩, ?_⟩
  clear hK K'
  have hgs : w2.grownBy (w2.setCell ⟨sb, 7, none⟩ (.map o)) (some sb) := grown_set w2 ⟨sb, 7, none⟩ _
  have hb3 : (w2.setCell ⟨sb, 7, none⟩ (.map o)).heap[sb]? = some (.cells #[.pointer (some ⟨ab, 0, none⟩), .string ⟨nm.toArray⟩, .slice ua un uc, .slice ta tn tc, .slice la ln lc, .slice ia jn ic, .int .i64 at_, .map o] 143 (0, 0)) := by rw [heap_setCell_same w2 sb 7 _ _ _ hbk2]; rfl
  have hce3 := (hgs.block _ hlw (by simp; omega)).trans hce2
  have hS3 : (fun W' => W'.cell? ⟨ab, 0, none⟩ = some (.pointer (some ⟨A.c, 0, none⟩)) ∧ W'.cell? ⟨sb, 0, none⟩ = some (.pointer (some ⟨ab, 0, none⟩)) ∧ W'.cell? ⟨sb, 5, none⟩ = some (.slice ia jn ic)) (w2.setCell ⟨sb, 7, none⟩ (.map o)) := ⟨(World.cell?_setCell_other _ _ _ _ (by simp <;> omega)).trans hS1.1, (World.cell?_setCell_other _ _ _ _ (by simp)).trans hS1.2.1, (World.cell?_setCell_other _ _ _ _ (by simp)).trans hS1.2.2⟩
  (try simp only [Act.put, sA, sB, sC])
  refine wpL_store (i := 20) w.heap.size #[.int .i64 ra, .int .i64 re] _ 63 63 _ _ (by kernel_rfl) rfl (by kernel_rfl) (by kernel_rfl) rfl rfl rfl hce3 (by kernel_rfl) rfl (by kernel_rfl) (fun w9 hh9 hg9 => ⟨⟨hg9.cell hS3.1 (by simp; omega), hg9.cell hS3.2.1 (by simp; omega), hg9.cell hS3.2.2 (by simp; omega)⟩, ?_⟩)
  have hZ := HFIN.out w9 ((hg9.block _ (gl hb3) (by simp; omega)).trans hb3) ((Kp.of hgs _ (fun k e _ => by cases e; simp)).trans (Kp.of hg9 _ (fun k e _ => by cases e; simp)))
  (try simp only [Act.put, sA, sB, sC])
  refine wpL_done (by kernel_rfl) ?_ _
  clear hS3 hb3 hce3 hgs hg9 x7 z7 hS1 hS0 hbk2 hce2
  have y0 := cell_of_row w9 _ 0 _ _ _ hh9
  have y1 := cell_of_row w9 _ 1 _ _ _ hh9
  have HZ := ld hZ
  have hh9' := hh9
  clear hZ
  go_wp2_with (with_reducible refine hold_st 2 ?_)
  refine ld ?_
  refine sg (hh9') ?_
  intro w7 hh7 hg7
  go_wp2
  (try simp only [Exit.inBlock, Exit.then])
  refine br hh7 Tryz.underlying63 ?_
  obtain ⟨z1, o9, z2, z3⟩ := HZ.out
  refine ⟨rfl, z1.trans' hg7 (Nat.le_refl _), o9, (hg7.block _ (gl z2) (by simp; omega)).trans z2, fun h0 => ?_⟩
  obtain ⟨k1, k, ho, k2, k3, k4⟩ := z3 h0
  exact ⟨k1.keptB hg7 ⟨hb0, by simp; omega⟩, k, ho, k2, k3.keptK (Kp.of hg7 [w.heap.size] (fun i e _ => by cases e; simp)) (by simp; omega), k4⟩
theorem nItems_any (dv : Value) (f : Nat) (hC : CIt f) (hnb : w.heap[nb]? = some (.cells #[.pointer (some ⟨A.c, 0, none⟩), .string ⟨nm.toArray⟩, .slice ua un uc, .slice ta tn tc, .slice la ln lc, .slice ia jn ic, .int .i64 at_, dv] 80 (0, 0))) (hnX : nb ∉ [A.c, A.m, A.b0, A.b1, A.b2]) (hn0 : w0.heap.size ≤ nb) (h : Ck w0 w A st) (its : List Gram.Item) (hv : RepC w0 0 [] (.l 40 12 (itemsD its)) (.slice ia jn ic)) (D : List (List UInt8)) (ra re : Int) (r2 : St) (hr : Nam.items f its st = some ((D, (ra, re)), r2)) :
  Calls Tryz.prog 39 #[.pointer (some ⟨nb, 0, none⟩)] w fun e w' => e = .returned (.agg #[.int .i64 ra, .int .i64 re]) ∧ Kp [A.b1, A.b2, nb] w w' ∧ ∃ o, w'.heap[nb]? = some (.cells #[.pointer (some ⟨A.c, 0, none⟩), .string ⟨nm.toArray⟩, .slice ua un uc, .slice ta tn tc, .slice la ln lc, .slice ia jn ic, .int .i64 at_, .map o] 80 (0, 0)) ∧ (re = 0 → Ck w0 w' A r2 ∧ ∃ k, o = some k ∧ w.heap.size < k ∧ SetAt w' k D.length D ∧ D.Nodup) := by
 obtain ⟨W1, hW1⟩ : ∃ W1, W1 = w.alloc fo := ⟨_, rfl⟩
 have hg1 : w.grownBy W1 none := by rw [hW1]; exact ga w fo none
 have hs1 : W1.heap.size = w.heap.size + 1 := by rw [hW1]; simp
 have hgd : w.grownBy W1.drew none := gdrew hg1
 have hce : W1.drew.heap[w.heap.size]? = some fo := by rw [hW1]; exact heap_alloc_new w fo
 have hS0 : (fun W' => W'.cell? ⟨nb, 0, none⟩ = some (.pointer (some ⟨A.c, 0, none⟩)) ∧ W'.cell? ⟨nb, 5, none⟩ = some (.slice ia jn ic)) W1.drew := ⟨hgd.cell (cell_of_row w _ 0 _ _ _ hnb) (by simp), hgd.cell (cell_of_row w _ 5 _ _ _ hnb) (by simp)⟩
 have hbk : W1.drew.heap[nb]? = some (.cells #[.pointer (some ⟨A.c, 0, none⟩), .string ⟨nm.toArray⟩, .slice ua un uc, .slice ta tn tc, .slice la ln lc, .slice ia jn ic, .int .i64 at_, dv] 80 (0, 0)) := (hgd.block _ (gl hnb) (by simp)).trans hnb
 have hlb := (gl hnb)
 have hlt := h.lt
 have hlm := h.mm.lt
 have hb0 := h.base.size
 have hcall := hC A w0 W1.drew st its _ _ _ D ra re r2 (h.kept hgd) hv hr
 have HF := ld hW1
 have HCe := ld hce
 have HG1 := ld hgd
 have HBK := ld hbk
 clear hce hgd hg1 hW1 hr hbk hnb
 go_enter Tryz.func39, Tryz.ntmps39
 go_wp2
 rw [show (Obj.cells #[Value.int .i64 0, Value.int .i64 0] 63) = fo from rfl, ← HF.out]
 refine wp_region_L2 (S := fun W' => W'.cell? ⟨nb, 0, none⟩ = some (.pointer (some ⟨A.c, 0, none⟩)) ∧ W'.cell? ⟨nb, 5, none⟩ = some (.slice ia jn ic)) (by kernel_rfl) ?_
 clear HF
 refine t1 0 4 (.pointer (some ⟨nb, 0, none⟩)) hS0 ?_
 (try simp only [Act.put, sA, sB, sC])
 refine t1 1 5 (.pointer (some ⟨nb, 0, none⟩)) hS0 ?_
 (try simp only [Act.put, sA, sB, sC])
 refine t1 2 6 (.pointer (some ⟨nb, 0, none⟩)) hS0 ?_
 (try simp only [Act.put, sA, sB, sC])
 refine t1 3 7 (.pointer (some ⟨nb, 0, none⟩)) hS0 ?_
 (try simp only [Act.put, sA, sB, sC])
 refine t2 4 8 (.pointer (some ⟨A.c, 0, none⟩)) (fun w' hw' => ?_) hS0 ?_
 ·have hc0 := hw'.1; clear hw'; go_simp
 (try simp only [Act.put, sA, sB, sC])
 refine t1 5 9 (.pointer (some ⟨nb, 0, none⟩)) hS0 ?_
 (try simp only [Act.put, sA, sB, sC])
 refine t1 6 10 (.pointer (some ⟨nb, 0, none⟩)) hS0 ?_
 (try simp only [Act.put, sA, sB, sC])
 refine t1 7 11 (.pointer (some ⟨nb, 1, none⟩)) hS0 ?_
 (try simp only [Act.put, sA, sB, sC])
 refine t1 8 12 (.pointer (some ⟨nb, 5, none⟩)) hS0 ?_
 (try simp only [Act.put, sA, sB, sC])
 refine t2 9 13 (.slice ia jn ic) (fun w' hw' => ?_) hS0 ?_
 ·have hc0 := hw'.2; clear hw'; go_simp
 (try simp only [Act.put, sA, sB, sC])
 refine wpL_call (i := 10) (d := 14) (R := fun v w' => ∃ o, v = .tuple #[.map o, .agg #[.int .i64 ra, .int .i64 re]] ∧ itPost A w0 W1.drew ((D, (ra, re)), r2) o w') (by kernel_rfl) rfl (by kernel_rfl) (by kernel_rfl) (by kernel_rfl) (hcall.mono fun e w' he => by obtain ⟨o, h1, h2⟩ := he; exact ⟨_, h1, o, rfl, h2⟩) (fun v w' h => by obtain ⟨o, _, h2⟩ := h; exact ⟨h2.1.cellAt hS0.1 (by intro e; simp at e hnX; omega), h2.1.cellAt hS0.2 (by intro e; simp at e hnX; omega)⟩) (fun v w2 h => ?_)
 obtain ⟨o, rfl, hR⟩ := h
 have hS1 : (fun W' => W'.cell? ⟨nb, 0, none⟩ = some (.pointer (some ⟨A.c, 0, none⟩)) ∧ W'.cell? ⟨nb, 5, none⟩ = some (.slice ia jn ic)) w2 := ⟨hR.1.cellAt hS0.1 (by intro e; simp at e hnX; omega), hR.1.cellAt hS0.2 (by intro e; simp at e hnX; omega)⟩
 have hbk2 := hR.1.at HBK.out (by intro e; simp at e hnX; omega)
 have hce2 := hR.1.at HCe.out (by simp; omega)
 have HR := ld hR
 clear hR
 (try simp only [Act.put, sA, sB, sC])
 refine t1 11 3 (.tuple #[.map o, .agg #[.int .i64 ra, .int .i64 re]]) hS1 ?_
 (try simp only [Act.put, sA, sB, sC])
 refine t1 12 15 (.map o) hS1 ?_
 (try simp only [Act.put, sA, sB, sC])
 refine t1 13 16 (.agg #[.int .i64 ra, .int .i64 re]) hS1 ?_
 (try simp only [Act.put, sA, sB, sC])
 refine t1 14 17 (.pointer (some ⟨nb, 0, none⟩)) hS1 ?_
 (try simp only [Act.put, sA, sB, sC])
 refine t1 15 18 (.pointer (some ⟨nb, 7, none⟩)) hS1 ?_
 (try simp only [Act.put, sA, sB, sC])
 have hlw := (gl hce2)
 have hl2 := (gl hbk2)
 have hFIN : ∀ w7, w7.heap[nb]? = some (.cells #[.pointer (some ⟨A.c, 0, none⟩), .string ⟨nm.toArray⟩, .slice ua un uc, .slice ta tn tc, .slice la ln lc, .slice ia jn ic, .int .i64 at_, .map o] 80 (0, 0)) → Kp [nb, w.heap.size] w2 w7 → Kp [A.b1, A.b2, nb] w w7 ∧ ∃ o, w7.heap[nb]? = some (.cells #[.pointer (some ⟨A.c, 0, none⟩), .string ⟨nm.toArray⟩, .slice ua un uc, .slice ta tn tc, .slice la ln lc, .slice ia jn ic, .int .i64 at_, .map o] 80 (0, 0)) ∧ (re = 0 → Ck w0 w7 A r2 ∧ ∃ k, o = some k ∧ w.heap.size < k ∧ SetAt w7 k D.length D ∧ D.Nodup) := by
  intro w7 hh hk
  refine ⟨⟨hk.os.trans (HR.out.1.os.trans HG1.out.os), hk.tape.trans (HR.out.1.tape.trans HG1.out.tape), hk.output.trans (HR.out.1.output.trans HG1.out.output), Nat.le_trans HG1.out.size (Nat.le_trans HR.out.1.size hk.size), fun i hi hx => ?_⟩, o, hh, fun h0 => ?_⟩
  ·simp at hx
   exact (hk.block i (Nat.lt_of_lt_of_le hi (Nat.le_trans HG1.out.size HR.out.1.size)) (by simp; omega)).trans ((HR.out.1.block i (Nat.lt_of_lt_of_le hi HG1.out.size) (by simp; omega)).trans (HG1.out.block i hi (by simp)))
  ·obtain ⟨hck, k, ho, hk1, hk2, hk3⟩ := HR.out.2 h0
   have hk1' : w.heap.size < k := Nat.lt_of_lt_of_le (by show w.heap.size < W1.heap.size; omega) hk1
   exact ⟨hck.keptK hk (by simp at hnX ⊢; omega), k, ho, hk1', hk2.keptK hk (by simp; omega), hk3⟩
 have HFIN := ld hFIN
 clear hFIN HR HG1 HCe HBK hcall
 refine wpL_one (i := 16) (by kernel_rfl) ?_
 ·refine wpOp_now rfl (by kernel_rfl) (fun K' hK => ?_)
  have x7 := cell_of_row w2 _ 7 _ _ _ hbk2
  have z7 := frozen_of_row w2 _ 7 _ _ hbk2
  unfold Oper.wp
  go_simp
  refine hK _ _ ⟨fun _ => ⟨(World.cell?_setCell_other _ _ _ _ (by simp)).trans hS1.1, (World.cell?_setCell_other _ _ _ _ (by simp)).trans hS1.2⟩, ?_⟩
  clear hK K'
  have hgs : w2.grownBy (w2.setCell ⟨nb, 7, none⟩ (.map o)) (some nb) := grown_set w2 ⟨nb, 7, none⟩ _
  have hb3 : (w2.setCell ⟨nb, 7, none⟩ (.map o)).heap[nb]? = some (.cells #[.pointer (some ⟨A.c, 0, none⟩), .string ⟨nm.toArray⟩, .slice ua un uc, .slice ta tn tc, .slice la ln lc, .slice ia jn ic, .int .i64 at_, .map o] 80 (0, 0)) := by rw [heap_setCell_same w2 nb 7 _ _ _ hbk2]; rfl
  have hce3 := (hgs.block _ hlw (by simp; omega)).trans hce2
  have hS3 : (fun W' => W'.cell? ⟨nb, 0, none⟩ = some (.pointer (some ⟨A.c, 0, none⟩)) ∧ W'.cell? ⟨nb, 5, none⟩ = some (.slice ia jn ic)) (w2.setCell ⟨nb, 7, none⟩ (.map o)) := ⟨(World.cell?_setCell_other _ _ _ _ (by simp)).trans hS1.1, (World.cell?_setCell_other _ _ _ _ (by simp)).trans hS1.2⟩
  (try simp only [Act.put, sA, sB, sC])
  refine wpL_store (i := 17) w.heap.size #[.int .i64 ra, .int .i64 re] _ 63 63 _ _ (by kernel_rfl) rfl (by kernel_rfl) (by kernel_rfl) rfl rfl rfl hce3 (by kernel_rfl) rfl (by kernel_rfl) (fun w9 hh9 hg9 => ⟨⟨hg9.cell hS3.1 (by simp; omega), hg9.cell hS3.2 (by simp; omega)⟩, ?_⟩)
  have hZ := HFIN.out w9 ((hg9.block _ (gl hb3) (by simp; omega)).trans hb3) ((Kp.of hgs _ (fun k e _ => by cases e; simp)).trans (Kp.of hg9 _ (fun k e _ => by cases e; simp)))
  (try simp only [Act.put, sA, sB, sC])
  refine wpL_done (by kernel_rfl) ?_ _
  clear hS3 hb3 hce3 hgs hg9 x7 z7 hS1 hS0 hbk2 hce2
  have y0 := cell_of_row w9 _ 0 _ _ _ hh9
  have y1 := cell_of_row w9 _ 1 _ _ _ hh9
  have HZ := ld hZ
  have hh9' := hh9
  clear hZ
  go_wp2_with (with_reducible refine hold_st 2 ?_)
  refine ld ?_
  refine sg (hh9') ?_
  intro w7 hh7 hg7
  go_wp2
  (try simp only [Exit.inBlock, Exit.then])
  refine br hh7 Tryz.underlying63 ?_
  obtain ⟨z1, o9, z2, z3⟩ := HZ.out
  refine ⟨rfl, z1.trans' hg7 (Nat.le_refl _), o9, (hg7.block _ (gl z2) (by simp; omega)).trans z2, fun h0 => ?_⟩
  obtain ⟨k1, k, ho, k2, k3, k4⟩ := z3 h0
  exact ⟨k1.keptB hg7 ⟨hb0, by simp; omega⟩, k, ho, k2, k3.keptK (Kp.of hg7 [w.heap.size] (fun i e _ => by cases e; simp)) (by simp; omega), k4⟩
end
open Go.RowKit Go.Maps Go.WideMaps
open Nam (St F)
structure Sv where
 nm : List UInt8
 ua : Option Addr
 un : Nat
 uc : Nat
 ta : Option Addr
 tn : Nat
 tc : Nat
 la : Option Addr
 ln : Nat
 lc : Nat
 ia : Option Addr
 jn : Nat
 ic : Nat
 at_ : Int
def Sv.obj (v : Sv) (ab : Nat) (dv : Value) : Obj := .cells #[.pointer (some ⟨ab, 0, none⟩), .string ⟨v.nm.toArray⟩, .slice v.ua v.un v.uc, .slice v.ta v.tn v.tc, .slice v.la v.ln v.lc, .slice v.ia v.jn v.ic, .int .i64 v.at_, dv] 143 (0, 0)
def aObj (A : Adr) (qa : Option Addr) (qn qc ob : Nat) : Obj := .cells #[.pointer (some ⟨A.c, 0, none⟩), .slice qa qn qc, .map (some ob)] 137 (0, 0)
def DefAt (W : World) (n0 : Nat) (D : Option (List (List UInt8))) (dv : Value) : Prop := match D with
 | none => dv = .map none
 | some D => ∃ k, dv = .map (some k) ∧ n0 < k ∧ SetAt W k D.length D ∧ D.Nodup
theorem DefAt.kept {W W' : World} {n0 : Nat} {D : Option (List (List UInt8))} {dv : Value} {X : List Nat} (h : DefAt W n0 D dv) (hk : Kp X W W') (hX : ∀ k ∈ X, k ≤ n0 ∨ W.heap.size ≤ k) : DefAt W' n0 D dv := by
 cases D with
 | none => exact h
 | some D =>
  obtain ⟨k, h1, h2, h3, h4⟩ := h
  exact ⟨k, h1, h2, h3.keptK hk (fun e => by have := hX k e; have := h3.lt; omega), h4⟩
section
variable (A : Adr) (w0 : World) (ab sb ob nO n0 : Nat) (qa : Option Addr) (qn qc : Nat) (O : List (List UInt8 × Option Nat)) (v : Sv)
def SInv (s : Nam.SS) (W : World) : Prop := Ck w0 W A s.1 ∧ W.heap[ab]? = some (aObj A qa qn qc ob) ∧ OutAt W ob nO O ∧ ∃ dv, W.heap[sb]? = some (v.obj ab dv) ∧ DefAt W n0 s.2 dv
structure SPl : Prop where
 pa : A.c < n0 ∧ A.m < n0 ∧ A.b0 < n0 ∧ A.b1 < n0 ∧ A.b2 < n0
 pab : ab < n0 ∧ ab ∉ [A.c, A.m, A.b0, A.b1, A.b2] ∧ w0.heap.size ≤ ab
 psb : sb < n0 ∧ sb ∉ [A.c, A.m, A.b0, A.b1, A.b2] ∧ w0.heap.size ≤ sb
 pob : ob < n0 ∧ ob ∉ [A.c, A.m, A.b0, A.b1, A.b2] ∧ w0.heap.size ≤ ob
 ne : ab ≠ sb ∧ ob ≠ sb ∧ ab ≠ ob
variable {A w0 ab sb ob nO n0 qa qn qc O v}
theorem SInv.on {s : Nam.SS} {W W' : World} (h : SInv A w0 ab sb ob nO n0 qa qn qc O v s W) (hp : SPl A w0 ab sb ob n0) {st' : St} (hk : Kp [A.b1, A.b2] W W') (hc : Ck w0 W' A st') : SInv A w0 ab sb ob nO n0 qa qn qc O v (st', s.2) W' := by
 obtain ⟨_, h2, h3, dv, h4, h5⟩ := h
 have p1 := hp.pab.2.1
 have p2 := hp.psb.2.1
 have p3 := hp.pob.2.1
 have p4 := hp.pa
 simp only [List.mem_cons, List.not_mem_nil, or_false, not_or] at p1 p2 p3
 exact ⟨hc, hk.at h2 (by simp; omega), h3.keptK hk (by simp; omega), dv, hk.at h4 (by simp; omega), h5.kept hk (by simp; omega)⟩
theorem SInv.grown {s : Nam.SS} {W W' : World} (h : SInv A w0 ab sb ob nO n0 qa qn qc O v s W) (hg : W.grownBy W' none) : SInv A w0 ab sb ob nO n0 qa qn qc O v s W' := by
 obtain ⟨h1, h2, h3, dv, h4, h5⟩ := h
 have hk : Kp [] W W' := Kp.of0 hg []
 exact ⟨h1.kept hg, hk.at h2 (by simp), h3.kept hg, dv, hk.at h4 (by simp), h5.kept hk (by simp)⟩
theorem SInv.other {s : Nam.SS} {W W' : World} (h : SInv A w0 ab sb ob nO n0 qa qn qc O v s W) {n : Nat} (hg : W.grownBy W' (some n)) (hn : n ≤ n0) (hb : w0.heap.size ≤ n) (hx : n ∉ [A.c, A.m, A.b0, A.b1, A.b2] ∧ n ≠ ab ∧ n ≠ sb ∧ n ≠ ob) : SInv A w0 ab sb ob nO n0 qa qn qc O v s W' := by
 obtain ⟨h1, h2, h3, dv, h4, h5⟩ := h
 have hk : Kp [n] W W' := Kp.of hg _ (fun k e _ => by cases e; simp)
 exact ⟨h1.keptB hg ⟨hb, hx.1⟩, hk.at h2 (by simp; omega), h3.keptK hk (by simp; omega), dv, hk.at h4 (by simp; omega), h5.kept hk (by simp; omega)⟩
theorem SInv.st {s : Nam.SS} {W W' : World} (h : SInv A w0 ab sb ob nO n0 qa qn qc O v s W) (hp : SPl A w0 ab sb ob n0) (hb : w0.heap.size ≤ n0) {n : Nat} (hg : W.grownBy W' (some n)) (hn : n = n0 ∨ W.heap.size ≤ n) : SInv A w0 ab sb ob nO n0 qa qn qc O v s W' := by
 obtain ⟨h1, h2, h3, dv, h4, h5⟩ := h
 have hk : Kp [n] W W' := Kp.of hg _ (fun k e _ => by cases e; simp)
 have q1 := h1.lt
 have q2 := h1.mm.lt
 have q3 := h3.lt
 have q4 := (gl h2)
 have q5 := (gl h4)
 have q6 := h1.base.size
 have p1 := hp.pab.1
 have p2 := hp.psb.1
 have p3 := hp.pob.1
 have p4 := hp.pa
 exact ⟨h1.keptK hk (by simp; omega), hk.at h2 (by simp; omega), h3.keptK hk (by simp; omega), dv, hk.at h4 (by simp; omega), h5.kept hk (by simp; omega)⟩
end
section
variable (A : Adr) (w0 : World) (ab sb ob nO n0 : Nat) (qa : Option Addr) (qn qc : Nat) (O : List (List UInt8 × Option Nat)) (v : Sv) (hp : SPl A w0 ab sb ob n0)
include hp
theorem doEnter (ls : List Gram.Var) (hv : RepC w0 0 [] (.l 112 5 (ls.map varD)) (.slice v.la v.ln v.lc)) : Does (SInv A w0 ab sb ob nO n0 qa qn qc O v) (fun _ => True) n0 [A.b1, A.b2, sb] 104 (.pointer (some ⟨sb, 0, none⟩)) (Nam.sEnter ls) := by
 refine ⟨enters_of Tryz.func104 (by kernel_rfl) rfl, fun s w r hI hn hr => ?_⟩
 have hI2 := hI
 obtain ⟨h1, h2, h3, dv, h4, h5⟩ := hI
 unfold Nam.sEnter at hr
 cases hd : Nam.declare true ls s.1 with
 | none => rw [hd] at hr; cases hr
 | some x =>
  rw [hd] at hr
  cases hr
  obtain ⟨⟨ra, re⟩, r2⟩ := x
  refine (sEnter_any A w0 w s.1 ab sb ob qa v.ua v.ta v.la v.ia qn qc v.un v.uc v.tn v.tc v.ln v.lc v.jn v.ic v.nm v.at_ dv ls h2 h4 (fun e => hp.pab.2.1 (by simp at e ⊢; omega)) (fun e => hp.psb.2.1 (by simp at e ⊢; omega)) h1 hv ra re r2 hd).mono ?_
  rintro e w' ⟨rfl, hc, hk⟩
  exact ⟨rfl, hk.q1 (by simp), fun _ => hI2.on hp hk hc, trivial⟩
theorem doTrans (F : Nat) (hF : ∀ args w, (callFunc F args).run Tryz.prog w = .ok (.enter F args) w) (ts : List Gram.Trans) (hc : ∀ (w : World) (st : St) (dv : Value) (ra re : Int), w.heap[ab]? = some (aObj A qa qn qc ob) → w.heap[sb]? = some (v.obj ab dv) → OutAt w ob nO O → Ck w0 w A st → Nam.trans (O.map Prod.fst) st ts = some (ra, re) → Calls Tryz.prog F #[.pointer (some ⟨sb, 0, none⟩)] w fun e w' => e = .returned (.agg #[.int .i64 ra, .int .i64 re]) ∧ w.grownBy w' none) :
  Does (SInv A w0 ab sb ob nO n0 qa qn qc O v) (fun _ => True) n0 [A.b1, A.b2, sb] F (.pointer (some ⟨sb, 0, none⟩)) (Nam.sTrans (O.map Prod.fst) ts) := by
 refine ⟨hF, fun s w r hI hn hr => ?_⟩
 have hI2 := hI
 obtain ⟨h1, h2, h3, dv, h4, h5⟩ := hI
 unfold Nam.sTrans at hr
 cases hd : Nam.trans (O.map Prod.fst) s.1 ts with
 | none => rw [hd] at hr; cases hr
 | some x =>
  rw [hd] at hr
  cases hr
  obtain ⟨ra, re⟩ := x
  refine (hc w s.1 dv ra re h2 h4 h3 h1 hd).mono ?_
  rintro e w' ⟨rfl, hg⟩
  exact ⟨rfl, (Kp.of0 hg []).q1 (by simp), fun _ => hI2.grown hg, trivial⟩
theorem doMissing (ls : List Gram.Var) (hv : RepC w0 0 [] (.l 112 5 (ls.map varD)) (.slice v.la v.ln v.lc)) : Does (SInv A w0 ab sb ob nO n0 qa qn qc O v) (fun _ => True) n0 [A.b1, A.b2, sb] 108 (.pointer (some ⟨sb, 0, none⟩)) (Nam.sMissing ls) := by
 refine ⟨enters_of Tryz.func108 (by kernel_rfl) rfl, fun s w r hI hn hr => ?_⟩
 have hI2 := hI
 obtain ⟨h1, h2, h3, dv, h4, h5⟩ := hI
 unfold Nam.sMissing at hr
 obtain ⟨b, m, hb, hS⟩ : ∃ b m, dv = .map b ∧ SetO w b m (s.2.getD []) := by
  cases hs2 : s.2 with
  | none => rw [hs2] at h5; exact ⟨none, 0, h5, rfl⟩
  | some D =>
   rw [hs2] at h5
   obtain ⟨k, k1, _, k3, _⟩ := h5
   exact ⟨some k, _, k1, k3⟩
 cases hd : Nam.missing (s.2.getD []) ls with
 | none => rw [hd] at hr; cases hr
 | some x =>
  rw [hd] at hr
  cases hr
  obtain ⟨ra, re⟩ := x
  refine (sMissing_any A w0 w s.1 ab sb ob qa v.ua v.ta v.la v.ia qn qc v.un v.uc v.tn v.tc v.ln v.lc v.jn v.ic v.nm v.at_ dv ls h2 h4 (fun e => hp.pab.2.1 (by simp at e ⊢; omega)) (fun e => hp.psb.2.1 (by simp at e ⊢; omega)) h1 hv b hb m _ hS ra re hd).mono ?_
  rintro e w' ⟨rfl, hg⟩
  exact ⟨rfl, (Kp.of0 hg []).q1 (by simp), fun _ => hI2.grown hg, trivial⟩
theorem doLeave (ls : List Gram.Var) (hv : RepC w0 0 [] (.l 112 5 (ls.map varD)) (.slice v.la v.ln v.lc)) : Does (SInv A w0 ab sb ob nO n0 qa qn qc O v) (fun _ => True) n0 [A.b1, A.b2, sb] 105 (.pointer (some ⟨sb, 0, none⟩)) (Nam.sLeave ls) := by
 refine ⟨enters_of Tryz.func105 (by kernel_rfl) rfl, fun s w r hI hn hr => ?_⟩
 have hI2 := hI
 obtain ⟨h1, h2, h3, dv, h4, h5⟩ := hI
 unfold Nam.sLeave at hr
 have p1 := hp.pab.2.1
 have p2 := hp.psb.2.1
 have p3 := hp.pob.2.1
 have p4 := hp.pa
 have p5 := hp.ne
 have p6 := hp.pab.1
 have p7 := hp.psb.1
 have p8 := hp.pob.1
 have p9 := hp.pab.2.2
 simp only [List.mem_cons, List.not_mem_nil, or_false, not_or] at p1 p2 p3
 cases hd : Nam.forget true ls s.1 with
 | none => rw [hd] at hr; cases hr
 | some r2 =>
  rw [hd] at hr
  simp only at hr
  cases hs2 : s.2 with
  | none =>
   rw [hs2] at hr h5
   cases hr
   have hdv : dv = .map none := h5
   subst hdv
   refine (sLeave_none A w0 w s.1 ab sb ob qa v.ua v.ta v.la v.ia qn qc v.un v.uc v.tn v.tc v.ln v.lc v.jn v.ic v.nm v.at_ ls h2 h4 (by simp; omega) (by simp; omega) h1 hv r2 hd).mono ?_
   rintro e w' ⟨rfl, hc, hk⟩
   refine ⟨rfl, hk.q1 (by simp), fun _ => ?_, trivial⟩
   have := hI2.on hp hk hc
   rw [hs2] at this
   exact this
  | some D =>
   rw [hs2] at hr h5
   simp only at hr
   obtain ⟨k, rfl, k2, k3, k4⟩ := h5
   cases hdd : Nam.dropAll D ls with
   | none => rw [hdd] at hr; cases hr
   | some D2 =>
    rw [hdd] at hr
    cases hr
    have hkl := k3.lt
    refine (sLeave_some A w0 w s.1 ab sb ob qa v.ua v.ta v.la v.ia qn qc v.un v.uc v.tn v.tc v.ln v.lc v.jn v.ic v.nm v.at_ ls k _ D D2 k3 k4 (by simp; omega) (by omega) (by omega) (by omega) hdd h2 h4 (by simp; omega) (by simp; omega) h1 hv r2 hd).mono ?_
    rintro e w' ⟨rfl, hc, hk, hs, hnd⟩
    exact ⟨rfl, hk.q1 (by simp; omega), fun _ => ⟨hc, hk.at h2 (by simp; omega), h3.keptK hk (by simp; omega), _, hk.at h4 (by simp; omega), k, rfl, k2, hs.tight, hnd⟩, trivial⟩
theorem doItems (f : Nat) (hC : CIt f) (its : List Gram.Item) (hv : RepC w0 0 [] (.l 40 12 (itemsD its)) (.slice v.ia v.jn v.ic)) : Does (SInv A w0 ab sb ob nO n0 qa qn qc O v) (fun _ => True) n0 [A.b1, A.b2, sb] 107 (.pointer (some ⟨sb, 0, none⟩)) (Nam.sItems (Nam.items f) its) := by
 refine ⟨enters_of Tryz.func107 (by kernel_rfl) rfl, fun s w r hI hn hr => ?_⟩
 obtain ⟨h1, h2, h3, dv, h4, h5⟩ := hI
 unfold Nam.sItems at hr
 have p1 := hp.pab.2.1
 have p3 := hp.pob.2.1
 have p5 := hp.ne
 simp only [List.mem_cons, List.not_mem_nil, or_false, not_or] at p1 p3
 have n1 : ab ∉ [A.b1, A.b2, sb] := by simp; omega
 have n2 : ob ∉ [A.b1, A.b2, sb] := by simp; omega
 cases hd : Nam.items f its s.1 with
 | none => rw [hd] at hr; cases hr
 | some x =>
  rw [hd] at hr
  cases hr
  obtain ⟨⟨D, ra, re⟩, r2⟩ := x
  refine (sItems_any A w0 w s.1 ab sb ob qa v.ua v.ta v.la v.ia qn qc v.un v.uc v.tn v.tc v.ln v.lc v.jn v.ic v.nm v.at_ dv f hC h2 h4 (by simp; omega) hp.psb.2.1 hp.psb.2.2 hp.ne.1 h1 its hv D ra re r2 hd).mono ?_
  rintro e w' ⟨rfl, hk, o, hh, hz⟩
  refine ⟨rfl, hk.q1 (by simp), fun h0 => ?_, trivial⟩
  obtain ⟨c1, k, rfl, k2, k3, k4⟩ := hz h0
  exact ⟨c1, hk.at h2 n1, h3.keptK hk n2, _, hh, k, rfl, Nat.lt_trans hn k2, k3, k4⟩
end
open Go.RowKit Go.Maps Go.WideMaps
open Nam (St F)
def sFns : List Nat := [104, 105, 106, 104, 107, 108, 109, 105]
theorem bs2 (w : World) (o p : Obj) : w.grownBy ((w.alloc o).alloc p) none := galloc (ga w o none) p
theorem check_any (A : Adr) (w0 w : World) (st : St) (ab sb ob nO : Nat) (qa : Option Addr) (qn qc : Nat) (O : List (List UInt8 × Option Nat)) (v : Sv) (f : Nat) (hC : CIt f) (us ut : List Gram.Trans) (ls : List Gram.Var) (its : List Gram.Item) (sn : List UInt8) (sa : Int) (hp : SPl A w0 ab sb ob (w.heap.size + 1 + 1))
  (hu : RepC w0 0 [] (.l 139 12 (us.map transD)) (.slice v.ua v.un v.uc)) (ht : RepC w0 0 [] (.l 139 12 (ut.map transD)) (.slice v.ta v.tn v.tc)) (hl : RepC w0 0 [] (.l 112 5 (ls.map varD)) (.slice v.la v.ln v.lc)) (hi : RepC w0 0 [] (.l 40 12 (itemsD its)) (.slice v.ia v.jn v.ic))
  (h : Ck w0 w A st) (hab : w.heap[ab]? = some (aObj A qa qn qc ob)) (hO : OutAt w ob nO O) (hsb : w.heap[sb]? = some (v.obj ab (.map none))) (r : F × Nam.SS) (hr : Nam.state (Nam.items f) (O.map Prod.fst) (.mk sn us ut ls its sa) (st, none) = some r) :
  Calls Tryz.prog 101 #[.pointer (some ⟨sb, 0, none⟩)] w fun e w' => e = .returned (fv r.1) ∧ Kp [A.b1, A.b2, sb] w w' ∧ (r.1.2 = 0 → SInv A w0 ab sb ob nO (w.heap.size + 1 + 1) qa qn qc O v r.2 w') := by
 have hmf := makeFunc_run
 obtain ⟨W2, hW2⟩ : ∃ W2, W2 = (w.alloc fo).alloc (.cells (sFns.map fun f => Value.func (.func f) #[.pointer (some ⟨sb, 0, none⟩)] #[]).toArray 82) := ⟨_, rfl⟩
 have hg2 : w.grownBy W2 none := by rw [hW2]; exact bs2 w _ _
 have hs2 : W2.heap.size = w.heap.size + 1 + 1 := by rw [hW2]; simp
 have hfb : W2.heap[w.heap.size]? = some fo := by rw [hW2]; exact heap_alloc2_old w fo _
 have hfs : W2.heap[w.heap.size + 1]? = some (.cells (sFns.map fun f => Value.func (.func f) #[.pointer (some ⟨sb, 0, none⟩)] #[]).toArray 82 (0, 0)) := by rw [hW2]; exact heap_alloc2_new w fo _
 have hI0 : SInv A w0 ab sb ob nO W2.heap.size qa qn qc O v (st, none) W2 := by
  have hk : Kp [] w W2 := Kp.of0 hg2 []
  exact ⟨h.kept hg2, hk.at hab (by simp), hO.kept hg2, _, hk.at hsb (by simp), rfl⟩
 have hp2 : SPl A w0 ab sb ob W2.heap.size := by rw [hs2]; exact hp
 have hlt := h.lt
 have hlb := (gl hsb)
 have hla := (gl hab)
 have hlo := hO.lt
 have hord := inOrder_any (SInv A w0 ab sb ob nO W2.heap.size qa qn qc O v) (fun _ => True) [A.b1, A.b2, sb] (.pointer (some ⟨sb, 0, none⟩)) sFns
  [Nam.sEnter ls, Nam.sLeave ls, Nam.sTrans (O.map Prod.fst) us, Nam.sEnter ls, Nam.sItems (Nam.items f) its, Nam.sMissing ls, Nam.sTrans (O.map Prod.fst) ut, Nam.sLeave ls] (w.heap.size + 1) (st, none) W2 r (by decide) rfl hfs (by simp; omega) (by simp; omega)
  (by
   intro i g k hg hk
   have e1 := doEnter A w0 ab sb ob nO W2.heap.size qa qn qc O v hp2 ls hl
   have e2 := doLeave A w0 ab sb ob nO W2.heap.size qa qn qc O v hp2 ls hl
   have e3 := doTrans A w0 ab sb ob nO W2.heap.size qa qn qc O v hp2 106 (enters_of Tryz.func106 (by kernel_rfl) rfl) us (fun w st dv ra re h2 h4 h3 h1 hd => sUnless_any A w0 w st ab sb ob nO qa v.ua v.ta v.la v.ia qn qc v.un v.uc v.tn v.tc v.ln v.lc v.jn v.ic v.nm v.at_ dv O us h2 h4 h3 h1 hu ra re hd)
   have e4 := doItems A w0 ab sb ob nO W2.heap.size qa qn qc O v hp2 f hC its hi
   have e5 := doMissing A w0 ab sb ob nO W2.heap.size qa qn qc O v hp2 ls hl
   have e6 := doTrans A w0 ab sb ob nO W2.heap.size qa qn qc O v hp2 109 (enters_of Tryz.func109 (by kernel_rfl) rfl) ut (fun w st dv ra re h2 h4 h3 h1 hd => sUntil_any A w0 w st ab sb ob nO qa v.ua v.ta v.la v.ia qn qc v.un v.uc v.tn v.tc v.ln v.lc v.jn v.ic v.nm v.at_ dv O ut h2 h4 h3 h1 ht ra re hd)
   rcases i with _ | _ | _ | _ | _ | _ | _ | _ | i
   ·cases hg; cases hk; exact e1
   ·cases hg; cases hk; exact e2
   ·cases hg; cases hk; exact e3
   ·cases hg; cases hk; exact e1
   ·cases hg; cases hk; exact e4
   ·cases hg; cases hk; exact e5
   ·cases hg; cases hk; exact e6
   ·cases hg; cases hk; exact e2
   ·simp at hk)
  (fun s a b n hs hgr hn => hs.st hp2 (by have := h.base.size; omega) hgr hn) (fun _ _ _ _ _ _ => trivial) (fun _ _ _ => trivial) hI0 hr
 rw [show sFns.length = 8 from rfl] at hord
 have HF := ld hW2
 have HG := ld hg2
 have HFB := ld hfb
 have hb0 := h.base.size
 obtain ⟨⟨ra, re⟩, r2⟩ := r
 simp only [fv] at hord ⊢
 have HS := ld hs2
 have HP := ld hp2
 rw [hW2] at hord
 simp only [sFns, List.map_cons, List.map_nil] at hord
 clear hW2 hg2 hs2 hfb hfs hI0 hr hC hu ht hl hi hab hO hsb
 go_enter Tryz.func101, Tryz.ntmps101
 go_wp2_with (go_at_call 34; refine hord.mono ?_; rintro e w3 ⟨rfl, hk3, hi3, _⟩; refine Hid.out ?_)
 have HK : Kp [A.b1, A.b2, sb] W2 w3 := by rw [HF.out]; exact hk3
 have hce3 := HK.at HFB.out (by simp; omega)
 have HI := ld hi3
 clear hi3 hk3
 refine ld ?_
 go_wp2_with (with_reducible refine hold_st 2 ?_)
 refine ld ?_
 refine sg hce3 ?_
 intro w7 hh7 hg7
 go_wp2
 (try simp only [Exit.inBlock, Exit.then])
 refine br hh7 Tryz.underlying63 ?_
 refine ⟨rfl, ((Kp.of0 HG.out _).trans HK).trans' hg7 (Nat.le_refl _), fun h0 => ?_⟩
 have h9 := (HI.out h0)
 rw [World.size_alloc, World.size_alloc] at h9
 have p1 := hp.pab.2.2
 exact h9.other hg7 (by omega) hb0 ⟨by have := h.mm.lt; simp; omega, by omega, by omega, by omega⟩
open Go.RowKit Go.Maps Go.WideMaps
open Nam (St F)
theorem wpL_mapUpdate {P : Program} {ops : Array Oper} {Q : Exit → Act → World → Prop} {md : Region.Mode} {S : World → Prop} {Z : List Nat} {i b : Nat} {oi : Oper} {f : Nat} {l : Array Bool} {a : Act} {w w' : World} {t : TypeId} {m x v : Operand} {key val : Value} (hr : Region.ready md ops l = [i]) (hi : ops[i]? = some oi) (hw : Region.wanted oi (yielded ops a.tmps) = true) (hdst : oi.dst = none)
  (hop : oi.op = Op.mapUpdate t m x v) (hm : a.eval m = .map (some b)) (hx : a.eval x = key) (hv : a.eval v = val) (hrun : (Instr.mapUpdate t (.map (some b)) key val).run P w = .ok () w') (hS : S w') (h : wpL P md ops Q S Z f (l.setIfInBounds i true) a w') : wpL P md ops Q S Z (f + 1) l a w := by
 refine wpL_one hr (wpOp_now hi hw (fun K' hK => ?_))
 unfold Oper.wp
 simp [execOp, hop, hm, hx, hv, hrun, Result.andThen]
 rw [Oper.upon_skip, hdst]
 exact hK _ _ ⟨fun _ => hS, h⟩
theorem stateAt {w : World} {B : Nat} {E : List Nat} {L cap t : Nat} {a : Option Addr} {ss : List Gram.State} {nm : List UInt8} {us ut : List Gram.Trans} {ls : List Gram.Var} {its : List Gram.Item} {at_ : Int} (h : RepC w B E (.l 119 6 (statesD ss)) (.slice a L cap)) (hx : ss[t]? = some (.mk nm us ut ls its at_)) :
  ∃ g ua un uc ta tn tc la ln lc ia jn ic, a = some ⟨g, 0, none⟩ ∧ (w.cell? ⟨g, t * 6, none⟩ = some (.string ⟨nm.toArray⟩) ∧ w.cell? ⟨g, t * 6 + 1, none⟩ = some (.slice ua un uc) ∧ w.cell? ⟨g, t * 6 + 2, none⟩ = some (.slice ta tn tc) ∧ w.cell? ⟨g, t * 6 + 3, none⟩ = some (.slice la ln lc) ∧ w.cell? ⟨g, t * 6 + 4, none⟩ = some (.slice ia jn ic) ∧ w.cell? ⟨g, t * 6 + 5, none⟩ = some (.int .i64 at_)) ∧
   RepC w B E (.l 139 12 (us.map transD)) (.slice ua un uc) ∧ RepC w B E (.l 139 12 (ut.map transD)) (.slice ta tn tc) ∧ RepC w B E (.l 112 5 (ls.map varD)) (.slice la ln lc) ∧ RepC w B E (.l 40 12 (itemsD its)) (.slice ia jn ic) := by
 rw [statesD_map] at h
 obtain ⟨g, vs, ha, hr, hq⟩ := nRowAt h (nMap stateD (fun x => by cases x; rfl) ss) t (nAt stateD hx)
 simp only [stateD] at hr
 obtain ⟨r1, rfl, h_1⟩ := RepRow.cInv hr
 obtain ⟨ua, un, uc, r2, rfl, k1, h_2⟩ := h_1.lInv
 obtain ⟨ta, tn, tc, r3, rfl, k2, h_3⟩ := h_2.lInv
 obtain ⟨la, ln, lc, r4, rfl, k3, h_4⟩ := h_3.lInv
 obtain ⟨ia, jn, ic, r5, rfl, k4, h_5⟩ := h_4.lInv
 obtain ⟨r6, rfl, h_6⟩ := h_5.cInv
 exact ⟨g, ua, un, uc, ta, tn, tc, la, ln, lc, ia, jn, ic, ha, ⟨by have := hq 0 _ rfl; rwa [Nat.add_zero] at this, hq 1 _ rfl, hq 2 _ rfl, hq 3 _ rfl, hq 4 _ rfl, hq 5 _ rfl⟩, k1, k2, k3, k4⟩
theorem statesLen {w : World} {B : Nat} {E : List Nat} {L cap : Nat} {a : Option Addr} {ss : List Gram.State} (h : RepC w B E (.l 119 6 (statesD ss)) (.slice a L cap)) : L = ss.length ∧ L ≤ maxLen := by
 have := nLen h
 rwa [statesD_map, List.length_map] at this
def nils (ss : List Gram.State) : List (List UInt8 × Option Nat) := ss.map fun s => (Nam.stName s, none)
theorem nils_fst (ss : List Gram.State) : (nils ss).map Prod.fst = ss.map Nam.stName := by simp [nils, Function.comp_def]
theorem aNames_any (A : Adr) (w0 w : World) (ab ob : Nat) (qa : Option Addr) (qn qc : Nat) (ss : List Gram.State) (hB : w0.grownBy w none) (hv : RepC w0 0 [] (.l 119 6 (statesD ss)) (.slice qa qn qc)) (hab : w.heap[ab]? = some (.cells #[.pointer (some ⟨A.c, 0, none⟩), .slice qa qn qc, .map (some ob)] 137 (0, 0))) (hne : ab ≠ ob) (hob0 : w0.heap.size ≤ ob) (n : Nat) (hO : OutAt w ob n []) (hn : n < 10) (r : F) (hr : Nam.stNames ss [] = some r) :
  Calls Tryz.prog 94 #[.pointer (some ⟨ab, 0, none⟩)] w fun e w' => e = .returned (fv r) ∧ Kp [ob] w w' ∧ ∃ m O, m < 2000000 ∧ OutAt w' ob m O ∧ (r.2 = 0 → O = nils ss) := by
 obtain ⟨hL, hLm⟩ := statesLen hv
 unfold maxLen at hLm
 have HL := ld hL
 have HR := ld hr
 have hlo := hO.lt
 have hla := (gl hab)
 have c1 := cell_of_row w _ 1 _ _ _ hab
 have HO := ld hO
 have HAB := ld hab
 clear hL hr hO hab
 go_enter Tryz.func94, Tryz.ntmps94
 go_wp2
 go_loopw [10] (fun iv wr => ∃ t : Nat, t ≤ qn ∧ iv = .int .i64 (t : Int) ∧ Hid (Kp [ob] w wr ∧ wr.heap[w.heap.size]? = some fo ∧ OutAt wr ob (n + t) (nils (ss.take t)) ∧ t < 1000001 ∧ Nam.stNames (ss.drop t) ((ss.take t).map Nam.stName) = some r)) (fun i _ => qn - (intOf i).toNat)
 case atStart => exact ⟨0, Nat.zero_le _, rfl, ld ⟨Kp.of0 (ga _ _ _) _, heap_alloc_new w fo, HO.out.kept (ga _ _ _), by omega, HR.out⟩⟩
 case round =>
  obtain ⟨t, ht, rfl, HG⟩ := hrel
  obtain ⟨hkp, hcell, hOr, htm, hm⟩ := HG.out
  clear HG HR
  have hbase : w0.grownBy wr none := Kp.grown hB hkp (by simpa using hob0)
  have habr := hkp.at HAB.out (by simpa using hne)
  have hsz := (gl hcell)
  by_cases hlt : t < qn
  ·obtain ⟨x, hx⟩ : ∃ x, ss[t]? = some x := ⟨_, List.getElem?_eq_getElem (by rw [← HL.out]; exact hlt)⟩
   obtain ⟨nm, us, ut, ls, its, at_⟩ := x
   rw [drop_at hx] at hm
   unfold Nam.stNames at hm
   obtain ⟨g, ua, un, uc, ta, tn, tc, la, ln, lc, ia, jn, ic, rfl, ⟨u0, u1, u2, u3, u4, u5⟩, _⟩ := stateAt (RepC.kept hbase (fun k e => by cases e) hv) hx
   by_cases hs : (Nam.short nm && decide (((ss.take t).map Nam.stName).length < 1000000)) = true
   ·rw [if_pos hs] at hm
    rw [Bool.and_eq_true, decide_eq_true_eq, List.length_map, List.length_take] at hs
    have htl : t < 1000000 := by have := HL.out; omega
    have hst := fun V (hV : wr.grownBy V none) => state_any A ab ob (n + t) (some ⟨g, 0, none⟩) qn qc (nils (ss.take t)) nm hs.1 V ((hV.block _ (gl habr) (by simp)).trans habr) (hOr.kept hV)
    rw [nils_fst] at hst
    unfold strV at hst
    cases hq : ((ss.take t).map Nam.stName).contains nm with
    | true =>
     rw [hq] at hst hm
     rw [if_pos rfl] at hm
     have HM := ld (Option.some.inj hm)
     have HKP := ld hkp
     have HOr := ld hOr
     have HCe := ld hcell
     clear hm hx habr hkp hOr hcell
     go_wp2_with (go_at_call 100; refine (hst _ (ga wr _ none)).mono ?_; rintro e w1 ⟨rfl, hw1⟩; rw [hw1]; have d5 := cell_of_row _ _ 5 _ _ _ (heap_alloc_new wr (.cells #[.string ⟨nm.toArray⟩, .slice ua un uc, .slice ta tn tc, .slice la ln lc, .slice ia jn ic, .int .i64 at_] 119 (0, 0))); have hc1 := ((ga wr (.cells #[.string ⟨nm.toArray⟩, .slice ua un uc, .slice ta tn tc, .slice la ln lc, .slice ia jn ic, .int .i64 at_] 119 (0, 0)) none).block _ hsz (by simp)).trans HCe.out; refine Hid.out ?_)
     refine ld ?_
     go_wp2_with (with_reducible refine hold_st 2 ?_)
     refine ld ?_
     refine sg hc1 ?_
     intro w7 hh7 hg7
     go_wp2
     (try simp only [Exit.inBlock, Exit.then])
     refine br hh7 Tryz.underlying63 ?_
     rw [← HM.out]
     refine ⟨rfl, (HKP.out.trans (Kp.of0 (ga wr _ none) _)).trans' hg7 (Nat.le_refl _), n + t, _, by omega, (HOr.out.kept (ga wr _ none)).keptK (Kp.of hg7 [w.heap.size] (fun i e _ => by cases e; simp)) (by simp; omega), fun e => absurd e (by simp)⟩
    | false =>
     rw [hq] at hst hm
     rw [if_neg (by decide)] at hm
     obtain ⟨W1, hW1⟩ : ∃ W1, W1 = wr.alloc (.cells #[.string ⟨nm.toArray⟩, .slice ua un uc, .slice ta tn tc, .slice la ln lc, .slice ia jn ic, .int .i64 at_] 119 (0, 0)) := ⟨_, rfl⟩
     have hg1 : wr.grownBy W1 none := by rw [hW1]; exact ga wr _ none
     have hS0 : (fun W' => W'.heap[ab]? = some (.cells #[.pointer (some ⟨A.c, 0, none⟩), .slice (some ⟨g, 0, none⟩) qn qc, .map (some ob)] 137 (0, 0)) ∧ W'.heap[wr.heap.size]? = some (.cells #[.string ⟨nm.toArray⟩, .slice ua un uc, .slice ta tn tc, .slice la ln lc, .slice ia jn ic, .int .i64 at_] 119 (0, 0))) W1.drew := ⟨(hg1.block _ (gl habr) (by simp)).trans habr, by rw [hW1]; exact heap_alloc_new wr _⟩
     obtain ⟨D', o1, o2, o3⟩ := hOr.kept (gdrew hg1)
     obtain ⟨w4, hrun, ho4, htn⟩ := o1.store kLaw Tryz.underlying135 (by unfold maxLen; omega) (key_of nm hs.1) (mapElem_code none)
     have hO4 := OutAt.put o1 o2 o3 (by rw [nils_fst]; exact hq) ho4
     have hg4 := htn.grown
     have hk4 : Kp [ob] W1.drew w4 := Kp.of hg4 _ (fun k e _ => by cases e; simp)
     have hlw : wr.heap.size < W1.heap.size := by rw [hW1]; simp
     have hob2 := hOr.lt
     have hS4 : (fun W' => W'.heap[ab]? = some (.cells #[.pointer (some ⟨A.c, 0, none⟩), .slice (some ⟨g, 0, none⟩) qn qc, .map (some ob)] 137 (0, 0)) ∧ W'.heap[wr.heap.size]? = some (.cells #[.string ⟨nm.toArray⟩, .slice ua un uc, .slice ta tn tc, .slice la ln lc, .slice ia jn ic, .int .i64 at_] 119 (0, 0))) w4 := ⟨hk4.at hS0.1 (by simpa using hne), hk4.at hS0.2 (by simp; omega)⟩
     unfold strV at hrun
     have hK9 : Kp [ob] wr w4 := (Kp.of0 (gdrew hg1) _).trans hk4
     have hnil : nils (ss.take (t + 1)) = nils (ss.take t) ++ [(nm, none)] := by rw [List.take_add_one, hx]; simp [nils, Nam.stName]
     have hnm2 : (ss.take (t + 1)).map Nam.stName = (ss.take t).map Nam.stName ++ [nm] := by rw [List.take_add_one, hx]; simp [Nam.stName]
     rw [← hnm2] at hm
     rw [← hnil] at hO4
     have HF := ld (And.intro (hkp.trans hK9) (And.intro (hK9.at hcell (by simp; omega)) (And.intro hO4 hm)))
     have HW1 := ld hW1
     clear hW1 hkp hcell hm hOr o1 o2 o3 ho4 htn hO4 hg4 hk4 hK9 hx habr hnil hnm2 D'
     go_wp2_with (go_at_call 100; refine (hst _ (ga wr _ none)).mono ?_; rintro e w1 ⟨rfl, hw1⟩; rw [hw1])
     rw [← HW1.out]
     refine wp_region_L2 (S := fun W' => W'.heap[ab]? = some (.cells #[.pointer (some ⟨A.c, 0, none⟩), .slice (some ⟨g, 0, none⟩) qn qc, .map (some ob)] 137 (0, 0)) ∧ W'.heap[wr.heap.size]? = some (.cells #[.string ⟨nm.toArray⟩, .slice ua un uc, .slice ta tn tc, .slice la ln lc, .slice ia jn ic, .int .i64 at_] 119 (0, 0))) (by kernel_rfl) ?_
     refine t1 0 21 (.pointer (some ⟨ab, 0, none⟩)) hS0 ?_
     (try simp only [Act.put, sA, sB, sC])
     refine t1 1 22 (.pointer (some ⟨ab, 0, none⟩)) hS0 ?_
     (try simp only [Act.put, sA, sB, sC])
     refine t1 2 23 (.pointer (some ⟨ab, 2, none⟩)) hS0 ?_
     (try simp only [Act.put, sA, sB, sC])
     refine t2 3 24 (.map (some ob)) (fun w' hw' => ?_) hS0 ?_
     ·have hc0 := cell_of_row w' _ 2 _ _ _ (hw'.1); clear hw'; go_simp
     (try simp only [Act.put, sA, sB, sC])
     refine t1 4 25 (.pointer (some ⟨wr.heap.size, 0, none⟩)) hS0 ?_
     (try simp only [Act.put, sA, sB, sC])
     refine t2 5 26 (.string ⟨nm.toArray⟩) (fun w' hw' => ?_) hS0 ?_
     ·have hc0 := cell_of_row w' _ 0 _ _ _ (hw'.2); clear hw'; go_simp
     (try simp only [Act.put, sA, sB, sC])
     refine wpL_mapUpdate (i := 6) (by kernel_rfl) rfl (by kernel_rfl) (by kernel_rfl) rfl rfl rfl rfl hrun hS4 ?_
     (try simp only [Act.put, sA, sB, sC])
     refine wpL_done (by kernel_rfl) ?_ _
     go_wp2
     exact ⟨⟨t + 1, by omega, by go_num, ld ⟨HF.out.1, HF.out.2.1, by rw [← Nat.add_assoc]; exact HF.out.2.2.1, by omega, HF.out.2.2.2⟩⟩, by simp [intOf]; omega⟩
   ·rw [if_neg hs] at hm; cases hm
  ·have e : t = qn := by omega
   subst e
   rw [List.drop_eq_nil_of_le (by rw [← HL.out]; exact Nat.le_refl _)] at hm
   rw [List.take_of_length_le (by rw [← HL.out]; exact Nat.le_refl _)] at hOr
   have HM := ld (Option.some.inj hm)
   clear hm
   go_wp2_with (with_reducible refine hold_st 2 ?_)
   refine ld ?_
   refine sg hcell ?_
   intro w7 hh7 hg7
   go_wp2
   (try simp only [Exit.inBlock, Exit.then])
   refine br hh7 Tryz.underlying63 ?_
   rw [← HM.out]
   exact ⟨rfl, hkp.trans' hg7 (Nat.le_refl _), _, _, by omega, hOr.keptK (Kp.of hg7 [w.heap.size] (fun i e _ => by cases e; simp)) (by simp; omega), fun _ => rfl⟩
open Go.RowKit Go.Maps Go.WideMaps
open Nam (St F)
theorem ord_cons {σ : Type} {k : σ → Option (F × σ)} {l : List (σ → Option (F × σ))} {s : σ} {r : F × σ} (h : Nam.inOrder (k :: l) s = some r) (h0 : r.1.2 = 0) : ∃ x, k s = some x ∧ x.1.2 = 0 ∧ Nam.inOrder l x.2 = some r := by
 unfold Nam.inOrder at h
 cases hk : k s with
 | none => rw [hk] at h; cases h
 | some x =>
  rw [hk] at h
  simp only at h
  by_cases hx : x.1.2 = 0
  ·rw [if_pos hx] at h; exact ⟨x, rfl, hx, h⟩
  ·rw [if_neg hx] at h; cases h; exact absurd h0 hx
theorem state_some {items : List Gram.Item → St → Option ((List (List UInt8) × F) × St)} {O : List (List UInt8)} {s : Gram.State} {x : Nam.SS} {r : F × Nam.SS} (h : Nam.state items O s x = some r) (h0 : r.1.2 = 0) : ∃ D, r.2.2 = some D := by
 cases s with
 | mk n us ut ls its a =>
 unfold Nam.state at h
 obtain ⟨x1, _, _, h⟩ := ord_cons h h0
 obtain ⟨x2, _, _, h⟩ := ord_cons h h0
 obtain ⟨x3, _, _, h⟩ := ord_cons h h0
 obtain ⟨x4, _, _, h⟩ := ord_cons h h0
 obtain ⟨x5, e5, _, h⟩ := ord_cons h h0
 obtain ⟨x6, e6, _, h⟩ := ord_cons h h0
 obtain ⟨x7, e7, _, h⟩ := ord_cons h h0
 obtain ⟨x8, e8, _, h⟩ := ord_cons h h0
 unfold Nam.inOrder at h
 cases h
 have q5 : ∃ D, x5.2.2 = some D := by
  unfold Nam.sItems at e5
  split at e5
  ·cases e5
  ·cases e5; exact ⟨_, rfl⟩
 have q6 : x6.2.2 = x5.2.2 := by
  unfold Nam.sMissing at e6
  split at e6
  ·cases e6
  ·cases e6; rfl
 have q7 : x7.2.2 = x6.2.2 := by
  unfold Nam.sTrans at e7
  split at e7
  ·cases e7
  ·cases e7; rfl
 obtain ⟨D, q5⟩ := q5
 rw [q6, q5] at q7
 unfold Nam.sLeave at e8
 split at e8
 ·cases e8
 ·rw [q7] at e8
  simp only at e8
  split at e8
  ·cases e8
  ·cases e8; exact ⟨_, rfl⟩
def Outs (W : World) (lo : Nat) (names : List (List UInt8)) (O : List (List UInt8 × Option Nat)) (acc : List (List (List UInt8))) (ks : List Nat) : Prop :=
 ks.length = acc.length ∧ ∀ (i : Nat) (s : List UInt8) (k : Nat) (D : List (List UInt8)), names[i]? = some s → ks[i]? = some k → acc[i]? = some D → (s, some k) ∈ O ∧ SetAt W k D.length D ∧ D.Nodup ∧ lo < k
theorem Outs.kept {W W' : World} {lo : Nat} {names : List (List UInt8)} {O : List (List UInt8 × Option Nat)} {acc : List (List (List UInt8))} {ks : List Nat} {X : List Nat} (h : Outs W lo names O acc ks) (hk : Kp X W W') (hX : ∀ k ∈ X, k ≤ lo ∨ W.heap.size ≤ k) : Outs W' lo names O acc ks :=
 ⟨h.1, fun i s k D h1 h2 h3 => by
  obtain ⟨a, b, c, d⟩ := h.2 i s k D h1 h2 h3
  exact ⟨a, b.keptK hk (fun e => by have := hX k e; have := b.lt; omega), c, d⟩⟩
theorem Outs.snoc {W : World} {lo : Nat} {names : List (List UInt8)} {O : List (List UInt8 × Option Nat)} {acc : List (List (List UInt8))} {ks : List Nat} {s : List UInt8} {k : Nat} {D : List (List UInt8)} (h : Outs W lo names O acc ks) (hn : names.Nodup) (hs : names[acc.length]? = some s) (hO : O.map Prod.fst = names) (hD : SetAt W k D.length D) (hnd : D.Nodup) (hl : lo < k) :
  Outs W lo names (O.map fun x => if x.1 = s then (s, some k) else x) (acc ++ [D]) (ks ++ [k]) := by
 refine ⟨by simp [h.1], fun i s' k' D' h1 h2 h3 => ?_⟩
 have hmem : s ∈ O.map Prod.fst := by rw [hO]; exact List.mem_of_getElem? hs
 by_cases e : i = acc.length
 ·subst e
  rw [hs] at h1
  cases h1
  rw [← h.1] at h2
  simp at h2 h3
  subst h2 h3
  refine ⟨?_, hD, hnd, hl⟩
  obtain ⟨x, hx, hx2⟩ := List.mem_map.1 hmem
  exact List.mem_map.2 ⟨x, hx, by rw [if_pos hx2]⟩
 ·have hi : i < acc.length := by
   have := (List.getElem?_eq_some_iff.1 h3).1
   simp at this
   omega
  rw [List.getElem?_append_left (by rw [h.1]; exact hi)] at h2
  rw [List.getElem?_append_left hi] at h3
  obtain ⟨a, b, c, d⟩ := h.2 i s' k' D' h1 h2 h3
  refine ⟨?_, b, c, d⟩
  have hne : s' ≠ s := fun e2 => by
   subst e2
   have := (List.getElem?_inj (List.getElem?_eq_some_iff.1 h1).1 hn).1 (h1.trans hs.symm)
   exact e this
  exact List.mem_map.2 ⟨_, a, by rw [if_neg hne]⟩
theorem upd_fst (O : List (List UInt8 × Option Nat)) (s : List UInt8) (o : Option Nat) : (O.map fun x => if x.1 = s then (s, o) else x).map Prod.fst = O.map Prod.fst := by
 rw [List.map_map]
 apply List.map_congr_left
 intro x _
 by_cases e : x.1 = s <;> simp [e]
theorem aEach_any (f : Nat) (hC : CIt f) (A : Adr) (w0 w : World) (st : St) (ab ob : Nat) (qa : Option Addr) (qn qc : Nat) (ss : List Gram.State) (names : List (List UInt8)) (hnames : names = ss.map Nam.stName) (hnd : names.Nodup) (h : Ck w0 w A st) (hv : RepC w0 0 [] (.l 119 6 (statesD ss)) (.slice qa qn qc)) (hab : w.heap[ab]? = some (.cells #[.pointer (some ⟨A.c, 0, none⟩), .slice qa qn qc, .map (some ob)] 137 (0, 0))) (haA : ab ∉ [A.c, A.m, A.b0, A.b1, A.b2]) (ha0 : w0.heap.size ≤ ab) (hne : ab ≠ ob) (hob0 : w0.heap.size ≤ ob) (hoA : ob ∉ [A.c, A.m, A.b0, A.b1, A.b2]) (m : Nat) (O : List (List UInt8 × Option Nat)) (hO : OutAt w ob m O) (hOn : O.map Prod.fst = names) (hm : m < 2000000) (hss : ss.length < 1000001) (hshort : ∀ s ∈ ss, Nam.short (Nam.stName s) = true)
  (outs : List (List (List UInt8))) (ra re : Int) (st' : St) (hr : Nam.each (Nam.items f) names ss [] st = some ((outs, (ra, re)), st')) :
  Calls Tryz.prog 95 #[.pointer (some ⟨ab, 0, none⟩)] w fun e w' => e = .returned (.agg #[.int .i64 ra, .int .i64 re]) ∧ Kp [A.b1, A.b2, ob] w w' ∧ ∃ m' O', m' < 4000000 ∧ OutAt w' ob m' O' ∧ O'.map Prod.fst = names ∧ (re = 0 → Ck w0 w' A st' ∧ outs.length = ss.length ∧ ∃ ks, Outs w' w.heap.size names O' outs ks) := by
 obtain ⟨hL, hLm⟩ := statesLen hv
 unfold maxLen at hLm
 have HL := ld hL
 have HR := ld hr
 have hlo := hO.lt
 have hla := (gl hab)
 have hlt0 := h.lt
 have hlm0 := h.mm.lt
 have hb0 := h.base.size
 have c1 := cell_of_row w _ 1 _ _ _ hab
 have HO := ld (And.intro hO hOn)
 have HAB := ld hab
 have HH := ld h
 have HN := ld (And.intro hnames hnd)
 clear hL hr hO hab h hnames hnd hOn
 simp only [List.mem_cons, List.not_mem_nil, or_false, not_or] at haA hoA
 go_enter Tryz.func95, Tryz.ntmps95
 go_wp2
 go_loopw [12] (fun iv wr => ∃ (t : Nat) (st1 : St) (acc : List (List (List UInt8))) (ks : List Nat) (O1 : List (List UInt8 × Option Nat)), t ≤ qn ∧ iv = .int .i64 (t : Int) ∧ Hid (Ck w0 wr A st1 ∧ Kp [A.b1, A.b2, ob] w wr ∧ wr.heap[w.heap.size]? = some fo ∧ OutAt wr ob (m + t) O1 ∧ O1.map Prod.fst = names ∧ acc.length = t ∧ Outs wr w.heap.size names O1 acc ks ∧ Nam.each (Nam.items f) names (ss.drop t) acc st1 = some ((outs, (ra, re)), st'))) (fun i _ => qn - (intOf i).toNat)
 case atStart =>
  have hga := ga w fo none
  exact ⟨0, st, [], [], O, Nat.zero_le _, rfl, ld ⟨HH.out.kept hga, Kp.of0 hga _, heap_alloc_new w fo, HO.out.1.kept hga, HO.out.2, rfl, ⟨rfl, fun i s k D _ h2 _ => by simp at h2⟩, HR.out⟩⟩
 case round =>
  obtain ⟨t, st1, acc, ks, O1, ht, rfl, HG⟩ := hrel
  obtain ⟨hck, hkp, hcell, hO1, hO1n, hacc, houts, hmm⟩ := HG.out
  clear HG HR
  have habr := hkp.at HAB.out (by simp; omega)
  have hsz := (gl hcell)
  have htq : qn < 1000001 := by rw [HL.out]; exact hss
  by_cases hlt : t < qn
  ·obtain ⟨x, hx⟩ : ∃ x, ss[t]? = some x := ⟨_, List.getElem?_eq_getElem (by rw [← HL.out]; exact hlt)⟩
   obtain ⟨nm, us, ut, ls, its, at_⟩ := x
   rw [drop_at hx] at hmm
   unfold Nam.each at hmm
   obtain ⟨g, ua, un, uc, ta, tn, tc, la, ln, lc, ia, jn, ic, rfl, ⟨u0, u1, u2, u3, u4, u5⟩, k1, k2, k3, k4⟩ := stateAt hv hx
   have v0 := hck.base.cell u0 (by simp)
   have v1 := hck.base.cell u1 (by simp)
   have v2 := hck.base.cell u2 (by simp)
   have v3 := hck.base.cell u3 (by simp)
   have v4 := hck.base.cell u4 (by simp)
   have v5 := hck.base.cell u5 (by simp)
   clear u0 u1 u2 u3 u4 u5
   cases hxe : Nam.state (Nam.items f) names (.mk nm us ut ls its at_) (st1, none) with
   | none => rw [hxe] at hmm; cases hmm
   | some xr =>
   rw [hxe] at hmm
   simp only at hmm
   obtain ⟨W1, hW1⟩ : ∃ W1, W1 = (wr.alloc (.cells #[.string ⟨nm.toArray⟩, .slice ua un uc, .slice ta tn tc, .slice la ln lc, .slice ia jn ic, .int .i64 at_] 119 (0, 0))).alloc (.cells #[.pointer (some ⟨ab, 0, none⟩), .string ⟨nm.toArray⟩, .slice ua un uc, .slice ta tn tc, .slice la ln lc, .slice ia jn ic, .int .i64 at_, .map none] 143 (0, 0)) := ⟨_, rfl⟩
   have hg1 : wr.grownBy W1 none := by rw [hW1]; exact bs2 wr _ _
   have hs1 : W1.heap.size = wr.heap.size + 1 + 1 := by rw [hW1]; simp
   have htb : W1.heap[wr.heap.size]? = some (.cells #[.string ⟨nm.toArray⟩, .slice ua un uc, .slice ta tn tc, .slice la ln lc, .slice ia jn ic, .int .i64 at_] 119 (0, 0)) := by rw [hW1]; exact heap_alloc2_old wr _ _
   have hsb : W1.heap[wr.heap.size + 1]? = some (.cells #[.pointer (some ⟨ab, 0, none⟩), .string ⟨nm.toArray⟩, .slice ua un uc, .slice ta tn tc, .slice la ln lc, .slice ia jn ic, .int .i64 at_, .map none] 143 (0, 0)) := by rw [hW1]; exact heap_alloc2_new wr _ _
   have hckl := hck.lt
   have hckm := hck.mm.lt
   have hO1l := hO1.lt
   have habl := (gl habr)
   have hwr0 := hck.base.size
   have hpl : SPl A w0 ab (wr.heap.size + 1) ob (W1.heap.size + 1 + 1) := by
    refine ⟨⟨by omega, by omega, by omega, by omega, by omega⟩, ⟨by omega, by simp; omega, ha0⟩, ⟨by omega, by simp; omega, by omega⟩, ⟨by omega, by simp; omega, hob0⟩, by omega, by omega, hne⟩
   have hk1 : Kp [] wr W1 := Kp.of0 hg1 []
   have hchk := check_any A w0 W1 st1 ab (wr.heap.size + 1) ob (m + t) (some ⟨g, 0, none⟩) qn qc O1 ⟨nm, ua, un, uc, ta, tn, tc, la, ln, lc, ia, jn, ic, at_⟩ f hC us ut ls its nm at_ hpl k1 k2 k3 k4 (hck.kept hg1) (hk1.at habr (by simp)) (hO1.kept hg1) hsb xr (by rw [hO1n]; exact hxe)
   have hnmt : names[t]? = some nm := by rw [HN.out.1, List.getElem?_map, hx]; rfl
   have hsome := fun h0 => state_some hxe h0
   obtain ⟨⟨xa, xe⟩, st2, dd⟩ := xr
   simp only [fv] at hchk
   have hfd := found_any (xa, xe)
   simp only [fv] at hfd
   have HC1 := ld hcell
   have HKP := ld hkp
   have HOO := ld (And.intro hO1 (And.intro hO1n (And.intro hacc houts)))
   have HAR := ld habr
   have HTB := ld htb
   have HG1 := ld hg1
   have HS1 := ld hs1
   rw [hW1] at hchk
   clear hcell hkp hO1 hO1n hacc houts habr htb hsb hg1 hck hxe k1 k2 k3 k4 hk1 hs1
   have HW1 := ld hW1
   clear hW1
   by_cases h0 : xe = 0
   ·have hb : (xe != 0) = false := by simp [h0]
    rw [hb] at hfd
    rw [if_pos h0] at hmm
    obtain ⟨Dd, hDd⟩ := hsome h0
    simp only at hDd
    subst hDd
    have H0 := ld h0
    have HM := ld hmm
    clear hmm h0 hb hsome
    go_wp2_with (first | (go_at_call 101; refine hchk.mono ?_; rintro e w3 ⟨rfl, hk3, hi3⟩; have hk3' : Kp [A.b1, A.b2, wr.heap.size + 1] W1 w3 := (by rw [HW1.out]; exact hk3); obtain ⟨j1, j2, j3, dv, j4, k, rfl, j6, j7, j8⟩ := hi3 H0.out; clear hk3 hi3; have HJ := ld (And.intro hk3' (And.intro j1 (And.intro j2 (And.intro j3 (And.intro j4 (And.intro j6 (And.intro j7 j8))))))); clear hk3' j1 j2 j3 j4 j6 j7 j8) | (go_at_call 29; refine (hfd _).mono ?_; rintro e w4 ⟨rfl, hg4⟩; refine Hid.out ?_))
    obtain ⟨hk3, j1, j2, j3, j4, j6, j7, j8⟩ := HJ.out
    simp only [World.size_alloc] at j6
    have hg34 : w3.grownBy w4 none := (ga w3 _ none).trans hg4
    have hgd4 : w3.grownBy w4.drew none := gdrew hg34
    have hkr : Kp [A.b1, A.b2] wr w3 := ⟨hk3.os.trans HG1.out.os, hk3.tape.trans HG1.out.tape, hk3.output.trans HG1.out.output, Nat.le_trans HG1.out.size hk3.size, fun i hi hx => (hk3.block i (Nat.lt_of_lt_of_le hi HG1.out.size) (by simp at hx ⊢; omega)).trans (HG1.out.block i hi (by simp))⟩
    have hs3 := hk3.size
    have hS1s := HS1.out
    have kb4 : ∀ {b : Nat} {o : Obj}, w3.heap[b]? = some o → w4.drew.heap[b]? = some o := fun hb => (hgd4.block _ (gl hb) (by simp)).trans hb
    have hS0 : (fun W' => W'.heap[ab]? = some (.cells #[.pointer (some ⟨A.c, 0, none⟩), .slice (some ⟨g, 0, none⟩) qn qc, .map (some ob)] 137 (0, 0)) ∧ W'.heap[wr.heap.size]? = some (.cells #[.string ⟨nm.toArray⟩, .slice ua un uc, .slice ta tn tc, .slice la ln lc, .slice ia jn ic, .int .i64 at_] 119 (0, 0)) ∧ W'.heap[wr.heap.size + 1]? = some (.cells #[.pointer (some ⟨ab, 0, none⟩), .string ⟨nm.toArray⟩, .slice ua un uc, .slice ta tn tc, .slice la ln lc, .slice ia jn ic, .int .i64 at_, .map (some k)] 143 (0, 0))) w4.drew := ⟨kb4 j2, kb4 (hk3.at HTB.out (by simp; omega)), kb4 j4⟩
    have hO4 : OutAt w4.drew ob (m + t) O1 := j3.kept hgd4
    obtain ⟨D', o1, o2, o3⟩ := hO4
    have hsnm : Nam.short nm = true := hshort _ (List.mem_of_getElem? hx)
    obtain ⟨w5, hrun, ho5, htn⟩ := o1.store kLaw Tryz.underlying135 (by unfold maxLen; omega) (key_of nm hsnm) (mapElem_code (some k))
    have hO5 := OutAt.upd o1 o2 o3 (by rw [HOO.out.2.1]; simp; exact List.mem_of_getElem? hnmt) ho5
    have hg5 := htn.grown
    have hk5 : Kp [ob] w4.drew w5 := Kp.of hg5 _ (fun k e _ => by cases e; simp)
    unfold strV at hrun
    have hw4s := hgd4.size
    have hw3w : w3.heap.size ≤ w4.heap.size := hw4s
    have hS5 : (fun W' => W'.heap[ab]? = some (.cells #[.pointer (some ⟨A.c, 0, none⟩), .slice (some ⟨g, 0, none⟩) qn qc, .map (some ob)] 137 (0, 0)) ∧ W'.heap[wr.heap.size]? = some (.cells #[.string ⟨nm.toArray⟩, .slice ua un uc, .slice ta tn tc, .slice la ln lc, .slice ia jn ic, .int .i64 at_] 119 (0, 0)) ∧ W'.heap[wr.heap.size + 1]? = some (.cells #[.pointer (some ⟨ab, 0, none⟩), .string ⟨nm.toArray⟩, .slice ua un uc, .slice ta tn tc, .slice la ln lc, .slice ia jn ic, .int .i64 at_, .map (some k)] 143 (0, 0))) w5 := ⟨hk5.at hS0.1 (by simp; omega), hk5.at hS0.2.1 (by simp; omega), hk5.at hS0.2.2 (by simp; omega)⟩
    have hK35 : Kp [A.b1, A.b2, ob] wr w5 := ((hkr.mono (fun i hi _ => by simp at hi ⊢; omega)).trans (Kp.of0 hgd4 _)).trans (hk5.mono (fun i hi _ => by simp at hi ⊢; omega))
    have hkl := j7.lt
    have hF : Ck w0 w5 A st2 ∧ Kp [A.b1, A.b2, ob] w w5 ∧ w5.heap[w.heap.size]? = some fo ∧ OutAt w5 ob (m + (t + 1)) (O1.map fun x => if x.1 = nm then (nm, some k) else x) ∧ (O1.map fun x => if x.1 = nm then (nm, some k) else x).map Prod.fst = names ∧ (acc ++ [Dd]).length = t + 1 ∧ Outs w5 w.heap.size names (O1.map fun x => if x.1 = nm then (nm, some k) else x) (acc ++ [Dd]) (ks ++ [k]) := by
     refine ⟨(j1.kept hgd4).keptB hg5 ⟨hob0, by simp; omega⟩, HKP.out.trans hK35, hK35.at HC1.out (by simp; omega), by rw [← Nat.add_assoc]; exact hO5, by rw [upd_fst]; exact HOO.out.2.1, by simp [HOO.out.2.2.1], ?_⟩
     refine Outs.snoc ((HOO.out.2.2.2.kept hkr (by simp; omega)).kept ((Kp.of0 hgd4 [ob]).trans hk5) (by simp; omega)) HN.out.2 (by rw [HOO.out.2.2.1]; exact hnmt) HOO.out.2.1 ((j7.kept hgd4).keptK hk5 (by simp; omega)) j8 (by omega)
    have HF := ld hF
    clear hF hK35 hkr hk3 j1 j2 j3 j4 j6 j7 j8 HJ o1 o2 o3 ho5 htn hO5 hg5 hk5 hg34 hgd4 kb4 D'
    refine ld ?_
    go_wp2
    refine wp_region_L2 (S := fun W' => W'.heap[ab]? = some (.cells #[.pointer (some ⟨A.c, 0, none⟩), .slice (some ⟨g, 0, none⟩) qn qc, .map (some ob)] 137 (0, 0)) ∧ W'.heap[wr.heap.size]? = some (.cells #[.string ⟨nm.toArray⟩, .slice ua un uc, .slice ta tn tc, .slice la ln lc, .slice ia jn ic, .int .i64 at_] 119 (0, 0)) ∧ W'.heap[wr.heap.size + 1]? = some (.cells #[.pointer (some ⟨ab, 0, none⟩), .string ⟨nm.toArray⟩, .slice ua un uc, .slice ta tn tc, .slice la ln lc, .slice ia jn ic, .int .i64 at_, .map (some k)] 143 (0, 0))) (by kernel_rfl) ?_
    refine t1 0 25 (.pointer (some ⟨ab, 0, none⟩)) hS0 ?_
    (try simp only [Act.put, sA, sB, sC])
    refine t1 1 26 (.pointer (some ⟨ab, 0, none⟩)) hS0 ?_
    (try simp only [Act.put, sA, sB, sC])
    refine t1 2 27 (.pointer (some ⟨ab, 2, none⟩)) hS0 ?_
    (try simp only [Act.put, sA, sB, sC])
    refine t2 3 28 (.map (some ob)) (fun w' hw' => ?_) hS0 ?_
    ·have hc0 := cell_of_row w' _ 2 _ _ _ (hw'.1); clear hw'; go_simp
    (try simp only [Act.put, sA, sB, sC])
    refine t1 4 29 (.pointer (some ⟨wr.heap.size, 0, none⟩)) hS0 ?_
    (try simp only [Act.put, sA, sB, sC])
    refine t2 5 30 (.string ⟨nm.toArray⟩) (fun w' hw' => ?_) hS0 ?_
    ·have hc0 := cell_of_row w' _ 0 _ _ _ (hw'.2.1); clear hw'; go_simp
    (try simp only [Act.put, sA, sB, sC])
    refine t1 6 31 (.pointer (some ⟨wr.heap.size + 1, 0, none⟩)) hS0 ?_
    (try simp only [Act.put, sA, sB, sC])
    refine t1 7 32 (.pointer (some ⟨wr.heap.size + 1, 0, none⟩)) hS0 ?_
    (try simp only [Act.put, sA, sB, sC])
    refine t1 8 33 (.pointer (some ⟨wr.heap.size + 1, 7, none⟩)) hS0 ?_
    (try simp only [Act.put, sA, sB, sC])
    refine t2 9 34 (.map (some k)) (fun w' hw' => ?_) hS0 ?_
    ·have hc0 := cell_of_row w' _ 7 _ _ _ (hw'.2.2); clear hw'; go_simp
    (try simp only [Act.put, sA, sB, sC])
    refine wpL_mapUpdate (i := 10) (by kernel_rfl) rfl (by kernel_rfl) (by kernel_rfl) rfl rfl rfl rfl hrun hS5 ?_
    (try simp only [Act.put, sA, sB, sC])
    refine wpL_done (by kernel_rfl) ?_ _
    clear hS0 hS5 hrun
    go_wp2
    exact ⟨⟨t + 1, st2, acc ++ [Dd], ks ++ [k], _, by omega, by go_num, ld ⟨HF.out.1, HF.out.2.1, HF.out.2.2.1, HF.out.2.2.2.1, HF.out.2.2.2.2.1, HF.out.2.2.2.2.2.1, HF.out.2.2.2.2.2.2, HM.out⟩⟩, by simp [intOf]; omega⟩
   ·have hb : (xe != 0) = true := by simp [h0]
    rw [hb] at hfd
    rw [if_neg h0] at hmm
    have HM := ld (Option.some.inj hmm)
    have H0 := ld h0
    clear hmm h0 hb hsome
    go_wp2_with (first | (go_at_call 101; refine hchk.mono ?_; rintro e w3 ⟨rfl, hk3, hi3⟩; have hk3' : Kp [A.b1, A.b2, wr.heap.size + 1] W1 w3 := (by rw [HW1.out]; exact hk3); clear hk3 hi3; have HJ := ld hk3'; clear hk3') | (go_at_call 29; refine (hfd _).mono ?_; rintro e w4 ⟨rfl, hg4⟩; have x0 := hg4.cell (cell_of_row _ _ 0 _ _ _ (heap_alloc_new w3 _)) (by simp); have x1 := hg4.cell (cell_of_row _ _ 1 _ _ _ (heap_alloc_new w3 _)) (by simp); refine Hid.out ?_))
    have hk3 := HJ.out
    have hg34 : w3.grownBy w4 none := (ga w3 _ none).trans hg4
    have hkr : Kp [A.b1, A.b2] wr w3 := ⟨hk3.os.trans HG1.out.os, hk3.tape.trans HG1.out.tape, hk3.output.trans HG1.out.output, Nat.le_trans HG1.out.size hk3.size, fun i hi hx => (hk3.block i (Nat.lt_of_lt_of_le hi HG1.out.size) (by simp at hx ⊢; omega)).trans (HG1.out.block i hi (by simp))⟩
    have hK34 : Kp [A.b1, A.b2, ob] wr w4 := (hkr.mono (fun i hi _ => by simp at hi ⊢; omega)).trans (Kp.of0 hg34 _)
    have hce4 := hK34.at HC1.out (by simp; omega)
    have HZ := ld (And.intro (HKP.out.trans hK34) (((HOO.out.1.keptK hkr (by simp; omega))).kept hg34))
    clear hk3 hkr hK34 hg34
    refine ld ?_
    go_wp2_with (with_reducible refine hold_st 2 ?_)
    refine ld ?_
    refine sg hce4 ?_
    intro w7 hh7 hg7
    go_wp2
    (try simp only [Exit.inBlock, Exit.then])
    refine br hh7 Tryz.underlying63 ?_
    obtain ⟨⟨_, e1⟩, e2⟩ : (_ = outs ∧ (xa, xe) = (ra, re)) ∧ st2 = st' := by have := HM.out; simp only [Prod.mk.injEq] at this ⊢; exact this
    cases e1
    refine ⟨rfl, HZ.out.1.trans' hg7 (Nat.le_refl _), m + t, O1, by omega, HZ.out.2.keptK (Kp.of hg7 [w.heap.size] (fun i e _ => by cases e; simp)) (by simp; omega), HOO.out.2.1, fun e => absurd e H0.out⟩
  ·have e : t = qn := by omega
   subst e
   rw [List.drop_eq_nil_of_le (by rw [← HL.out]; exact Nat.le_refl _)] at hmm
   unfold Nam.each at hmm
   have HM := ld (Option.some.inj hmm)
   clear hmm
   go_wp2_with (with_reducible refine hold_st 2 ?_)
   refine ld ?_
   refine sg hcell ?_
   intro w7 hh7 hg7
   go_wp2
   (try simp only [Exit.inBlock, Exit.then])
   refine br hh7 Tryz.underlying63 ?_
   obtain ⟨⟨e0, e1⟩, e2⟩ : (acc = outs ∧ ((0 : Int), (0 : Int)) = (ra, re)) ∧ st1 = st' := by have := HM.out; simp only [Prod.mk.injEq] at this ⊢; exact this
   cases e1
   subst e0 e2
   have hOl := hO1.lt
   refine ⟨rfl, hkp.trans' hg7 (Nat.le_refl _), m + t, O1, by omega, hO1.keptK (Kp.of hg7 [w.heap.size] (fun i e _ => by cases e; simp)) (by simp; omega), hO1n, fun _ => ⟨hck.keptB hg7 ⟨by omega, by simp; omega⟩, by rw [hacc]; exact HL.out, ks, houts.kept (Kp.of hg7 [w.heap.size] (fun i e _ => by cases e; simp)) (by simp)⟩⟩
open Go.RowKit Go.Maps Go.WideMaps
open Nam (St F)
theorem outs_at {W : World} {lo : Nat} {names : List (List UInt8)} {O : List (List UInt8 × Option Nat)} {acc : List (List (List UInt8))} {ks : List Nat} {ss : List Gram.State} {t : Nat} {x : Gram.State} (h : Outs W lo names O acc ks) (hn : names = ss.map Nam.stName) (hl : acc.length = ss.length) (hx : ss[t]? = some x) :
  ∃ k D, acc[t]? = some D ∧ (Nam.stName x, some k) ∈ O ∧ SetAt W k D.length D ∧ lo < k ∧ D.Nodup := by
 have ht := (List.getElem?_eq_some_iff.1 hx).1
 have h1 : acc[t]? = some (acc[t]'(by omega)) := List.getElem?_eq_getElem _
 have h2 : ks[t]? = some (ks[t]'(by have := h.1; omega)) := List.getElem?_eq_getElem _
 obtain ⟨a, b, c, d⟩ := h.2 t _ _ _ (by rw [hn, List.getElem?_map, hx]; rfl) h2 h1
 exact ⟨_, _, h1, a, b, d, c⟩
theorem aSame_any (A : Adr) (w0 w : World) (ab ob : Nat) (qa : Option Addr) (qn qc : Nat) (ss : List Gram.State) (names : List (List UInt8)) (hnames : names = ss.map Nam.stName) (hB : w0.grownBy w none) (hv : RepC w0 0 [] (.l 119 6 (statesD ss)) (.slice qa qn qc)) (hab : w.heap[ab]? = some (.cells #[.pointer (some ⟨A.c, 0, none⟩), .slice qa qn qc, .map (some ob)] 137 (0, 0))) (m lo : Nat) (O : List (List UInt8 × Option Nat)) (hO : OutAt w ob m O) (outs : List (List (List UInt8))) (ks : List Nat) (hU : Outs w lo names O outs ks) (hlen : outs.length = ss.length) (hpos : 0 < ss.length) (hshort : ∀ s ∈ ss, Nam.short (Nam.stName s) = true) (hsm : ∀ D ∈ outs, D.length < 2000000) (ra re : Int) (hr : Nam.same (outs.headD []) ss outs = some (ra, re)) :
  Calls Tryz.prog 96 #[.pointer (some ⟨ab, 0, none⟩)] w fun e w' => e = .returned (.agg #[.int .i64 ra, .int .i64 re]) ∧ w.grownBy w' none := by
 obtain ⟨hL, hLm⟩ := statesLen hv
 unfold maxLen at hLm
 obtain ⟨x0, hx0⟩ : ∃ x, ss[0]? = some x := ⟨_, List.getElem?_eq_getElem hpos⟩
 obtain ⟨k0, D0, hD0, hm0, hs0, hk0⟩ := outs_at hU hnames hlen hx0
 have hsh0 := hshort _ (List.mem_of_getElem? hx0)
 have hfirst : outs.headD [] = D0 := by cases outs with
  | nil => simp at hD0
  | cons a l => simp at hD0; subst hD0; rfl
 rw [hfirst] at hr
 have hl0 := hsm _ (List.mem_of_getElem? hD0)
 obtain ⟨nm0, us0, ut0, ls0, its0, at0⟩ := x0
 obtain ⟨g, _, _, _, _, _, _, _, _, _, _, _, _, rfl, ⟨z0, _⟩, _⟩ := stateAt hv hx0
 have hg0 : w.grownBy (w.alloc fo).drew none := gdrew (ga w fo none)
 have y0 := (hB.trans hg0).cell z0 (by simp)
 have hla := (gl hab)
 have habd := (hg0.block _ hla (by simp)).trans hab
 have y1 := cell_of_row _ _ 1 _ _ _ habd
 have y2 := cell_of_row _ _ 2 _ _ _ habd
 have hlk := (hO.kept hg0).look hsh0 hm0
 simp only [Nam.stName] at hlk
 unfold strV at hlk
 rw [Nat.zero_mul] at y0
 have hqp : 0 < qn := by rw [hL]; exact hpos
 have HL := ld hL
 have HR := ld hr
 have HO := ld hO
 have HAB := ld hab
 have HS0 := ld hs0
 have HF := ld (And.intro hB hv)
 clear hL hr hO hab hs0 hx0 hD0 hm0 z0 habd hB hv hfirst hg0
 go_enter Tryz.func96, Tryz.ntmps96
 go_wp2
 rw [show (Obj.cells #[Value.int .i64 0, Value.int .i64 0] 63) = fo from rfl]
 go_region
 clear y0 hlk
 have c1 : (w.alloc fo).drew.cell? ⟨ab, 1, none⟩ = some (.slice (some ⟨g, 0, none⟩) qn qc) := y1
 go_wp2
 go_loopw [23] (fun iv wr => ∃ t : Nat, t ≤ qn ∧ iv = .int .i64 (t : Int) ∧ Hid (w.grownBy wr none ∧ wr.heap[w.heap.size]? = some fo ∧ Nam.same D0 (ss.drop t) (outs.drop t) = some (ra, re))) (fun i _ => qn - (intOf i).toNat)
 case atStart => exact ⟨0, Nat.zero_le _, rfl, ld ⟨gdrew (ga w fo none), heap_alloc_new w fo, HR.out⟩⟩
 case round =>
  clear y1 y2 c1
  obtain ⟨t, ht, rfl, HG⟩ := hrel
  obtain ⟨hgr, hcell, hm⟩ := HG.out
  clear HG HR
  have hbase : w0.grownBy wr none := HF.out.1.trans hgr
  have habr := (hgr.block _ hla (by simp)).trans HAB.out
  have hsz := (gl hcell)
  by_cases hlt : t < qn
  ·obtain ⟨x, hx⟩ : ∃ x, ss[t]? = some x := ⟨_, List.getElem?_eq_getElem (by rw [← HL.out]; exact hlt)⟩
   obtain ⟨k, Dt, hDt, hmt, hst, _⟩ := outs_at hU hnames hlen hx
   have hsn := hshort _ (List.mem_of_getElem? hx)
   have hlt2 := hsm _ (List.mem_of_getElem? hDt)
   obtain ⟨nm, us, ut, ls, its, at_⟩ := x
   rw [drop_at hx, drop_at hDt] at hm
   unfold Nam.same at hm
   simp only [Nam.stName, Nam.stAt] at hsn hmt hm
   obtain ⟨g', ua, un, uc, ta, tn, tc, la, ln, lc, ia, jn, ic, hga, ⟨u0, u1, u2, u3, u4, u5⟩, _⟩ := stateAt (RepC.kept hbase (fun k e => by cases e) HF.out.2) hx
   cases hga
   obtain ⟨W1, hW1⟩ : ∃ W1, W1 = wr.alloc (.cells #[.string ⟨nm.toArray⟩, .slice ua un uc, .slice ta tn tc, .slice la ln lc, .slice ia jn ic, .int .i64 at_] 119 (0, 0)) := ⟨_, rfl⟩
   have hg1 : wr.grownBy W1 none := by rw [hW1]; exact ga wr _ none
   have hgd : w.grownBy W1.drew none := hgr.trans (gdrew hg1)
   have hS0 : (fun W' => W'.heap[ab]? = some (.cells #[.pointer (some ⟨A.c, 0, none⟩), .slice (some ⟨g, 0, none⟩) qn qc, .map (some ob)] 137 (0, 0)) ∧ W'.heap[wr.heap.size]? = some (.cells #[.string ⟨nm.toArray⟩, .slice ua un uc, .slice ta tn tc, .slice la ln lc, .slice ia jn ic, .int .i64 at_] 119 (0, 0)) ∧ OutAt W' ob m O) W1.drew := ⟨(hgd.block _ hla (by simp)).trans HAB.out, by rw [hW1]; exact heap_alloc_new wr _, HO.out.kept hgd⟩
   have hcal := mapsEqual_any k k0 _ _ Dt D0 W1.drew (hst.kept hgd) (HS0.out.kept hgd) hlt2 hl0
   have hS2 : ∀ w', W1.drew.grownBy w' none → (fun W' => W'.heap[ab]? = some (.cells #[.pointer (some ⟨A.c, 0, none⟩), .slice (some ⟨g, 0, none⟩) qn qc, .map (some ob)] 137 (0, 0)) ∧ W'.heap[wr.heap.size]? = some (.cells #[.string ⟨nm.toArray⟩, .slice ua un uc, .slice ta tn tc, .slice la ln lc, .slice ia jn ic, .int .i64 at_] 119 (0, 0)) ∧ OutAt W' ob m O) w' := fun w' hw => ⟨(hw.block _ (gl hS0.1) (by simp)).trans hS0.1, (hw.block _ (gl hS0.2.1) (by simp)).trans hS0.2.1, hS0.2.2.kept hw⟩
   have hce1 : W1.drew.heap[w.heap.size]? = some fo := ((gdrew hg1).block _ hsz (by simp)).trans hcell
   have HX := ld (And.intro hgd hce1)
   have HS2 := ld hS2
   have HW1 := ld hW1
   clear hW1 hg1 hgd hst hx hDt hgr hcell habr hbase hS2 hce1
   cases hq : Nam.sameAs D0 Dt with
   | true =>
    rw [hq] at hcal hm
    rw [if_pos rfl] at hm
    have HM := ld hm
    clear hm
    go_wp2
    rw [← HW1.out]
    refine wp_region_L2 (S := fun W' => W'.heap[ab]? = some (.cells #[.pointer (some ⟨A.c, 0, none⟩), .slice (some ⟨g, 0, none⟩) qn qc, .map (some ob)] 137 (0, 0)) ∧ W'.heap[wr.heap.size]? = some (.cells #[.string ⟨nm.toArray⟩, .slice ua un uc, .slice ta tn tc, .slice la ln lc, .slice ia jn ic, .int .i64 at_] 119 (0, 0)) ∧ OutAt W' ob m O) (by kernel_rfl) ?_
    refine t1 0 27 (.pointer (some ⟨ab, 0, none⟩)) hS0 ?_
    (try simp only [Act.put, sA, sB, sC])
    refine t1 1 28 (.pointer (some ⟨ab, 0, none⟩)) hS0 ?_
    (try simp only [Act.put, sA, sB, sC])
    refine t1 2 29 (.pointer (some ⟨ab, 2, none⟩)) hS0 ?_
    (try simp only [Act.put, sA, sB, sC])
    refine t2 3 30 (.map (some ob)) (fun w' hw' => ?_) hS0 ?_
    ·have hc0 := cell_of_row w' _ 2 _ _ _ (hw'.1); clear hw'; go_simp
    (try simp only [Act.put, sA, sB, sC])
    refine t1 4 31 (.pointer (some ⟨wr.heap.size, 0, none⟩)) hS0 ?_
    (try simp only [Act.put, sA, sB, sC])
    refine t2 5 32 (.string ⟨nm.toArray⟩) (fun w' hw' => ?_) hS0 ?_
    ·have hc0 := cell_of_row w' _ 0 _ _ _ (hw'.2.1); clear hw'; go_simp
    (try simp only [Act.put, sA, sB, sC])
    refine t2 6 33 (.map (some k)) (fun w' hw' => ?_) hS0 ?_
    ·have hl := hw'.2.2.look hsn hmt; unfold strV at hl; clear hw'; go_simp
    (try simp only [Act.put, sA, sB, sC])
    refine t1 7 34 (.map (some k0)) hS0 ?_
    (try simp only [Act.put, sA, sB, sC])
    refine wpL_call (i := 8) (d := 35) (R := fun v w' => v = .bool true ∧ W1.drew.grownBy w' none) (by kernel_rfl) rfl (by kernel_rfl) (by kernel_rfl) (by kernel_rfl) (hcal.mono fun e w' he => ⟨_, he.1, rfl, he.2⟩) (fun v w' h => HS2.out _ h.2) (fun v w2 h => ?_)
    rw [h.1]
    have hg2 := h.2
    have hS3 := HS2.out _ hg2
    clear h v
    (try simp only [Act.put, sA, sB, sC])
    refine t1 9 36 (.bool false) hS3 ?_
    (try simp only [Act.put, sA, sB, sC])
    refine wpL_done (by kernel_rfl) ?_ _
    go_wp2
    exact ⟨⟨t + 1, by omega, by go_num, ld ⟨HX.out.1.trans hg2, (hg2.block _ (gl HX.out.2) (by simp)).trans HX.out.2, HM.out⟩⟩, by simp [intOf]; omega⟩
   | false =>
    rw [hq] at hcal hm
    rw [if_neg (by decide)] at hm
    have HM := ld hm
    clear hm
    go_wp2
    rw [← HW1.out]
    refine wp_region_L2 (S := fun W' => W'.heap[ab]? = some (.cells #[.pointer (some ⟨A.c, 0, none⟩), .slice (some ⟨g, 0, none⟩) qn qc, .map (some ob)] 137 (0, 0)) ∧ W'.heap[wr.heap.size]? = some (.cells #[.string ⟨nm.toArray⟩, .slice ua un uc, .slice ta tn tc, .slice la ln lc, .slice ia jn ic, .int .i64 at_] 119 (0, 0)) ∧ OutAt W' ob m O) (by kernel_rfl) ?_
    refine t1 0 27 (.pointer (some ⟨ab, 0, none⟩)) hS0 ?_
    (try simp only [Act.put, sA, sB, sC])
    refine t1 1 28 (.pointer (some ⟨ab, 0, none⟩)) hS0 ?_
    (try simp only [Act.put, sA, sB, sC])
    refine t1 2 29 (.pointer (some ⟨ab, 2, none⟩)) hS0 ?_
    (try simp only [Act.put, sA, sB, sC])
    refine t2 3 30 (.map (some ob)) (fun w' hw' => ?_) hS0 ?_
    ·have hc0 := cell_of_row w' _ 2 _ _ _ (hw'.1); clear hw'; go_simp
    (try simp only [Act.put, sA, sB, sC])
    refine t1 4 31 (.pointer (some ⟨wr.heap.size, 0, none⟩)) hS0 ?_
    (try simp only [Act.put, sA, sB, sC])
    refine t2 5 32 (.string ⟨nm.toArray⟩) (fun w' hw' => ?_) hS0 ?_
    ·have hc0 := cell_of_row w' _ 0 _ _ _ (hw'.2.1); clear hw'; go_simp
    (try simp only [Act.put, sA, sB, sC])
    refine t2 6 33 (.map (some k)) (fun w' hw' => ?_) hS0 ?_
    ·have hl := hw'.2.2.look hsn hmt; unfold strV at hl; clear hw'; go_simp
    (try simp only [Act.put, sA, sB, sC])
    refine t1 7 34 (.map (some k0)) hS0 ?_
    (try simp only [Act.put, sA, sB, sC])
    refine wpL_call (i := 8) (d := 35) (R := fun v w' => v = .bool false ∧ W1.drew.grownBy w' none) (by kernel_rfl) rfl (by kernel_rfl) (by kernel_rfl) (by kernel_rfl) (hcal.mono fun e w' he => ⟨_, he.1, rfl, he.2⟩) (fun v w' h => HS2.out _ h.2) (fun v w2 h => ?_)
    rw [h.1]
    have hg2 := h.2
    have hS3 := HS2.out _ hg2
    clear h v
    (try simp only [Act.put, sA, sB, sC])
    refine t1 9 36 (.bool true) hS3 ?_
    (try simp only [Act.put, sA, sB, sC])
    refine wpL_done (by kernel_rfl) ?_ _
    have d5 := cell_of_row _ _ 5 _ _ _ hS3.2.1
    have hc2 := (hg2.block _ (gl HX.out.2) (by simp)).trans HX.out.2
    have HS3 := ld hS3
    clear hS3 hS0 hcal
    go_wp2_with (with_reducible refine hold_st 2 ?_)
    refine ld ?_
    refine sg hc2 ?_
    intro w7 hh7 hg7
    go_wp2
    (try simp only [Exit.inBlock, Exit.then])
    refine br hh7 Tryz.underlying63 ?_
    cases HM.out
    exact ⟨rfl, (HX.out.1.trans hg2).andThen hg7 (fun j e => .inl (by cases e; exact Nat.le_refl _))⟩
  ·have e : t = qn := by omega
   subst e
   rw [List.drop_eq_nil_of_le (by rw [← HL.out]; exact Nat.le_refl _)] at hm
   unfold Nam.same at hm
   have HM := ld (Option.some.inj hm)
   clear hm
   go_wp2_with (with_reducible refine hold_st 2 ?_)
   refine ld ?_
   refine sg hcell ?_
   intro w7 hh7 hg7
   go_wp2
   (try simp only [Exit.inBlock, Exit.then])
   refine br hh7 Tryz.underlying63 ?_
   cases HM.out
   exact ⟨rfl, hgr.andThen hg7 (fun j e => .inl (by cases e; exact Nat.le_refl _))⟩
open Go.RowKit Go.Maps Go.WideMaps
open Nam (St F)
theorem eqNames_len {a : Int} {st : St} : ∀ {ns D : List (List UInt8)} {x : F × List (List UInt8)}, Nam.eqNames a st ns D = some x → D.length ≤ 1000000 → x.2.length ≤ 1000000
 | [], D, x, h, hD => by unfold Nam.eqNames at h; cases h; exact hD
 | s :: r, D, x, h, hD => by
  unfold Nam.eqNames at h
  split at h
  ·rename_i hc
   split at h
   ·split at h
    ·cases h; exact hD
    ·refine eqNames_len h ?_
     simp only [Bool.and_eq_true, decide_eq_true_eq] at hc
     simp; omega
   ·cases h; exact hD
  ·cases h
theorem item_len {items : List Gram.Item → St → Option ((List (List UInt8) × F) × St)} {i : Gram.Item} {D : List (List UInt8)} {st : St} {x : (List (List UInt8) × F) × St} (h : Nam.item items i D st = some x) (hD : D.length ≤ 1000000) : x.1.1.length ≤ 1000000 := by
 obtain ⟨ns, e, ss, a⟩ := i
 rw [Nam.item] at h
 split at h
 ·split at h
  ·cases h
  ·rename_i y hy
   split at h
   ·split at h
    ·cases h
    ·cases h; exact eqNames_len hy hD
   ·cases h; simp
 ·split at h
  ·cases h
  ·split at h
   ·split at h
    ·rename_i hc
     split at h
     ·cases h; simp
     ·cases h
      simp only [decide_eq_true_eq] at hc
      simp; omega
    ·cases h
   ·cases h; simp
theorem listI_len {items : List Gram.Item → St → Option ((List (List UInt8) × F) × St)} : ∀ {its : List Gram.Item} {D : List (List UInt8)} {st : St} {x : (List (List UInt8) × F) × St}, Nam.listI items its D st = some x → D.length ≤ 1000000 → x.1.1.length ≤ 1000000
 | [], D, st, x, h, hD => by unfold Nam.listI at h; cases h; exact hD
 | i :: r, D, st, x, h, hD => by
  unfold Nam.listI at h
  split at h
  ·cases h
  ·rename_i y hy
   split at h
   ·exact listI_len h (item_len hy hD)
   ·cases h; simp
theorem items_len {f : Nat} {its : List Gram.Item} {st : St} {x : (List (List UInt8) × F) × St} (h : Nam.items f its st = some x) : x.1.1.length ≤ 1000000 := by
 cases f with
 | zero => unfold Nam.items at h; cases h
 | succ f => unfold Nam.items at h; exact listI_len h (by simp)
theorem dropAll_len : ∀ {ls : List Gram.Var} {D D' : List (List UInt8)}, Nam.dropAll D ls = some D' → D'.length ≤ D.length
 | [], D, D', h => by unfold Nam.dropAll at h; cases h; exact Nat.le_refl _
 | v :: r, D, D', h => by
  unfold Nam.dropAll at h
  split at h
  ·refine Nat.le_trans (dropAll_len h) ?_
   unfold Nam.drop
   exact List.length_filter_le _ _
  ·cases h
theorem state_len {f : Nat} {O : List (List UInt8)} {s : Gram.State} {x : Nam.SS} {r : F × Nam.SS} {D : List (List UInt8)} (h : Nam.state (Nam.items f) O s x = some r) (h0 : r.1.2 = 0) (hD : r.2.2 = some D) : D.length ≤ 1000000 := by
 cases s with
 | mk n us ut ls its a =>
 unfold Nam.state at h
 obtain ⟨x1, _, _, h⟩ := ord_cons h h0
 obtain ⟨x2, _, _, h⟩ := ord_cons h h0
 obtain ⟨x3, _, _, h⟩ := ord_cons h h0
 obtain ⟨x4, _, _, h⟩ := ord_cons h h0
 obtain ⟨x5, e5, _, h⟩ := ord_cons h h0
 obtain ⟨x6, e6, _, h⟩ := ord_cons h h0
 obtain ⟨x7, e7, _, h⟩ := ord_cons h h0
 obtain ⟨x8, e8, _, h⟩ := ord_cons h h0
 unfold Nam.inOrder at h
 cases h
 have q5 : ∃ D, x5.2.2 = some D ∧ D.length ≤ 1000000 := by
  unfold Nam.sItems at e5
  split at e5
  ·cases e5
  ·rename_i y hy
   cases e5; exact ⟨_, rfl, items_len hy⟩
 have q6 : x6.2.2 = x5.2.2 := by
  unfold Nam.sMissing at e6
  split at e6
  ·cases e6
  ·cases e6; rfl
 have q7 : x7.2.2 = x6.2.2 := by
  unfold Nam.sTrans at e7
  split at e7
  ·cases e7
  ·cases e7; rfl
 obtain ⟨D1, q5, hl⟩ := q5
 rw [q6, q5] at q7
 unfold Nam.sLeave at e8
 split at e8
 ·cases e8
 ·rw [q7] at e8
  simp only at e8
  split at e8
  ·cases e8
  ·rename_i D' hD'
   cases e8
   cases hD
   exact Nat.le_trans (dropAll_len hD') hl
theorem each_len {f : Nat} {O : List (List UInt8)} {re : Int} (h0 : re = 0) : ∀ {ss : List Gram.State} {acc outs : List (List (List UInt8))} {st st' : St} {ra : Int}, Nam.each (Nam.items f) O ss acc st = some ((outs, (ra, re)), st') → (∀ D ∈ acc, D.length < 2000000) → ∀ D ∈ outs, D.length < 2000000
 | [], acc, outs, st, st', ra, h, ha => by unfold Nam.each at h; cases h; exact ha
 | s :: r, acc, outs, st, st', ra, h, ha => by
  unfold Nam.each at h
  split at h
  ·cases h
  ·rename_i x hx
   split at h
   ·rename_i hz
    refine each_len h0 h (fun D hD => ?_)
    rcases List.mem_append.1 hD with h1 | h1
    ·exact ha D h1
    ·obtain ⟨D1, e1⟩ := state_some hx hz
     have := state_len hx hz e1
     rw [e1] at h1
     simp at h1
     subst h1
     omega
   ·rename_i hz
    simp only [Option.some.injEq, Prod.mk.injEq] at h
    obtain ⟨⟨_, e1⟩, _⟩ := h
    rw [e1] at hz
    exact absurd h0 hz
theorem stNames_ok : ∀ {ss : List Gram.State} {O : List (List UInt8)} {r : F}, Nam.stNames ss O = some r → r.2 = 0 → O.Nodup → (O ++ ss.map Nam.stName).Nodup ∧ (∀ s ∈ ss, Nam.short (Nam.stName s) = true) ∧ (ss = [] ∨ O.length + ss.length ≤ 1000000)
 | [], O, r, h, h0, hO => ⟨by simpa using hO, by simp, .inl rfl⟩
 | .mk n us ut ls its a :: q, O, r, h, h0, hO => by
  unfold Nam.stNames at h
  split at h
  ·rename_i hc
   simp only [Bool.and_eq_true, decide_eq_true_eq] at hc
   split at h
   ·cases h; simp at h0
   ·rename_i hn
    have hn2 : n ∉ O := by simpa using hn
    obtain ⟨h1, h2, h3⟩ := stNames_ok h h0 (List.nodup_append.2 ⟨hO, by simp, fun a ha b hb => by simp at hb; subst hb; exact fun e => hn2 (e ▸ ha)⟩)
    refine ⟨by simpa [Nam.stName] using h1, ?_, .inr ?_⟩
    ·intro s hs
     rcases List.mem_cons.1 hs with rfl | hs
     ·exact hc.1
     ·exact h2 s hs
    ·rcases h3 with rfl | h3
     ·simp; omega
     ·simp at h3 ⊢; omega
  ·cases h
abbrev ASt := Nat × St × List (List (List UInt8))
def aK1 (ss : List Gram.State) (s : ASt) : Option (F × ASt) := if s.1 = 0 then (match Nam.stNames ss [] with | none => none | some x => some (x, (1, s.2.1, []))) else none
def aK2 (f : Nat) (ss : List Gram.State) (s : ASt) : Option (F × ASt) := if s.1 = 1 then (match Nam.each (Nam.items f) (ss.map Nam.stName) ss [] s.2.1 with | none => none | some y => some (y.1.2, (2, y.2, y.1.1))) else none
def aK3 (ss : List Gram.State) (s : ASt) : Option (F × ASt) := if s.1 = 2 then (match Nam.same (s.2.2.headD []) ss s.2.2 with | none => none | some z => some (z, (3, s.2.1, s.2.2))) else none
theorem same_zero : ∀ {ss : List Gram.State} {L : List (List UInt8)} {outs : List (List (List UInt8))} {z : F}, Nam.same L ss outs = some z → z.2 = 0 → z = (0, 0)
 | [], _, outs, z, h, _ => by unfold Nam.same at h; cases h; rfl
 | s :: r, _, [], z, h, _ => by unfold Nam.same at h; cases h; rfl
 | s :: r, L, D :: ds, z, h, h0 => by
  unfold Nam.same at h
  split at h
  ·exact same_zero h h0
  ·cases h; simp at h0
theorem states_ord {f : Nat} {ss : List Gram.State} {st r2 : St} {D : List (List UInt8)} {x : F} (h : Nam.states (Nam.items f) ss st = some ((D, x), r2)) :
  ∃ s', Nam.inOrder [aK1 ss, aK2 f ss, aK3 ss] (0, st, []) = some (x, s') ∧ (x.2 = 0 → s'.1 = 3 ∧ s'.2.1 = r2 ∧ D = s'.2.2.headD []) := by
 unfold Nam.states at h
 unfold Nam.inOrder Nam.inOrder Nam.inOrder Nam.inOrder
 simp only [aK1, aK2, aK3, if_pos]
 cases h1 : Nam.stNames ss [] with
 | none => rw [h1] at h; cases h
 | some y =>
  rw [h1] at h
  simp only at h ⊢
  by_cases z1 : y.2 = 0
  ·rw [if_pos z1] at h ⊢
   simp only [if_pos]
   cases h2 : Nam.each (Nam.items f) (ss.map Nam.stName) ss [] st with
   | none => rw [h2] at h; cases h
   | some y2 =>
    rw [h2] at h
    simp only at h ⊢
    by_cases z2 : y2.1.2.2 = 0
    ·rw [if_pos z2] at h ⊢
     simp only [if_pos]
     cases h3 : Nam.same (y2.1.1.headD []) ss y2.1.1 with
     | none => rw [h3] at h; cases h
     | some z =>
      rw [h3] at h
      simp only at h ⊢
      cases h
      by_cases z3 : x.2 = 0
      ·rw [if_pos z3]
       have := same_zero h3 z3
       subst this
       exact ⟨(3, y2.2, y2.1.1), rfl, fun _ => ⟨rfl, rfl, rfl⟩⟩
      ·rw [if_neg z3]
       exact ⟨_, rfl, fun e => absurd e z3⟩
    ·rw [if_neg z2] at h ⊢
     cases h
     exact ⟨_, rfl, fun e => absurd e z2⟩
  ·rw [if_neg z1] at h ⊢
   cases h
   exact ⟨_, rfl, fun e => absurd e z1⟩
open Go.RowKit Go.Maps Go.WideMaps
open Nam (St F)
theorem OutAt.lookAll {w : World} {b n : Nat} {O : List (List UInt8 × Option Nat)} (h : OutAt w b n O) {s : List UInt8} (hs : Nam.short s = true) : ∃ o, ∀ W' : World, W'.heap[b]? = w.heap[b]? → (Instr.lookup 135 (.map (some b)) (strV s) false).run Tryz.prog W' = .ok (.map o) W' := by
 obtain ⟨D, ⟨es, clock, e1, e2⟩, _⟩ := h
 have h1 : w.ownsMap Tryz.prog 9 mapElem b n D := ⟨es, clock, e1, e2⟩
 obtain ⟨v, ps, hr, hv⟩ := h1.lookup kLaw Tryz.underlying135 (zeroSet w) mapElem_none (key_of s hs)
 obtain ⟨o, rfl⟩ := mapElem_form hv
 rw [mapElem_code] at hv
 have hv2 := (Prod.mk.inj (Option.some.inj hv)).1
 refine ⟨o, fun W' hW => ?_⟩
 have h2 : W'.ownsMap Tryz.prog 9 mapElem b n D := ⟨es, clock, hW.trans e1, e2⟩
 obtain ⟨v', ps', hr', hv'⟩ := h2.lookup kLaw Tryz.underlying135 (zeroSet W') mapElem_none (key_of s hs)
 rw [← hv2] at hv'
 rw [mapElem_invO hv'] at hr'
 exact hr'
theorem results_tmp_cell {P : Program} {fn : Func} {p u : Tmp} {ty : TypeId} (h : fn.results = #[.tmp u, .cell p ty]) (tmps : Array Value) (w : World) (g : Nat) (t : TypeId) (cs : Array Value) (fr : Nat × Nat) (d : TypeDesc) (v : Value) (hv : tmps.getD u undef = v)
  (hp : tmps.getD p undef = .pointer (some ⟨g, 0, none⟩)) (hg : w.heap[g]? = some (.cells cs t fr))
  (hu : P.underlying ty = some d) (hd : (match d with | .struct _ | .array _ _ => true | _ => false) = true) (hi : (P.info? ty).map (·.size) = some cs.size) :
  (results fn tmps).run P w = .ok (.tuple #[v, .agg cs]) w := by
 have hp' : tmps[p]?.getD undef = .pointer (some ⟨g, 0, none⟩) := by simpa using hp
 have hv' : tmps[u]?.getD undef = v := by simpa using hv
 simp [results, h, hp', hv', asAddr, run_loadVar_row w g t ty cs fr d hg hu hd hi]
section
variable (A : Adr) (w0 : World) (ab ob n0 : Nat) (qa : Option Addr) (qn qc : Nat) (ss : List Gram.State)
def AInv (s : ASt) (W : World) : Prop := Ck w0 W A s.2.1 ∧ W.heap[ab]? = some (.cells #[.pointer (some ⟨A.c, 0, none⟩), .slice qa qn qc, .map (some (ob))] 137 (0, 0)) ∧ ∃ m O, m < 4000000 ∧ OutAt W ob m O ∧ (s.1 = 0 → m < 10 ∧ O = []) ∧ (1 ≤ s.1 → (ss.map Nam.stName).Nodup ∧ (∀ s ∈ ss, Nam.short (Nam.stName s) = true) ∧ ss.length < 1000001) ∧ (s.1 = 1 → m < 2000000 ∧ O = nils ss) ∧
 (2 ≤ s.1 → (∀ D ∈ s.2.2, D.length < 2000000) ∧ s.2.2.length = ss.length ∧ ∃ lo ks, n0 ≤ lo ∧ Outs W lo (ss.map Nam.stName) O s.2.2 ks)
def ABad (W : World) : Prop := w0.grownBy W none ∧ W.heap[ab]? = some (.cells #[.pointer (some ⟨A.c, 0, none⟩), .slice qa qn qc, .map (some (ob))] 137 (0, 0)) ∧ ∃ m O, OutAt W ob m O
structure APl : Prop where
 pa : A.c < n0 ∧ A.m < n0 ∧ A.b0 < n0 ∧ A.b1 < n0 ∧ A.b2 < n0
 pab : ab < n0 ∧ ab ∉ [A.c, A.m, A.b0, A.b1, A.b2] ∧ w0.heap.size ≤ ab
 pob : ob < n0 ∧ ob ∉ [A.c, A.m, A.b0, A.b1, A.b2] ∧ w0.heap.size ≤ ob
 ne : ab ≠ ob
 p0 : w0.heap.size ≤ A.b1 ∧ w0.heap.size ≤ A.b2
variable {A w0 ab ob n0 qa qn qc ss}
theorem AInv.bad {s : ASt} {W : World} (h : AInv A w0 ab ob n0 qa qn qc ss s W) : ABad A w0 ab ob qa qn qc W := ⟨h.1.base, h.2.1, let ⟨m, O, _, h1, _⟩ := h.2.2; ⟨m, O, h1⟩⟩
theorem AInv.st {s : ASt} {a b : World} {n : Nat} (hp : APl A w0 ab ob n0) (hw : w0.heap.size ≤ n0) (h : AInv A w0 ab ob n0 qa qn qc ss s a) (hg : a.grownBy b (some n)) (hn : n = n0 ∨ a.heap.size ≤ n) : AInv A w0 ab ob n0 qa qn qc ss s b := by
 obtain ⟨h1, h2, m, O, hm, h3, g0, g1, g2, g3⟩ := h
 have q1 := hp.pa
 have q2 := hp.pab.1
 have q3 := hp.pob.1
 have hk : Kp [n] a b := Kp.of hg _ (fun k e _ => by cases e; simp)
 have hl := h1.lt
 have hlm := h1.mm.lt
 have hab := (gl h2)
 have hob := h3.lt
 have hb := h1.base.size
 have hn1 : ∀ k ∈ [n], w0.heap.size ≤ k ∧ k ∉ [A.c, A.m, A.b0, A.b1, A.b2] := by clear g0 g1 g2 g3; simp; omega
 have hn2 : ab ∉ [n] := by clear g0 g1 g2 g3; simp; omega
 have hn3 : ob ∉ [n] := by clear g0 g1 g2 g3; simp; omega
 refine ⟨h1.keptK hk hn1, hk.at h2 hn2, m, O, hm, h3.keptK hk hn3, g0, g1, g2, fun e => ?_⟩
 obtain ⟨e1, e2, lo, ks, e3, e4⟩ := g3 e
 exact ⟨e1, e2, lo, ks, e3, e4.kept hk (by clear g0 g1 g2 g3; simp; omega)⟩
theorem ABad.st {a b : World} {n : Nat} (hp : APl A w0 ab ob n0) (hw : w0.heap.size ≤ n0) (h : ABad A w0 ab ob qa qn qc a) (hg : a.grownBy b (some n)) (hn : n = n0 ∨ a.heap.size ≤ n) : ABad A w0 ab ob qa qn qc b := by
 obtain ⟨h1, h2, m, O, h3⟩ := h
 have q2 := hp.pab.1
 have q3 := hp.pob.1
 have hk : Kp [n] a b := Kp.of hg _ (fun k e _ => by cases e; simp)
 have hab := (gl h2)
 have hob := h3.lt
 have hb := h1.size
 exact ⟨hk.grown h1 (by simp; omega), hk.at h2 (by simp; omega), m, O, h3.keptK hk (by simp; omega)⟩
theorem doNames (hp : APl A w0 ab ob n0) (hv : RepC w0 0 [] (.l 119 6 (statesD ss)) (.slice qa qn qc)) : Does (AInv A w0 ab ob n0 qa qn qc ss) (ABad A w0 ab ob qa qn qc) n0 [A.b1, A.b2, ob] 94 (.pointer (some ⟨ab, 0, none⟩)) (aK1 ss) := by
 refine ⟨enters_of Tryz.func94 (by kernel_rfl) rfl, ?_⟩
 rintro ⟨p, st, acc⟩ w r ⟨h1, h2, m, O, hm, h3, g0, g1, g2, g3⟩ hn hr
 unfold aK1 at hr
 simp only at hr h1 h2 g0 g1 g2 g3
 split at hr
 ·rename_i e
  obtain ⟨e1, e2⟩ := g0 e
  subst e2
  split at hr
  ·cases hr
  ·rename_i x hx
   cases hr
   refine (aNames_any A w0 w ab ob qa qn qc ss h1.base hv h2 hp.ne hp.pob.2.2 m h3 e1 x hx).mono ?_
   rintro e w' ⟨rfl, hk, m', O', hm', hO', hz⟩
   have hg : w0.grownBy w' none := hk.grown h1.base (by simpa using hp.pob.2.2)
   have ha := hk.at h2 (by simpa using hp.ne)
   refine ⟨rfl, (hk.mono (fun i hi _ => by simp at hi ⊢; omega)).q n0, fun h0 => ?_, hg, ha, m', O', hO'⟩
   obtain ⟨s1, s2, s3⟩ := stNames_ok hx h0 (by simp)
   refine ⟨h1.keptK hk (by simp only [List.mem_singleton]; rintro k rfl; exact ⟨hp.pob.2.2, hp.pob.2.1⟩), ha, m', O', by omega, hO', fun e => by simp at e, fun _ => ⟨by simpa using s1, s2, ?_⟩, fun _ => ⟨hm', hz h0⟩, fun e => by simp at e⟩
   rcases s3 with rfl | s3
   ·simp
   ·simp at s3; omega
 ·cases hr
theorem doEach (f : Nat) (hC : CIt f) (hp : APl A w0 ab ob n0) (hv : RepC w0 0 [] (.l 119 6 (statesD ss)) (.slice qa qn qc)) : Does (AInv A w0 ab ob n0 qa qn qc ss) (ABad A w0 ab ob qa qn qc) n0 [A.b1, A.b2, ob] 95 (.pointer (some ⟨ab, 0, none⟩)) (aK2 f ss) := by
 refine ⟨enters_of Tryz.func95 (by kernel_rfl) rfl, ?_⟩
 rintro ⟨p, st, acc⟩ w r ⟨h1, h2, m, O, hm, h3, g0, g1, g2, g3⟩ hn hr
 unfold aK2 at hr
 simp only at hr h1 h2 g0 g1 g2 g3
 split at hr
 ·rename_i e
  obtain ⟨e1, e2⟩ := g2 e
  obtain ⟨s1, s2, s3⟩ := g1 (by omega)
  subst e2
  split at hr
  ·cases hr
  ·rename_i y hx
   obtain ⟨⟨outs, ra, re⟩, st'⟩ := y
   cases hr
   refine (aEach_any f hC A w0 w st ab ob qa qn qc ss _ rfl s1 h1 hv h2 hp.pab.2.1 hp.pab.2.2 hp.ne hp.pob.2.2 hp.pob.2.1 m _ h3 (nils_fst ss) e1 s3 s2 outs ra re st' hx).mono ?_
   rintro e w' ⟨rfl, hk, m', O', hm', hO', hO2, hz⟩
   have q1 := hp.pab.2.1
   have hg : w0.grownBy w' none := hk.grown h1.base (by simp; exact ⟨hp.p0.1, hp.p0.2, hp.pob.2.2⟩)
   have ha := hk.at h2 (by simp at q1 ⊢; have := hp.ne; omega)
   refine ⟨rfl, hk.q n0, fun h0 => ?_, hg, ha, m', O', hO'⟩
   obtain ⟨z1, z2, ks, z3⟩ := hz h0
   exact ⟨z1, ha, m', O', hm', hO', fun e => by simp at e, fun _ => ⟨s1, s2, s3⟩, fun e => by simp at e, fun _ => ⟨each_len h0 hx (by simp), z2, _, ks, Nat.le_of_lt hn, z3⟩⟩
 ·cases hr
theorem doSame (hpos : 0 < ss.length) (hv : RepC w0 0 [] (.l 119 6 (statesD ss)) (.slice qa qn qc)) : Does (AInv A w0 ab ob n0 qa qn qc ss) (ABad A w0 ab ob qa qn qc) n0 [A.b1, A.b2, ob] 96 (.pointer (some ⟨ab, 0, none⟩)) (aK3 ss) := by
 refine ⟨enters_of Tryz.func96 (by kernel_rfl) rfl, ?_⟩
 rintro ⟨p, st, acc⟩ w r ⟨h1, h2, m, O, hm, h3, g0, g1, g2, g3⟩ hn hr
 unfold aK3 at hr
 simp only at hr h1 h2 g0 g1 g2 g3
 split at hr
 ·rename_i e
  obtain ⟨t1, t2, lo, ks, t3, t4⟩ := g3 (by omega)
  obtain ⟨s1, s2, s3⟩ := g1 (by omega)
  split at hr
  ·cases hr
  ·rename_i y hx
   obtain ⟨ra, re⟩ := y
   cases hr
   refine (aSame_any A w0 w ab ob qa qn qc ss _ rfl h1.base hv h2 m lo O h3 acc ks t4 t2 hpos s2 t1 ra re hx).mono ?_
   rintro e w' ⟨rfl, hg⟩
   have hk : Kp [] w w' := Kp.of0 hg []
   have ha := hk.at h2 (by simp)
   exact ⟨rfl, (Kp.of0 hg _).q n0, fun h0 => ⟨h1.kept hg, ha, m, O, hm, h3.kept hg, fun e => by simp at e, fun _ => ⟨s1, s2, s3⟩, fun e => by simp at e, fun _ => ⟨t1, t2, lo, ks, t3, t4.kept hk (by simp)⟩⟩, h1.base.trans hg, ha, m, O, h3.kept hg⟩
 ·cases hr
end
theorem states_any (f : Nat) (hC : CIt f) (A : Adr) (w0 w : World) (st : St) (ss : List Gram.State) (qa : Option Addr) (qn qc : Nat) (D : List (List UInt8)) (ra re : Int) (r2 : St) (h : Ck w0 w A st) (hv : RepC w0 0 [] (.l 119 6 (statesD ss)) (.slice qa qn qc)) (hpos : 0 < ss.length) (hr : Nam.states (Nam.items f) ss st = some ((D, (ra, re)), r2)) :
  Calls Tryz.prog 89 #[.pointer (some ⟨A.c, 0, none⟩), .slice qa qn qc] w fun e w' => ∃ o, e = .returned (.tuple #[.map o, .agg #[.int .i64 ra, .int .i64 re]]) ∧ itPost A w0 w ((D, (ra, re)), r2) o w' := by
 have hmf := makeFunc_run
 have hmm := @run_makeMap Tryz.prog
 obtain ⟨hL, hLm⟩ := statesLen hv
 have hqp : 0 < qn := by rw [hL]; exact hpos
 obtain ⟨⟨nm, us, ut, ls, its, at_⟩, hx0⟩ : ∃ x, ss[0]? = some x := ⟨_, List.getElem?_eq_getElem hpos⟩
 have hsh : Nam.short nm = true := by
  unfold Nam.states at hr
  cases ss with
  | nil => simp at hpos
  | cons a l =>
   simp at hx0
   subst hx0
   unfold Nam.stNames at hr
   cases hq : Nam.short nm with
   | true => rfl
   | false => rw [hq] at hr; simp at hr
 obtain ⟨g, _, _, _, _, _, _, _, _, _, _, _, _, rfl, ⟨z0, _⟩, _⟩ := stateAt hv hx0
 rw [Nat.zero_mul] at z0
 obtain ⟨s', hord0, hfin⟩ := states_ord hr
 obtain ⟨W4, hW4⟩ : ∃ W4, W4 = (((w.alloc fo).alloc (.map #[] 0)).alloc (.cells #[.pointer (some ⟨A.c, 0, none⟩), .slice (some ⟨g, 0, none⟩) qn qc, .map (some (w.heap.size + 1))] 137 (0, 0))).alloc (.cells (([94, 95, 96] : List Nat).map fun f => Value.func (.func f) #[.pointer (some ⟨w.heap.size + 2, 0, none⟩)] #[]).toArray 82) := ⟨_, rfl⟩
 have hg4 : w.grownBy W4 none := by rw [hW4]; exact galloc (galloc (bs2 w _ _) _) _
 have hs4 : W4.heap.size = w.heap.size + 4 := by rw [hW4]; simp
 have hb0 : W4.heap[w.heap.size]? = some fo := by rw [hW4, heap_alloc_old _ _ (by simp; omega), heap_alloc_old _ _ (by simp; omega)]; exact heap_alloc2_old w _ _
 have hO1 : OutAt W4 (w.heap.size + 1) 0 [] := by
  have h1 := OutAt.new (w.alloc fo)
  rw [World.size_alloc] at h1
  rw [hW4]
  exact h1.kept (galloc (ga _ _ _) _)
 have hb2 : W4.heap[w.heap.size + 2]? = some (.cells #[.pointer (some ⟨A.c, 0, none⟩), .slice (some ⟨g, 0, none⟩) qn qc, .map (some (w.heap.size + 1))] 137 (0, 0)) := by
  rw [hW4, heap_alloc_old _ _ (by simp)]
  have h1 := heap_alloc_new ((w.alloc fo).alloc (.map #[] 0)) (.cells #[.pointer (some ⟨A.c, 0, none⟩), .slice (some ⟨g, 0, none⟩) qn qc, .map (some (w.heap.size + 1))] 137 (0, 0))
  rw [World.size_alloc, World.size_alloc] at h1
  exact h1
 have hb3 : W4.heap[w.heap.size + 3]? = some (.cells (([94, 95, 96] : List Nat).map fun f => Value.func (.func f) #[.pointer (some ⟨w.heap.size + 2, 0, none⟩)] #[]).toArray 82 (0, 0)) := by
  have h1 := heap_alloc_new (((w.alloc fo).alloc (.map #[] 0)).alloc (.cells #[.pointer (some ⟨A.c, 0, none⟩), .slice (some ⟨g, 0, none⟩) qn qc, .map (some (w.heap.size + 1))] 137 (0, 0))) (.cells (([94, 95, 96] : List Nat).map fun f => Value.func (.func f) #[.pointer (some ⟨w.heap.size + 2, 0, none⟩)] #[]).toArray 82)
  rw [World.size_alloc, World.size_alloc, World.size_alloc] at h1
  rw [hW4]
  exact h1
 have hlt := h.lt
 have hlm := h.mm.lt
 have hb := h.base.size
 have hlo := h.lo
 have hp : APl A w0 (w.heap.size + 2) (w.heap.size + 1) W4.heap.size := by
  rw [hs4]
  refine ⟨⟨by omega, by omega, by omega, by omega, by omega⟩, ⟨by omega, by simp; omega, by omega⟩, ⟨by omega, by simp; omega, by omega⟩, by omega, by omega, by omega⟩
 have hI0 : AInv A w0 (w.heap.size + 2) (w.heap.size + 1) W4.heap.size (some ⟨g, 0, none⟩) qn qc ss (0, st, []) W4 := ⟨h.kept hg4, hb2, 0, [], by omega, hO1, fun _ => ⟨by omega, rfl⟩, fun e => by simp at e, fun e => by simp at e, fun e => by simp at e⟩
 have hord := inOrder_any (AInv A w0 (w.heap.size + 2) (w.heap.size + 1) W4.heap.size (some ⟨g, 0, none⟩) qn qc ss) (ABad A w0 (w.heap.size + 2) (w.heap.size + 1) (some ⟨g, 0, none⟩) qn qc) [A.b1, A.b2, w.heap.size + 1] (.pointer (some ⟨w.heap.size + 2, 0, none⟩)) [94, 95, 96] [aK1 ss, aK2 f ss, aK3 ss] (w.heap.size + 3) (0, st, []) W4 _ (by decide) rfl hb3 (by simp; omega) (by simp; omega)
  (by
   intro i g k hg hk
   rcases i with _ | _ | _ | i
   ·cases hg; cases hk; exact doNames hp hv
   ·cases hg; cases hk; exact doEach f hC hp hv
   ·cases hg; cases hk; exact doSame hpos hv
   ·simp at hk)
  (fun s a b n hs hgr hn => hs.st hp (by omega) hgr hn) (fun a b n hs hgr hn => hs.st hp (by omega) hgr hn) (fun _ _ hs => hs.bad) hI0 hord0
 rw [show ([94, 95, 96] : List Nat).length = 3 from rfl] at hord
 have HW := ld hW4
 have HX := ld (And.intro hg4 (And.intro hs4 (And.intro hb0 (And.intro hx0 (And.intro hfin hpos)))))
 have HZ := ld z0
 have HB := ld hb
 simp only [fv] at hord
 rw [hW4] at hord
 simp only [List.map_cons, List.map_nil] at hord
 clear hW4 hg4 hs4 hb0 hO1 hb2 hb3 hp hI0 hr hv hC hL hLm hord0 hfin hx0 z0 hlo hpos
 go_enter Tryz.func89, Tryz.ntmps89
 go_wp2_with (go_at_call 34; refine hord.mono ?_; rintro e w3 ⟨rfl, hk3, hi3, hB3⟩; refine Hid.out ?_)
 obtain ⟨hb3, hab3, m3, O3, hO3⟩ := hB3
 obtain ⟨hg4, hs4, hb0, hx0, hfin, hpos⟩ := HX.out
 have hk4 : Kp [A.b1, A.b2, w.heap.size + 1] W4 w3 := by rw [HW.out]; exact hk3
 have hks := hk4.size
 have hkw : Kp [A.b1, A.b2] w w3 := ⟨hk4.os.trans hg4.os, hk4.tape.trans hg4.tape, hk4.output.trans hg4.output, Nat.le_trans hg4.size hk4.size, fun i hi hx => (hk4.block i (Nat.lt_of_lt_of_le hi hg4.size) (by simp at hx ⊢; omega)).trans (hg4.block i hi (by simp))⟩
 have hc3 := hk4.at hb0 (by simp; omega)
 obtain ⟨o, hlk⟩ := hO3.lookAll hsh
 unfold strV at hlk
 obtain ⟨W5, hW5⟩ : ∃ W5, W5 = w3.alloc (.cells #[.int .i64 ra, .int .i64 re] 63 (0, 0)) := ⟨_, rfl⟩
 have hg5 : w3.grownBy W5.drew none := by rw [hW5]; exact gdrew (ga w3 _ none)
 have kb5 : ∀ {b : Nat} {x : Obj}, w3.heap[b]? = some x → W5.drew.heap[b]? = some x := fun hb => (hg5.block _ (gl hb) (by simp)).trans hb
 have hS0 : (fun W' => W'.heap[w.heap.size + 2]? = some (.cells #[.pointer (some ⟨A.c, 0, none⟩), .slice (some ⟨g, 0, none⟩) qn qc, .map (some (w.heap.size + 1))] 137 (0, 0)) ∧ W'.heap[w3.heap.size]? = some (.cells #[.int .i64 ra, .int .i64 re] 63 (0, 0)) ∧ W'.cell? ⟨g, 0, none⟩ = some (.string ⟨nm.toArray⟩) ∧ W'.heap[w.heap.size + 1]? = w3.heap[w.heap.size + 1]?) W5.drew := ⟨kb5 hab3, by rw [hW5]; exact heap_alloc_new w3 _, (hb3.trans hg5).cell HZ.out (by simp), hg5.block _ hO3.lt (by simp)⟩
 have hc5 := kb5 hc3
 have hfin2 : re = 0 → Ck w0 w3 A r2 ∧ ∃ k, o = some k ∧ w.heap.size + 4 < k ∧ SetAt w3 k D.length D ∧ D.Nodup := by
  intro h0
  obtain ⟨f1, f2, f3⟩ := hfin h0
  obtain ⟨g1, _, m, O, _, g2, _, q1, _, q3⟩ := hi3 h0
  obtain ⟨_, q4, lo, ks, q5, q6⟩ := q3 (by omega)
  obtain ⟨k0, D0, hD0, hm0, hs0, hk0, hnd0⟩ := outs_at q6 rfl q4 hx0
  have hl := g2.look hsh hm0
  (try simp only [Nam.stName] at hl)
  unfold strV at hl
  rw [hlk w3 rfl] at hl
  have ho : o = some k0 := by injection hl with hl _; injection hl
  have hDe : D = D0 := by
   rw [f3]
   cases hq : s'.2.2 with
   | nil => rw [hq] at hD0; simp at hD0
   | cons a l => rw [hq] at hD0; simp at hD0; rw [hD0]; rfl
  rw [f2] at g1
  simp only [World.size_alloc] at q5
  exact ⟨g1, k0, ho, by omega, by rw [hDe]; exact hs0, by rw [hDe]; exact hnd0⟩
 have hb3' := hb3.size
 have hw3s : w.heap.size + 4 ≤ w3.heap.size := by omega
 have hgl := World.block_lt_of_cell? w0 _ HZ.out
 simp only at hgl
 have hw5s : w3.heap.size ≤ W5.drew.heap.size := hg5.size
 have HFI := ld hfin2
 have HKW := ld (And.intro hkw (And.intro hg5 hb3))
 have HW5 := ld hW5
 have HLK := ld hlk
 clear hfin2 hkw hg5 hb3 hW5 hk4 hk3 hi3 hab3 hO3 hc3 hg4 hs4 hb0 hx0 hfin hpos kb5 hord hlk
 refine ld ?_
 go_wp2
 rw [← HW5.out]
 refine wp_region_L2 (S := fun W' => W'.heap[w.heap.size + 2]? = some (.cells #[.pointer (some ⟨A.c, 0, none⟩), .slice (some ⟨g, 0, none⟩) qn qc, .map (some (w.heap.size + 1))] 137 (0, 0)) ∧ W'.heap[w3.heap.size]? = some (.cells #[.int .i64 ra, .int .i64 re] 63 (0, 0)) ∧ W'.cell? ⟨g, 0, none⟩ = some (.string ⟨nm.toArray⟩) ∧ W'.heap[w.heap.size + 1]? = w3.heap[w.heap.size + 1]?) (by kernel_rfl) ?_
 refine t1 0 21 (.pointer (some ⟨w.heap.size + 2, 0, none⟩)) hS0 ?_
 (try simp only [Act.put, sA, sB, sC])
 refine t1 1 22 (.pointer (some ⟨w.heap.size + 2, 0, none⟩)) hS0 ?_
 (try simp only [Act.put, sA, sB, sC])
 refine t1 2 23 (.pointer (some ⟨w.heap.size + 2, 2, none⟩)) hS0 ?_
 (try simp only [Act.put, sA, sB, sC])
 refine t2 3 24 (.map (some (w.heap.size + 1))) (fun w' hw' => ?_) hS0 ?_
 ·have hc0 := cell_of_row w' _ 2 _ _ _ (hw'.1); clear hw'; go_simp
 (try simp only [Act.put, sA, sB, sC])
 refine t1 4 25 (.slice (some ⟨g, 0, none⟩) qn qc) hS0 ?_
 (try simp only [Act.put, sA, sB, sC])
 refine t2 5 26 (.pointer (some ⟨g, 0, none⟩)) (fun w' hw' => ?_) hS0 ?_
 ·clear hw'; go_simp
 (try simp only [Act.put, sA, sB, sC])
 refine t1 6 27 (.pointer (some ⟨g, 0, none⟩)) hS0 ?_
 (try simp only [Act.put, sA, sB, sC])
 refine t2 7 28 (.string ⟨nm.toArray⟩) (fun w' hw' => ?_) hS0 ?_
 ·have hc0 := hw'.2.2.1; clear hw'; go_simp
 (try simp only [Act.put, sA, sB, sC])
 refine t2 8 29 (.map o) (fun w' hw' => ?_) hS0 ?_
 ·have hl := HLK.out w' hw'.2.2.2; clear hw'; go_simp
 (try simp only [Act.put, sA, sB, sC])
 refine t2 9 30 (.agg #[.int .i64 ra, .int .i64 re]) (fun w' hw' => ?_) hS0 ?_
 ·have hc0 := cell_of_row w' _ 0 _ _ _ (hw'.2.1); have hc1 := cell_of_row w' _ 1 _ _ _ (hw'.2.1); clear hw'; go_simp
 (try simp only [Act.put, sA, sB, sC])
 refine t1 10 4 (.map o) hS0 ?_
 (try simp only [Act.put, sA, sB, sC])
 refine wpL_store (i := 11) w.heap.size #[.int .i64 ra, .int .i64 re] _ 63 _ _ _ (by kernel_rfl) rfl (by kernel_rfl) rfl rfl rfl rfl hc5 (by kernel_rfl) rfl (by simp [Value.oneCell']) ?_
 intro w7 hh7 hg7
 have hk7 : Kp [w.heap.size] W5.drew w7 := Kp.of hg7 _ (fun k e _ => by cases e; simp)
 refine ⟨⟨hk7.at hS0.1 (by simp), hk7.at hS0.2.1 (by simp; omega), hk7.cellAt hS0.2.2.1 (by simp; omega), (hk7.block _ (by omega) (by simp)).trans hS0.2.2.2⟩, ?_⟩
 (try simp only [Act.put, sA, sB, sC])
 refine wpL_done (by kernel_rfl) ?_ _
 go_wp2
 (try simp only [Exit.inBlock, Exit.then])
 refine bodyPost_ret (results_tmp_cell rfl _ _ w.heap.size 63 _ (0, 0) _ (.map o) rfl rfl hh7 Tryz.underlying63 rfl (by kernel_rfl)) rfl ?_
 have hk9 : Kp [A.b1, A.b2] w w7 := (HKW.out.1.trans (Kp.of0 HKW.out.2.1 _)).trans' hg7 (Nat.le_refl _)
 refine ⟨o, rfl, hk9, fun h0 => ?_⟩
 obtain ⟨e1, k, e2, e3, e4, e5⟩ := HFI.out h0
 have hk7 : Kp [w.heap.size] W5.drew w7 := Kp.of hg7 _ (fun k e _ => by cases e; simp)
 exact ⟨(e1.kept HKW.out.2.1).keptK hk7 (by simp; omega), k, e2, by omega, (e4.kept HKW.out.2.1).keptK hk7 (by simp; omega), e5⟩
open Go.RowKit Go.Maps Go.WideMaps
open Nam (St F)
theorem itemAt {w : World} {B : Nat} {E : List Nat} {L cap t : Nat} {a : Option Addr} {its : List Gram.Item} {ns : List (List UInt8)} {e : Gram.Exp} {ss : List Gram.State} {at_ : Int} (h : RepC w B E (.l 40 12 (itemsD its)) (.slice a L cap)) (hx : its[t]? = some (.mk ns e ss at_)) :
  ∃ g na nn nc ka kn kc qa qn qc, a = some ⟨g, 0, none⟩ ∧ RepC w B E (.l 9 1 (ns.map nameD)) (.slice na nn nc) ∧ KidsX w B E e.kids (.slice ka kn kc) ∧ RepC w B E (.l 119 6 (statesD ss)) (.slice qa qn qc) ∧ ∀ k u, (.slice na nn nc :: (expCells e (.slice ka kn kc) ++ [.slice qa qn qc, .int .i64 at_]))[k]? = some u → w.cell? ⟨g, t * 12 + k, none⟩ = some u := by
 rw [itemsD_map] at h
 obtain ⟨g, us, ha, hr, hq⟩ := nRowAt h (nMap itemD (fun x => by obtain ⟨_, e, _, _⟩ := x; cases e; rfl) its) t (nAt itemD hx)
 simp only [itemD] at hr
 obtain ⟨na, nn, nc, r1, rfl, k1, h_1⟩ := hr.lInv
 obtain ⟨u1, u2, rfl, h1, h2⟩ := RepRow.appInv h_1
 obtain ⟨p, q, r, rfl, hk⟩ := expInv h1
 obtain ⟨qa, qn, qc, r2, rfl, k2, h_2⟩ := h2.lInv
 obtain ⟨r3, rfl, h_3⟩ := h_2.cInv
 obtain rfl := h_3.nInv
 exact ⟨g, na, nn, nc, p, q, r, qa, qn, qc, ha, k1, hk, k2, hq⟩
theorem nameAt {w : World} {B : Nat} {E : List Nat} {L cap t : Nat} {a : Option Addr} {ns : List (List UInt8)} {s : List UInt8} (h : RepC w B E (.l 9 1 (ns.map nameD)) (.slice a L cap)) (hx : ns[t]? = some s) : ∃ g, a = some ⟨g, 0, none⟩ ∧ w.cell? ⟨g, t, none⟩ = some (.string ⟨s.toArray⟩) := by
 obtain ⟨g, us, ha, hr, hq⟩ := nRowAt h (nMap nameD (fun _ => rfl) ns) t (nAt nameD hx)
 unfold nameD at hr
 obtain ⟨r1, rfl, h_1⟩ := RepRow.cInv hr
 have := hq 0 _ rfl
 rw [Nat.mul_one, Nat.add_zero] at this
 exact ⟨g, ha, this⟩
theorem eqNames_nodup {a : Int} {st : St} : ∀ {ns D : List (List UInt8)} {x : F × List (List UInt8)}, Nam.eqNames a st ns D = some x → D.Nodup → x.2.Nodup
 | [], D, x, h, hD => by unfold Nam.eqNames at h; cases h; exact hD
 | s :: r, D, x, h, hD => by
  unfold Nam.eqNames at h
  split at h
  ·split at h
   ·split at h
    ·cases h; exact hD
    ·rename_i hn
     have hn2 : s ∉ D := by simpa using hn
     exact eqNames_nodup h (List.nodup_append.2 ⟨hD, by simp, fun a ha b hb => by simp at hb; subst hb; exact fun e => hn2 (e ▸ ha)⟩)
   ·cases h; exact hD
  ·cases h
theorem lNames_any (A : Adr) (w0 w : World) (st : St) (lb db : Nat) (na ka qa : Option Addr) (nn nc kn kc qn qc : Nat) (f1 s1 tk1 tl1 n1 m1 a1 at_ : Int) (nm1 : List UInt8) (ns D : List (List UInt8)) (h : Ck w0 w A st) (hlb : w.heap[lb]? = some (.cells #[.pointer (some ⟨A.c, 0, none⟩), .slice na nn nc, .int .i64 f1, .int .i64 s1, .string ⟨nm1.toArray⟩, .int .i64 tk1, .int .i64 tl1, .int .i64 n1, .int .i64 m1, .slice ka kn kc, .int .i64 a1, .slice qa qn qc, .int .i64 at_, .map (some db)] 115 (0, 0))) (hv : RepC w0 0 [] (.l 9 1 (ns.map nameD)) (.slice na nn nc)) (hD : SetAt w db D.length D) (hne : lb ≠ db) (hd0 : w0.heap.size ≤ db) (hdA : db ∉ [A.c, A.m, A.b0, A.b1, A.b2]) (ra re : Int) (D' : List (List UInt8)) (hr : Nam.eqNames at_ st ns D = some ((ra, re), D')) :
  Calls Tryz.prog 81 #[.pointer (some ⟨lb, 0, none⟩)] w fun e w' => e = .returned (.agg #[.int .i64 ra, .int .i64 re]) ∧ Kp [db] w w' ∧ (re = 0 → SetAt w' db D'.length D') := by
 obtain ⟨hL, hLm⟩ := nLen hv
 rw [List.length_map] at hL
 unfold maxLen at hLm
 have hla := (gl hlb)
 have hld := hD.lt
 have y1 := cell_of_row w _ 1 _ _ _ hlb
 have HL := ld hL
 have HR := ld hr
 have HH := ld h
 have HD := ld hD
 have HLB := ld hlb
 clear hL hr h hD hlb
 go_enter Tryz.func81, Tryz.ntmps81
 go_wp2
 go_loopw [11] (fun iv wr => ∃ (t : Nat) (D1 : List (List UInt8)), t ≤ nn ∧ iv = .int .i64 (t : Int) ∧ Hid (Kp [db] w wr ∧ SetAt wr db D1.length D1 ∧ wr.heap[w.heap.size]? = some fo ∧ Nam.eqNames at_ st (ns.drop t) D1 = some ((ra, re), D'))) (fun i _ => nn - (intOf i).toNat)
 case atStart => exact ⟨0, D, Nat.zero_le _, rfl, ld ⟨Kp.of0 (ga _ _ _) _, HD.out.kept (ga _ _ _), heap_alloc_new w fo, HR.out⟩⟩
 case round =>
  clear y1
  obtain ⟨t, D1, ht, rfl, HG⟩ := hrel
  obtain ⟨hkp, hset, hcell, hm⟩ := HG.out
  clear HG HR
  have hck : Ck w0 wr A st := HH.out.keptK hkp (by simp only [List.mem_singleton]; rintro k rfl; exact ⟨hd0, hdA⟩)
  have hlbr := hkp.at HLB.out (by simpa using hne)
  have hsz := (gl hcell)
  by_cases hlt : t < nn
  ·obtain ⟨s, hx⟩ : ∃ s, ns[t]? = some s := ⟨_, List.getElem?_eq_getElem (by rw [← HL.out]; exact hlt)⟩
   rw [drop_at hx] at hm
   unfold Nam.eqNames at hm
   obtain ⟨g, rfl, u0⟩ := nameAt (RepC.kept hck.base (fun k e => by cases e) hv) hx
   by_cases hs : (Nam.short s && decide (D1.length < 1000000)) = true
   ·rw [if_pos hs] at hm
    rw [Bool.and_eq_true, decide_eq_true_eq] at hs
    have hh1 := has_any (some A.b2) st.cnt st.owns s hs.1 wr hck.s2
    have hh2 := fun V (hV : wr.grownBy V none) => has_any (some db) D1.length D1 s hs.1 V (hset.kept hV)
    have b0 := cell_of_row wr _ 0 _ _ _ hlbr
    have b12 := cell_of_row wr _ 12 _ _ _ hlbr
    have b13 := cell_of_row wr _ 13 _ _ _ hlbr
    have bc := hck.cell
    have hlk := hck.mm.look.2.2
    have HC := ld (And.intro hck (And.intro hkp (And.intro hset hcell)))
    have HS := ld hs
    unfold strV at hh1 hh2
    have hlb2 := (gl hlbr)
    clear hck hkp hset hcell hx hlbr
    cases q1 : st.owns.contains s with
    | false =>
     rw [q1] at hm hh1
     rw [if_neg (by decide)] at hm
     have HM := ld (Option.some.inj hm)
     clear hm q1 hh2 b13
     go_wp2_with (go_at_call 51; refine hh1.mono ?_; rintro e w1 ⟨rfl, hg1⟩; have b0 := hg1.cell b0 (by simp); have b12 := hg1.cell b12 (by simp); have hce1 := (hg1.block _ hsz (by simp)).trans HC.out.2.2.2; refine Hid.out ?_)
     refine ld ?_
     go_wp2_with (with_reducible refine hold_st 2 ?_)
     refine ld ?_
     refine sg hce1 ?_
     intro w7 hh7 hg7
     go_wp2
     (try simp only [Exit.inBlock, Exit.then])
     refine br hh7 Tryz.underlying63 ?_
     obtain ⟨e1, _⟩ := Prod.mk.inj HM.out
     cases e1
     exact ⟨rfl, (HC.out.2.1.trans (Kp.of0 hg1 _)).trans' hg7 (Nat.le_refl _), fun e => by simp at e⟩
    | true =>
     rw [q1] at hm hh1
     rw [if_pos rfl] at hm
     clear q1
     cases q2 : D1.contains s with
     | true =>
      rw [q2] at hm hh2
      rw [if_pos rfl] at hm
      have HM := ld (Option.some.inj hm)
      have HH2 := ld hh2
      clear hm q2 hh2
      go_wp2_with (first | (go_at_call 51; with_reducible refine hh1.mono ?_; rintro e w1 ⟨rfl, hg1⟩; have b0 := hg1.cell b0 (by simp); have b12 := hg1.cell b12 (by simp); have b13 := hg1.cell b13 (by simp)) | (go_at_call 51; refine (HH2.out _ hg1).mono ?_; rintro e w2 ⟨rfl, hg2⟩; have b0 := hg2.cell b0 (by simp); have b12 := hg2.cell b12 (by simp); have hce1 := ((hg1.trans hg2).block _ hsz (by simp)).trans HC.out.2.2.2; refine Hid.out ?_))
      refine ld ?_
      go_wp2_with (with_reducible refine hold_st 2 ?_)
      refine ld ?_
      refine sg hce1 ?_
      intro w7 hh7 hg7
      go_wp2
      (try simp only [Exit.inBlock, Exit.then])
      refine br hh7 Tryz.underlying63 ?_
      obtain ⟨e1, _⟩ := Prod.mk.inj HM.out
      cases e1
      exact ⟨rfl, (HC.out.2.1.trans (Kp.of0 (hg1.trans hg2) _)).trans' hg7 (Nat.le_refl _), fun e => by simp at e⟩
     | false =>
      rw [q2] at hm hh2
      rw [if_neg (by decide)] at hm
      have hh3 := fun V (hV : wr.grownBy V none) => add_any db D1.length D1 s HS.out.1 q2 (by omega) V (HC.out.2.2.1.kept hV)
      unfold strV at hh3
      have HM := ld hm
      have HH2 := ld hh2
      have HH3 := ld hh3
      clear hm q2 hh2 hh3
      go_wp2_with (first | (go_at_call 51; with_reducible refine hh1.mono ?_; rintro e w1 ⟨rfl, hg1⟩; have b0 := hg1.cell b0 (by simp); have b13 := hg1.cell b13 (by simp)) | (go_at_call 51; refine (HH2.out _ hg1).mono ?_; rintro e w2 ⟨rfl, hg2⟩; have b13 := hg2.cell b13 (by simp); have hg12 := hg1.trans hg2) | (go_at_call 57; refine (HH3.out _ hg12).mono ?_; rintro e w3 ⟨rfl, hset3, hg3⟩))
      have hk3 : Kp [db] wr w3 := (Kp.of0 hg12 _).trans (Kp.of hg3 _ (fun k e _ => by cases e; simp))
      refine ⟨⟨t + 1, D1 ++ [s], by omega, by go_num, ld ⟨HC.out.2.1.trans hk3, by rw [List.length_append]; exact hset3, hk3.at HC.out.2.2.2 (by simp; omega), HM.out⟩⟩, by simp [intOf]; omega⟩
   ·rw [if_neg hs] at hm; cases hm
  ·have e : t = nn := by omega
   subst e
   rw [List.drop_eq_nil_of_le (by rw [← HL.out]; exact Nat.le_refl _)] at hm
   unfold Nam.eqNames at hm
   have HM := ld (Option.some.inj hm)
   clear hm
   go_wp2_with (with_reducible refine hold_st 2 ?_)
   refine ld ?_
   refine sg hcell ?_
   intro w7 hh7 hg7
   go_wp2
   (try simp only [Exit.inBlock, Exit.then])
   refine br hh7 Tryz.underlying63 ?_
   obtain ⟨e1, e2⟩ := Prod.mk.inj HM.out
   cases e1
   cases e2
   exact ⟨rfl, hkp.trans' hg7 (Nat.le_refl _), fun _ => hset.keptK (Kp.of hg7 [w.heap.size] (fun i e _ => by cases e; simp)) (by simp; omega)⟩
theorem lValue_any (A : Adr) (w0 w : World) (st : St) (lb db : Nat) (na ka qa : Option Addr) (nn nc kn kc qn qc : Nat) (f1 s1 tk1 tl1 n1 m1 a1 at_ : Int) (nm1 : List UInt8) (ks1 : List Gram.Exp) (h : Ck w0 w A st) (hlb : w.heap[lb]? = some (.cells #[.pointer (some ⟨A.c, 0, none⟩), .slice na nn nc, .int .i64 f1, .int .i64 s1, .string ⟨nm1.toArray⟩, .int .i64 tk1, .int .i64 tl1, .int .i64 n1, .int .i64 m1, .slice ka kn kc, .int .i64 a1, .slice qa qn qc, .int .i64 at_, .map (some db)] 115 (0, 0))) (hk : KidsX w0 0 [] ks1 (.slice ka kn kc)) (ra re : Int) (hr : Nam.expression st (.mk f1 s1 nm1 tk1 tl1 n1 m1 ks1 a1) = some (ra, re)) :
  Calls Tryz.prog 82 #[.pointer (some ⟨lb, 0, none⟩)] w fun e w' => e = .returned (.agg #[.int .i64 ra, .int .i64 re]) ∧ w.grownBy w' none := by
 obtain ⟨W1, hW1⟩ : ∃ W1, W1 = w.alloc fo := ⟨_, rfl⟩
 have hg1 : w.grownBy W1.drew none := by rw [hW1]; exact gdrew (ga w fo none)
 have hce : W1.drew.heap[w.heap.size]? = some fo := by rw [hW1]; exact heap_alloc_new w fo
 have hll := (gl hlb)
 have hS0 : (fun W' => W'.heap[lb]? = some (.cells #[.pointer (some ⟨A.c, 0, none⟩), .slice na nn nc, .int .i64 f1, .int .i64 s1, .string ⟨nm1.toArray⟩, .int .i64 tk1, .int .i64 tl1, .int .i64 n1, .int .i64 m1, .slice ka kn kc, .int .i64 a1, .slice qa qn qc, .int .i64 at_, .map (some db)] 115 (0, 0))) W1.drew := (hg1.block _ hll (by simp)).trans hlb
 have hcall := expression_any A st w0 (.mk f1 s1 nm1 tk1 tl1 n1 m1 ks1 a1) ka kn kc hk W1.drew (h.kept hg1) (ra, re) hr
 simp only [fv, expCells] at hcall
 have HF := ld hW1
 have HG := ld hg1
 clear hW1 hg1 hlb h hr hk
 go_enter Tryz.func82, Tryz.ntmps82
 go_wp2
 rw [show (Obj.cells #[Value.int .i64 0, Value.int .i64 0] 63) = fo from rfl, ← HF.out]
 refine wp_region_L2 (S := fun W' => W'.heap[lb]? = some (.cells #[.pointer (some ⟨A.c, 0, none⟩), .slice na nn nc, .int .i64 f1, .int .i64 s1, .string ⟨nm1.toArray⟩, .int .i64 tk1, .int .i64 tl1, .int .i64 n1, .int .i64 m1, .slice ka kn kc, .int .i64 a1, .slice qa qn qc, .int .i64 at_, .map (some db)] 115 (0, 0))) (by kernel_rfl) ?_
 clear HF
 refine t1 0 3 (.pointer (some ⟨lb, 0, none⟩)) hS0 ?_
 (try simp only [Act.put, sA, sB, sC])
 refine t1 1 4 (.pointer (some ⟨lb, 0, none⟩)) hS0 ?_
 (try simp only [Act.put, sA, sB, sC])
 refine t1 2 5 (.pointer (some ⟨lb, 0, none⟩)) hS0 ?_
 (try simp only [Act.put, sA, sB, sC])
 refine t2 3 6 (.pointer (some ⟨A.c, 0, none⟩)) (fun w' hw' => ?_) hS0 ?_
 ·have hc0 := cell_of_row w' _ 0 _ _ _ (hw'); clear hw'; go_simp
 (try simp only [Act.put, sA, sB, sC])
 refine t1 4 7 (.pointer (some ⟨lb, 0, none⟩)) hS0 ?_
 (try simp only [Act.put, sA, sB, sC])
 refine t1 5 8 (.pointer (some ⟨lb, 0, none⟩)) hS0 ?_
 (try simp only [Act.put, sA, sB, sC])
 refine t1 6 9 (.pointer (some ⟨lb, 1, none⟩)) hS0 ?_
 (try simp only [Act.put, sA, sB, sC])
 refine t1 7 10 (.pointer (some ⟨lb, 2, none⟩)) hS0 ?_
 (try simp only [Act.put, sA, sB, sC])
 refine t2 8 11 (.agg #[.int .i64 f1, .int .i64 s1, .string ⟨nm1.toArray⟩, .int .i64 tk1, .int .i64 tl1, .int .i64 n1, .int .i64 m1, .slice ka kn kc, .int .i64 a1]) (fun w' hw' => ?_) hS0 ?_
 ·have hc0 := cell_of_row w' _ 2 _ _ _ (hw'); have hc1 := cell_of_row w' _ 3 _ _ _ (hw'); have hc2 := cell_of_row w' _ 4 _ _ _ (hw'); have hc3 := cell_of_row w' _ 5 _ _ _ (hw'); have hc4 := cell_of_row w' _ 6 _ _ _ (hw'); have hc5 := cell_of_row w' _ 7 _ _ _ (hw'); have hc6 := cell_of_row w' _ 8 _ _ _ (hw'); have hc7 := cell_of_row w' _ 9 _ _ _ (hw'); have hc8 := cell_of_row w' _ 10 _ _ _ (hw'); clear hw'; go_simp
 (try simp only [Act.put, sA, sB, sC])
 refine wpL_call (i := 9) (d := 12) (R := fun v w' => v = .agg #[.int .i64 ra, .int .i64 re] ∧ W1.drew.grownBy w' none) (by kernel_rfl) rfl (by kernel_rfl) (by kernel_rfl) (by kernel_rfl) (hcall.mono fun e w' he => ⟨_, he.1, rfl, he.2⟩) (fun v w' h => (h.2.block _ (gl hS0) (by simp)).trans hS0) (fun v w2 h => ?_)
 rw [h.1]
 have hg2 := h.2
 have hS2 := (hg2.block _ (gl hS0) (by simp)).trans hS0
 have hce2 := (hg2.block _ (gl hce) (by simp)).trans hce
 clear h v
 (try simp only [Act.put, sA, sB, sC])
 refine wpL_store (i := 10) w.heap.size #[.int .i64 ra, .int .i64 re] _ 63 _ _ _ (by kernel_rfl) rfl (by kernel_rfl) rfl rfl rfl rfl hce2 (by kernel_rfl) rfl (by simp [Value.oneCell']) ?_
 intro w7 hh7 hg7
 refine ⟨(hg7.block _ (gl hS2) (by simp; omega)).trans hS2, ?_⟩
 (try simp only [Act.put, sA, sB, sC])
 refine wpL_done (by kernel_rfl) ?_ _
 go_wp2
 (try simp only [Exit.inBlock, Exit.then])
 refine br hh7 Tryz.underlying63 ?_
 exact ⟨rfl, (HG.out.trans hg2).andThen hg7 (fun j e => .inl (by cases e; exact Nat.le_refl _))⟩
end Go.Proofs.YtonafedbehnneaaGreat
