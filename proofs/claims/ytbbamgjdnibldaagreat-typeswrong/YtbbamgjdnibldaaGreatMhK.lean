/- My texts TcK TcL TcM TcN TcO TcP TcQ, joined. -/
import Derived.Test.YtbbamgjdnibldaaGreatMhJ
set_option linter.unusedVariables false
set_option linter.unusedSimpArgs false
set_option linter.unnecessarySimpa false
set_option linter.unusedSectionVars false
set_option maxHeartbeats 12800000
set_option maxRecDepth 20000
namespace Go.Proofs.YtbbamgjdnibldaaGreat
open Go.RowKit Go.Maps Go.WideMaps
theorem binK_wf (op k : Int) (h : (Lit.int .i64 k).wf = true) : (Lit.int .i64 (Bv.binK op k 0 0)).wf = true := by
 unfold Bv.binK Bv.toK
 split
 ·split
  ·decide
  ·exact h
 ·decide
theorem boolSet {w : World} {g : Nat} {q0 q : Bool} (h : w.heap[g]? = some (.cells #[.bool q0] 4 (0, 0))) : (w.setCell ⟨g, 0, none⟩ (.bool q)).heap[g]? = some (.cells #[.bool q] 4 (0, 0)) ∧ w.grownBy (w.setCell ⟨g, 0, none⟩ (.bool q)) (some g) := ⟨by simp [World.setCell, Array.getElem?_modify, h], grown_set w ⟨g, 0, none⟩ _⟩
theorem run_storeB {a : Act} {oi : Oper} {w : World} {g : Nat} {q0 q : Bool} (x y : Operand) (ho : oi.op = .store 4 x y) (hx : a.eval x = .pointer (some ⟨g, 0, none⟩)) (hy : a.eval y = .bool q) (h : w.heap[g]? = some (.cells #[.bool q0] 4 (0, 0))) : (execOp a.eval oi).run Tryz.prog w = .ok .skip (w.setCell ⟨g, 0, none⟩ (.bool q)) := by
 have c0 := cell_of_row w g 0 _ _ _ h
 have f0 := frozen_of_row w g 0 _ _ h
 unfold execOp
 rw [ho]
 simp only [hx, hy]
 go_simp
theorem run_storeT {a : Act} {oi : Oper} {w : World} {g : Nat} {k0 l0 k l : Int} (x y : Operand) (ho : oi.op = .store 57 x y) (hx : a.eval x = .pointer (some ⟨g, 0, none⟩)) (hy : a.eval y = .agg #[.int .i64 k, .int .i64 l]) (h : w.heap[g]? = some (.cells #[.int .i64 k0, .int .i64 l0] 57 (0, 0))) : (execOp a.eval oi).run Tryz.prog w = .ok .skip ((w.setCell ⟨g, 0, none⟩ (.int .i64 k)).setCell ⟨g, 1, none⟩ (.int .i64 l)) := by
 have c0 := cell_of_row w g 0 _ _ _ h
 have f0 := frozen_of_row w g 0 _ _ h
 have c1 := cell_of_row w g 1 _ _ _ h
 have f1 := frozen_of_row w g 1 _ _ h
 unfold execOp
 rw [ho]
 simp only [hx, hy]
 go_simp
theorem typeSet {w : World} {g : Nat} {k0 l0 k l : Int} (h : w.heap[g]? = some (.cells #[.int .i64 k0, .int .i64 l0] 57 (0, 0))) : ((w.setCell ⟨g, 0, none⟩ (.int .i64 k)).setCell ⟨g, 1, none⟩ (.int .i64 l)).heap[g]? = some (.cells #[.int .i64 k, .int .i64 l] 57 (0, 0)) ∧ w.grownBy ((w.setCell ⟨g, 0, none⟩ (.int .i64 k)).setCell ⟨g, 1, none⟩ (.int .i64 l)) (some g) := ⟨by simp [World.setCell, Array.getElem?_modify, h], (grown_set w ⟨g, 0, none⟩ _).trans (grown_set _ ⟨g, 1, none⟩ _)⟩
open Wl (sA sB sC)
theorem tr_variable (w0 w : World) (A : Aa) (N : List (List UInt8 × (Gram.Node × Nv))) (V : List (List UInt8 × Ty.T)) (cnt b : Nat) (p : Pv) (kts : List Ty.T) (h : Pc w0 w A N V cnt b p kts 0) :
  Calls Tryz.prog 43 #[.pointer (some ⟨b, 0, none⟩)] w (rPost w b p [(Ty.look V p.nm).getD (0, 0)] (Ty.mst 0 21 [(Ty.look V p.nm).isSome])) := by
 have hp := h.pt
 have hbl := gl hp
 have hG : w.grownBy w none := World.grownBy.refl _ _
 have pa0 : ∀ V c, Pt V b p c → V.cell? ⟨b, 0, none⟩ = some (.pointer (some ⟨A.c, 0, none⟩)) := fun V c hV => by have := hV.c0; rw [h.pa] at this; exact this
 have a1 := cell_of_row w _ 1 _ _ _ h.ak.cc
 have a2 := cell_of_row w _ 2 _ _ _ h.ak.cc
 have hac : A.c ≠ b := fun e => h.hb.2 (by simp [e])
 obtain ⟨t, ht⟩ : ∃ t, t = (Ty.look V p.nm).getD (0, 0) := ⟨_, rfl⟩
 obtain ⟨q, hq⟩ : ∃ q, q = (Ty.look V p.nm).isSome := ⟨_, rfl⟩
 have HLK : Hid (∀ W, w.grownBy W (some b) → (Instr.lookup 67 (.map (some A.vb)) (.string ⟨p.nm.toArray⟩) true).run Tryz.prog W = .ok (.tuple #[.agg #[.int .i64 t.1, .int .i64 t.2], .bool q]) W) := ld (fun W hW => by
  have := (h.ak.keptB hW (fun k e => by cases e; exact h.hb)).varOk p.nm h.sh
  rw [← ht, ← hq] at this
  exact this)
 rw [← ht, ← hq]
 have HPA0 := ld pa0
 have HA2 := ld a2
 have HA1 := ld a1
 have HAC := ld hac
 have HWT : Hid (wfT t) := ld (by rw [ht]; exact h.ak.wf p.nm)
 have HPT := ld hp
 clear h pa0 a1 a2 hac hG hp ht hq
 have hmf := makeFunc_run
 go_enter Tryz.func43, Tryz.ntmps43
 go_wp2
 refine wp_region_L (S := Sbt w b p) (Z := []) (by kernel_rfl) ?_
 have hS : Sbt w b p w.drew := ⟨gdrew (World.grownBy.refl _ _), _, (HPT.out).kept (gdrew (World.grownBy.refl _ _))⟩
 refine Wl.t1 0 6 (.pointer (some ⟨b, 0, none⟩)) hS ?_
 (try simp only [Act.put, sA, sB, sC])
 refine Wl.t1 1 7 (.pointer (some ⟨b, 0, none⟩)) hS ?_
 (try simp only [Act.put, sA, sB, sC])
 refine Wl.t1 2 8 (.pointer (some ⟨b, 0, none⟩)) hS ?_
 (try simp only [Act.put, sA, sB, sC])
 refine Wl.t2 3 9 (.pointer (some ⟨A.c, 0, none⟩)) (fun w' hw' => ?_) hS ?_
 ·have hc0 := HPA0.out _ _ hw'.2.choose_spec; clear hw'; go_simp
 (try simp only [Act.put, sA, sB, sC])
 refine Wl.t1 4 10 (.pointer (some ⟨A.c, 0, none⟩)) hS ?_
 (try simp only [Act.put, sA, sB, sC])
 refine Wl.t1 5 11 (.pointer (some ⟨A.c, 2, none⟩)) hS ?_
 (try simp only [Act.put, sA, sB, sC])
 refine Wl.t2 6 12 (.map (some A.vb)) (fun w' hw' => ?_) hS ?_
 ·have hc0 := hw'.1.cell HA2.out (by simp; exact HAC.out); clear hw'; go_simp
 (try simp only [Act.put, sA, sB, sC])
 refine Wl.t1 7 13 (.pointer (some ⟨b, 0, none⟩)) hS ?_
 (try simp only [Act.put, sA, sB, sC])
 refine Wl.t1 8 14 (.pointer (some ⟨b, 0, none⟩)) hS ?_
 (try simp only [Act.put, sA, sB, sC])
 refine Wl.t1 9 15 (.pointer (some ⟨b, 1, none⟩)) hS ?_
 (try simp only [Act.put, sA, sB, sC])
 refine Wl.t1 10 16 (.pointer (some ⟨b, 3, none⟩)) hS ?_
 (try simp only [Act.put, sA, sB, sC])
 refine Wl.t2 11 17 (.string ⟨p.nm.toArray⟩) (fun w' hw' => ?_) hS ?_
 ·have hc0 := hw'.2.choose_spec.c3; clear hw'; go_simp
 (try simp only [Act.put, sA, sB, sC])
 refine Wl.t2 12 18 (.tuple #[.agg #[.int .i64 t.1, .int .i64 t.2], .bool q]) (fun w' hw' => ?_) hS ?_
 ·have hl := HLK.out w' hw'.1; clear hw'; go_simp
 (try simp only [Act.put, sA, sB, sC])
 refine Wl.t1 13 5 (.tuple #[.agg #[.int .i64 t.1, .int .i64 t.2], .bool q]) hS ?_
 (try simp only [Act.put, sA, sB, sC])
 refine Wl.t1 14 19 (.agg #[.int .i64 t.1, .int .i64 t.2]) hS ?_
 (try simp only [Act.put, sA, sB, sC])
 refine Wl.t1 15 20 (.bool q) hS ?_
 (try simp only [Act.put, sA, sB, sC])
 refine wpL_l #[true, true, true, true, true, true, true, true, true, true, true, true, true, true, true, true, false, false, false, false] ?_
 refine Wl.as2 (fun x9 y9 => { tmps := #[.pointer (some ⟨b, 0, none⟩), undef, .slice none 0 0, x9, y9, .tuple #[.agg #[.int .i64 t.1, .int .i64 t.2], .bool q], .pointer (some ⟨b, 0, none⟩), .pointer (some ⟨b, 0, none⟩), .pointer (some ⟨b, 0, none⟩), .pointer (some ⟨A.c, 0, none⟩), .pointer (some ⟨A.c, 0, none⟩), .pointer (some ⟨A.c, 2, none⟩), .map (some A.vb), .pointer (some ⟨b, 0, none⟩), .pointer (some ⟨b, 0, none⟩), .pointer (some ⟨b, 1, none⟩), .pointer (some ⟨b, 3, none⟩), .string ⟨p.nm.toArray⟩, .tuple #[.agg #[.int .i64 t.1, .int .i64 t.2], .bool q], .agg #[.int .i64 t.1, .int .i64 t.2], .bool q, undef, undef, undef, undef, undef, undef], defers := [] }) (fun a9 b9 c9 d9 => #[true, true, true, true, true, true, true, true, true, true, true, true, true, true, true, true, a9, c9, b9, d9]) 16 3 18 17 4 19 (.cells #[.int .i64 0, .int .i64 0] 57 (0, 0)) (.cells #[.int .i64 t.1, .int .i64 t.2] 57 (0, 0)) (.cells #[.bool false] 4 (0, 0)) (.cells #[.bool q] 4 (0, 0)) hS (fun _ _ => by kernel_rfl) (fun _ _ => by kernel_rfl) (fun g h V hV => ⟨_, run_storeT _ _ rfl rfl rfl hV, (typeSet hV).1, (typeSet hV).2⟩) (fun g h V hV => ⟨_, run_storeB _ _ rfl rfl rfl hV, (boolSet hV).1, (boolSet hV).2⟩) (fun _ _ _ => rfl) (fun _ _ _ => rfl) (fun _ _ _ _ => rfl) (fun _ _ _ _ => rfl) (fun _ _ _ _ => rfl) (fun _ _ _ _ => rfl) ?_ (hk1 := rfl) (hm1 := rfl) (hk2 := rfl) (hm2 := rfl) (hSk := Sbt.k2 w b p hbl)
 intro g3 g4 w1 hh3 hh4 l3 l4 hne hg1 hS
 refine wpL_done (by kernel_rfl) ?_ _
 have hG1 : w.grownBy w1 none := (gdrew (World.grownBy.refl _ _)).trans hg1
 have hal := ga w1 (.cells #[.func (.func 71) #[] #[.pointer (some ⟨g4, 0, none⟩)]] 125 (0, 0)) none
 have hmu := tmust_any (w1.alloc (.cells #[.func (.func 71) #[] #[.pointer (some ⟨g4, 0, none⟩)]] 125)) b p 0 21 (HPT.out.kept (hG1.trans hal)) (by decide) w1.heap.size 1 [.func (.func 71) #[] #[.pointer (some ⟨g4, 0, none⟩)]] [q] rfl rfl (by decide) (heap_alloc_new _ _) (by have := hG1.size; omega) (fun _ => dems1 ((tok_variable w1 g4 q (cell_of_row _ _ 0 _ _ _ hh4)).kept hal))
 have HT3 := ld (And.intro ((hal.block _ (gl hh3) (by simp)).trans hh3) (And.intro (show g3 ≠ b by have l3' : w.heap.size ≤ g3 := l3; omega) (hG1.trans hal)))
 clear hal hh3 hh4 l3 l4 hne hg1 hS hG1
 go_wp2_with (go_at_call 70; refine hmu.mono ?_; rintro e w2 ⟨rfl, hp2, hg2⟩; refine Hid.out ?_)
 have h3 := (hg2.block g3 (gl HT3.out.1) (by simp; exact HT3.out.2.1)).trans HT3.out.1
 have y0 := cell_of_row _ _ 0 _ _ _ h3
 have y1 := cell_of_row _ _ 1 _ _ _ h3
 have HP2 := ld (And.intro hp2 ((grown_some HT3.out.2.2 b).trans hg2))
 clear hp2 hg2 h3 hmu
 refine ld ?_
 go_wp2_with (go_at_call 69; refine (tone_any _ _ _).mono ?_; rintro e w3 ⟨g, rfl, ht, hg⟩)
 go_ret
 exact rOne HP2.out.1 HP2.out.2 hg ht (fun _ => HWT.out)
theorem tr_unary (w0 w : World) (A : Aa) (N : List (List UInt8 × (Gram.Node × Nv))) (V : List (List UInt8 × Ty.T)) (cnt b : Nat) (p : Pv) (z : Ty.T) (zs : List Ty.T) (h : Pc w0 w A N V cnt b p (z :: zs) 0) :
  Calls Tryz.prog 44 #[.pointer (some ⟨b, 0, none⟩)] w (rPost w b p [z] (Ty.mst 0 22 [(z :: zs).all Ty.scal, Bv.unB p.s z.1 0])) := by
 have hp := h.pt
 have hbl := gl hp
 have hG : w.grownBy w none := World.grownBy.refl _ _
 have pa0 : ∀ V c, Pt V b p c → V.cell? ⟨b, 0, none⟩ = some (.pointer (some ⟨A.c, 0, none⟩)) := fun V c hV => by have := hV.c0; rw [h.pa] at this; exact this
 have a1 := cell_of_row w _ 1 _ _ _ h.ak.cc
 have a2 := cell_of_row w _ 2 _ _ _ h.ak.cc
 have hac : A.c ≠ b := fun e => h.hb.2 (by simp [e])
 obtain ⟨gk, ok, hgk, hka, z0, z1⟩ := h.k0
 have pk : ∀ V c, Pt V b p c → V.cell? ⟨b, 10, none⟩ = some (.slice (some ⟨gk, ok, none⟩) (zs.length + 1) p.kc) := fun V c hV => by have := hV.c10; rw [hka, h.kn] at this; exact this
 have H := ld h
 have HPK := ld pk
 have HZ0 := ld (And.intro z0 z1)
 have HZ := ld hgk
 have HPT := ld hp
 have HKM := ld (show zs.length + 1 ≤ 1000000 by have := h.km; have := h.kn; simp at this; omega)
 have HKL : Hid (TyL w (some ⟨gk, ok, none⟩) (z :: zs)) := ld (hka ▸ h.kl)
 clear h pa0 a1 a2 hac z0 z1 hka hgk hG hp
 have hmf := makeFunc_run
 go_enter Tryz.func44, Tryz.ntmps44
 go_wp2
 refine wp_region_L (S := Sbt w b p) (Z := []) (by kernel_rfl) ?_
 have hS : Sbt w b p w.drew := ⟨gdrew (World.grownBy.refl _ _), _, (HPT.out).kept (gdrew (World.grownBy.refl _ _))⟩
 refine Wl.t1 0 6 (.pointer (some ⟨b, 0, none⟩)) hS ?_
 (try simp only [Act.put, sA, sB, sC])
 refine Wl.t1 1 7 (.pointer (some ⟨b, 0, none⟩)) hS ?_
 (try simp only [Act.put, sA, sB, sC])
 refine Wl.t1 2 8 (.pointer (some ⟨b, 1, none⟩)) hS ?_
 (try simp only [Act.put, sA, sB, sC])
 refine Wl.t1 3 9 (.pointer (some ⟨b, 2, none⟩)) hS ?_
 (try simp only [Act.put, sA, sB, sC])
 refine Wl.t2 4 10 (.int .i64 p.s) (fun w' hw' => ?_) hS ?_
 ·have hc0 := hw'.2.choose_spec.c2; clear hw'; go_simp
 (try simp only [Act.put, sA, sB, sC])
 refine Wl.t1 5 11 (.pointer (some ⟨b, 0, none⟩)) hS ?_
 (try simp only [Act.put, sA, sB, sC])
 refine Wl.t1 6 12 (.pointer (some ⟨b, 0, none⟩)) hS ?_
 (try simp only [Act.put, sA, sB, sC])
 refine Wl.t1 7 13 (.pointer (some ⟨b, 10, none⟩)) hS ?_
 (try simp only [Act.put, sA, sB, sC])
 refine Wl.t2 8 14 (.slice (some ⟨gk, ok, none⟩) (zs.length + 1) p.kc) (fun w' hw' => ?_) hS ?_
 ·have hc0 := pk _ _ hw'.2.choose_spec; clear hw'; go_simp
 (try simp only [Act.put, sA, sB, sC])
 refine Wl.t2 9 15 (.pointer (some ⟨gk, ok, none⟩)) (fun w' hw' => ?_) hS ?_
 ·clear hw'; go_simp; (try (intro h9; exfalso; omega))
 (try simp only [Act.put, sA, sB, sC])
 refine Wl.t1 10 16 (.pointer (some ⟨gk, ok, none⟩)) hS ?_
 (try simp only [Act.put, sA, sB, sC])
 refine Wl.t2 11 17 (.int .i64 z.1) (fun w' hw' => ?_) hS ?_
 ·have hc0 := hw'.1.cell HZ0.out.1 (by simp; exact HZ.out); clear hw'; go_simp
 (try simp only [Act.put, sA, sB, sC])
 refine Wl.mid (f := 2) (n := 5) (fun V g => V.heap[g]? = some (.cells #[.bool false] 4 (0, 0)) ∧ w.heap.size ≤ g ∧ w.drew.grownBy V none) #[true, true, true, true, true, true, true, true, true, true, true, true, true, true, true, true, true, false, false] (fun g4 => { tmps := #[.pointer (some ⟨b, 0, none⟩), undef, .slice none 0 0, undef, .pointer (some ⟨g4, 0, none⟩), .tuple #[.int .i64 (Bv.unN p.s z.1 0), .bool (Bv.unB p.s z.1 0)], .pointer (some ⟨b, 0, none⟩), .pointer (some ⟨b, 0, none⟩), .pointer (some ⟨b, 1, none⟩), .pointer (some ⟨b, 2, none⟩), .int .i64 p.s, .pointer (some ⟨b, 0, none⟩), .pointer (some ⟨b, 0, none⟩), .pointer (some ⟨b, 10, none⟩), .slice (some ⟨gk, ok, none⟩) (zs.length + 1) p.kc, .pointer (some ⟨gk, ok, none⟩), .pointer (some ⟨gk, ok, none⟩), .int .i64 z.1, .tuple #[.int .i64 (Bv.unN p.s z.1 0), .bool (Bv.unB p.s z.1 0)], .int .i64 (Bv.unN p.s z.1 0), .bool (Bv.unB p.s z.1 0), undef, undef, undef, undef, undef, undef, undef, undef, undef, undef, undef, undef, undef, undef, undef, undef], defers := [] }) ?_ (fun tail => ?_)
 rotate_left
 ·refine Wl.wpL_both (i := 12) (j := 16) (by kernel_rfl) ?_ ?_
  ·refine Wl.wpOp_call (d := 18) (g := 72) (args := #[.int .i64 p.s, .int .i64 z.1, .int .i64 0]) (R := fun v V => v = .tuple #[.int .i64 (Bv.unN p.s z.1 0), .bool (Bv.unB p.s z.1 0)] ∧ w.drew.grownBy V none) rfl (by kernel_rfl) (by kernel_rfl) (by kernel_rfl) ((un_any p.s z.1 0 _).mono (by rintro e w' ⟨rfl, hg⟩; exact ⟨_, rfl, rfl, grown_of_below hg⟩)) ?_
   rintro v V ⟨rfl, hV⟩
   have hS := Sbt.k w b p _ _ hS hV
   refine ⟨fun _ => hS, ?_⟩
   (try simp only [Act.put, sA, sB, sC])
   refine Wl.t1 13 5 (.tuple #[.int .i64 (Bv.unN p.s z.1 0), .bool (Bv.unB p.s z.1 0)]) hS ?_
   (try simp only [Act.put, sA, sB, sC])
   refine Wl.t1 14 19 (.int .i64 (Bv.unN p.s z.1 0)) hS ?_
   (try simp only [Act.put, sA, sB, sC])
   refine Wl.t1 15 20 (.bool (Bv.unB p.s z.1 0)) hS ?_
   (try simp only [Act.put, sA, sB, sC])
   refine Wl.vg 16 4 (.pointer (some ⟨V.heap.size, 0, none⟩)) (V.alloc (.cells #[.bool false] 4 (0, 0))) hS (ga _ _ none) ?_ (hSk := Sbt.k _ _ _)
   intro hS
   (try simp only [Act.put, sA, sB, sC])
   exact wpL_l _ (tail _ _ ⟨heap_alloc_new V _, hV.size, hV.trans (ga _ _ none)⟩)
  ·refine Wl.wpOp_val (d := 4) (v := .pointer (some ⟨w.drew.heap.size, 0, none⟩)) (w' := w.drew.alloc (.cells #[.bool false] 4 (0, 0))) rfl (by kernel_rfl) (by kernel_rfl) (by kernel_rfl) ?_
   have hgd := ga w.drew (.cells #[.bool false] 4 (0, 0)) none
   have hS := Sbt.k w b p _ _ hS hgd
   refine ⟨fun _ => hS, ?_⟩
   (try simp only [Act.put, sA, sB, sC])
   refine Wl.cg (R := fun v V => v = .tuple #[.int .i64 (Bv.unN p.s z.1 0), .bool (Bv.unB p.s z.1 0)]) 12 18 72 #[.int .i64 p.s, .int .i64 z.1, .int .i64 0] hS ((un_any p.s z.1 0 _).mono (by rintro e w' ⟨rfl, hg⟩; exact ⟨_, rfl, rfl, grown_of_below hg⟩)) ?_ (hSk := Sbt.k _ _ _)
   rintro v V rfl hV hS
   (try simp only [Act.put, sA, sB, sC])
   refine Wl.t1 13 5 (.tuple #[.int .i64 (Bv.unN p.s z.1 0), .bool (Bv.unB p.s z.1 0)]) hS ?_
   (try simp only [Act.put, sA, sB, sC])
   refine Wl.t1 14 19 (.int .i64 (Bv.unN p.s z.1 0)) hS ?_
   (try simp only [Act.put, sA, sB, sC])
   refine Wl.t1 15 20 (.bool (Bv.unB p.s z.1 0)) hS ?_
   (try simp only [Act.put, sA, sB, sC])
   exact wpL_l _ (tail _ _ ⟨Wl.heap_put (heap_alloc_new w.drew _) hV (by simp), Nat.le_refl _, hgd.trans hV⟩)
 rintro w1 g4 ⟨hh, hl, hg1⟩
 have hS := Sbt.k w b p _ _ hS hg1
 (try simp only [Act.put, sA, sB, sC])
 refine Wl.t1 17 3 (.int .i64 (Bv.unN p.s z.1 0)) hS ?_
 (try simp only [Act.put, sA, sB, sC])
 have hst := boolSet (q := Bv.unB p.s z.1 0) hh
 have hS2 := Sbt.k2 w b p hbl _ _ _ hS hst.2 (fun k e => by cases e; exact hl)
 refine Wl.sk 18 (w1.setCell ⟨g4, 0, none⟩ (.bool (Bv.unB p.s z.1 0))) (run_storeB _ _ rfl rfl rfl hh) hS2 ?_
 (try simp only [Act.put, sA, sB, sC])
 refine wpL_done (by kernel_rfl) ?_ _
 obtain ⟨w2, hw2⟩ : ∃ w2, w2 = w1.setCell ⟨g4, 0, none⟩ (.bool (Bv.unB p.s z.1 0)) := ⟨_, rfl⟩
 rw [← hw2] at hst hS2 ⊢
 have hG2 : w.grownBy w2 none := ((gdrew (World.grownBy.refl _ _)).trans hg1).andThen hst.2 (fun j e => .inl (by cases e; exact hl))
 have e10 := pk _ _ (HPT.out.kept hG2)
 have hsm := tall_any w2 (some ⟨gk, ok, none⟩) (zs.length + 1) p.kc (z :: zs) rfl HKM.out (HKL.out.kept hG2) 74 Ty.scal (enters_of Tryz.func74 (by kernel_rfl) rfl) (fun k l V => tisScalar_any k l V)
 have HST := ld (And.intro hst.1 hG2)
 clear hst hS2 hS hg1 hl hh hw2 hG2
 go_wp2_with (go_at_call 73; refine hsm.mono ?_; rintro e w3 ⟨v, rfl, hd, hg3⟩; obtain ⟨F1, q1, rfl⟩ := hd.form; refine Hid.out ?_)
 have hal := ga w3 (.cells #[.func (.func F1) #[] q1, .func (.func 75) #[] #[.pointer (some ⟨g4, 0, none⟩)]] 125 (0, 0)) none
 have hmu := tmust_any (w3.alloc (.cells #[.func (.func F1) #[] q1, .func (.func 75) #[] #[.pointer (some ⟨g4, 0, none⟩)]] 125)) b p 0 22 (HPT.out.kept ((HST.out.2.trans hg3).trans hal)) (by decide) w3.heap.size 2 [.func (.func F1) #[] q1, .func (.func 75) #[] #[.pointer (some ⟨g4, 0, none⟩)]] [(z :: zs).all Ty.scal, Bv.unB p.s z.1 0] rfl rfl (by decide) (heap_alloc_new _ _) (by have := (HST.out.2.trans hg3).size; omega) (fun _ => dems2 (hd.kept hal) ((tok_unary w2 g4 _ (cell_of_row _ _ 0 _ _ _ HST.out.1)).kept (hg3.trans hal)))
 have HG := ld ((HST.out.2.trans hg3).trans hal)
 clear hal hg3 hd hsm e10
 refine ld ?_
 go_wp2_with (go_at_call 70; refine hmu.mono ?_; rintro e w1b ⟨rfl, hp1, hg1b⟩; refine Hid.out ?_)
 have hgw1 := (grown_some HG.out b).trans hg1b
 clear hg1b hmu
 refine ld ?_
 have x10 := pk _ _ hp1
 have x0 := hgw1.cell HZ0.out.1 (by simp; exact HZ.out)
 have x1 := hgw1.cell HZ0.out.2 (by simp; exact HZ.out)
 have HP2 := ld (And.intro hp1 hgw1)
 clear hp1 hgw1 pk
 go_wp2_with (go_at_call 69; refine (tone_any _ _ _).mono ?_; rintro e w3 ⟨g, rfl, ht, hg⟩)
 go_ret
 exact rOne HP2.out.1 HP2.out.2 hg ht (fun _ => H.out.kw z (by simp))
theorem tr_binary (w0 w : World) (A : Aa) (N : List (List UInt8 × (Gram.Node × Nv))) (V : List (List UInt8 × Ty.T)) (cnt b : Nat) (p : Pv) (z : Ty.T) (zs : List Ty.T) (h : Pc w0 w A N V cnt b p (z :: zs) 0) :
  Calls Tryz.prog 45 #[.pointer (some ⟨b, 0, none⟩)] w (rPost w b p [(Bv.binK p.s z.1 0 0, 0)] (Ty.mst 0 22 [(z :: zs).all Ty.scal, Ty.same (z :: zs), Bv.binB p.s z.1 0 0])) := by
 have hp := h.pt
 have hbl := gl hp
 have hG : w.grownBy w none := World.grownBy.refl _ _
 have pa0 : ∀ V c, Pt V b p c → V.cell? ⟨b, 0, none⟩ = some (.pointer (some ⟨A.c, 0, none⟩)) := fun V c hV => by have := hV.c0; rw [h.pa] at this; exact this
 have a1 := cell_of_row w _ 1 _ _ _ h.ak.cc
 have a2 := cell_of_row w _ 2 _ _ _ h.ak.cc
 have hac : A.c ≠ b := fun e => h.hb.2 (by simp [e])
 obtain ⟨gk, ok, hgk, hka, z0, z1⟩ := h.k0
 have pk : ∀ V c, Pt V b p c → V.cell? ⟨b, 10, none⟩ = some (.slice (some ⟨gk, ok, none⟩) (zs.length + 1) p.kc) := fun V c hV => by have := hV.c10; rw [hka, h.kn] at this; exact this
 have H := ld h
 have HPK := ld pk
 have HZ0 := ld (And.intro z0 z1)
 have HZ := ld hgk
 have HPT := ld hp
 have HKM := ld (show zs.length + 1 ≤ 1000000 by have := h.km; have := h.kn; simp at this; omega)
 have HKL : Hid (TyL w (some ⟨gk, ok, none⟩) (z :: zs)) := ld (hka ▸ h.kl)
 clear h pa0 a1 a2 hac z0 z1 hka hgk hG hp
 have hmf := makeFunc_run
 go_enter Tryz.func45, Tryz.ntmps45
 go_wp2
 refine wp_region_L (S := Sbt w b p) (Z := []) (by kernel_rfl) ?_
 have hS : Sbt w b p w.drew := ⟨gdrew (World.grownBy.refl _ _), _, (HPT.out).kept (gdrew (World.grownBy.refl _ _))⟩
 refine Wl.t1 0 7 (.pointer (some ⟨b, 0, none⟩)) hS ?_
 (try simp only [Act.put, sA, sB, sC])
 refine Wl.t1 1 8 (.pointer (some ⟨b, 0, none⟩)) hS ?_
 (try simp only [Act.put, sA, sB, sC])
 refine Wl.t1 2 9 (.pointer (some ⟨b, 1, none⟩)) hS ?_
 (try simp only [Act.put, sA, sB, sC])
 refine Wl.t1 3 10 (.pointer (some ⟨b, 2, none⟩)) hS ?_
 (try simp only [Act.put, sA, sB, sC])
 refine Wl.t2 4 11 (.int .i64 p.s) (fun w' hw' => ?_) hS ?_
 ·have hc0 := hw'.2.choose_spec.c2; clear hw'; go_simp
 (try simp only [Act.put, sA, sB, sC])
 refine Wl.t1 5 12 (.pointer (some ⟨b, 0, none⟩)) hS ?_
 (try simp only [Act.put, sA, sB, sC])
 refine Wl.t1 6 13 (.pointer (some ⟨b, 0, none⟩)) hS ?_
 (try simp only [Act.put, sA, sB, sC])
 refine Wl.t1 7 14 (.pointer (some ⟨b, 10, none⟩)) hS ?_
 (try simp only [Act.put, sA, sB, sC])
 refine Wl.t2 8 15 (.slice (some ⟨gk, ok, none⟩) (zs.length + 1) p.kc) (fun w' hw' => ?_) hS ?_
 ·have hc0 := pk _ _ hw'.2.choose_spec; clear hw'; go_simp
 (try simp only [Act.put, sA, sB, sC])
 refine Wl.t2 9 16 (.pointer (some ⟨gk, ok, none⟩)) (fun w' hw' => ?_) hS ?_
 ·clear hw'; go_simp; (try (intro h9; exfalso; omega))
 (try simp only [Act.put, sA, sB, sC])
 refine Wl.t1 10 17 (.pointer (some ⟨gk, ok, none⟩)) hS ?_
 (try simp only [Act.put, sA, sB, sC])
 refine Wl.t2 11 18 (.int .i64 z.1) (fun w' hw' => ?_) hS ?_
 ·have hc0 := hw'.1.cell HZ0.out.1 (by simp; exact HZ.out); clear hw'; go_simp
 (try simp only [Act.put, sA, sB, sC])
 refine Wl.mid (f := 3) (n := 6) (fun V g => V.heap[g]? = some (.cells #[.bool false] 4 (0, 0)) ∧ w.heap.size ≤ g ∧ w.drew.grownBy V none) #[true, true, true, true, true, true, true, true, true, true, true, true, true, true, true, true, true, true, false, false, false] (fun g5 => { tmps := #[.pointer (some ⟨b, 0, none⟩), undef, .slice none 0 0, undef, undef, .pointer (some ⟨g5, 0, none⟩), .tuple #[.int .i64 (Bv.binN p.s z.1 0 0), .int .i64 (Bv.binK p.s z.1 0 0), .bool (Bv.binB p.s z.1 0 0)], .pointer (some ⟨b, 0, none⟩), .pointer (some ⟨b, 0, none⟩), .pointer (some ⟨b, 1, none⟩), .pointer (some ⟨b, 2, none⟩), .int .i64 p.s, .pointer (some ⟨b, 0, none⟩), .pointer (some ⟨b, 0, none⟩), .pointer (some ⟨b, 10, none⟩), .slice (some ⟨gk, ok, none⟩) (zs.length + 1) p.kc, .pointer (some ⟨gk, ok, none⟩), .pointer (some ⟨gk, ok, none⟩), .int .i64 z.1, .tuple #[.int .i64 (Bv.binN p.s z.1 0 0), .int .i64 (Bv.binK p.s z.1 0 0), .bool (Bv.binB p.s z.1 0 0)], .int .i64 (Bv.binN p.s z.1 0 0), .int .i64 (Bv.binK p.s z.1 0 0), .bool (Bv.binB p.s z.1 0 0), undef, undef, undef, undef, undef, undef, undef, undef, undef, undef, undef, undef, undef, undef, undef, undef, undef], defers := [] }) ?_ (fun tail => ?_)
 rotate_left
 ·refine Wl.wpL_both (i := 12) (j := 17) (by kernel_rfl) ?_ ?_
  ·refine Wl.wpOp_call (d := 19) (g := 76) (args := #[.int .i64 p.s, .int .i64 z.1, .int .i64 0, .int .i64 0]) (R := fun v V => v = .tuple #[.int .i64 (Bv.binN p.s z.1 0 0), .int .i64 (Bv.binK p.s z.1 0 0), .bool (Bv.binB p.s z.1 0 0)] ∧ w.drew.grownBy V none) rfl (by kernel_rfl) (by kernel_rfl) (by kernel_rfl) ((bin_any p.s z.1 0 0 ⟨by decide, by decide⟩ _).mono (by rintro e w' ⟨rfl, hg⟩; exact ⟨_, rfl, rfl, grown_of_below hg⟩)) ?_
   rintro v V ⟨rfl, hV⟩
   have hS := Sbt.k w b p _ _ hS hV
   refine ⟨fun _ => hS, ?_⟩
   (try simp only [Act.put, sA, sB, sC])
   refine Wl.t1 13 6 (.tuple #[.int .i64 (Bv.binN p.s z.1 0 0), .int .i64 (Bv.binK p.s z.1 0 0), .bool (Bv.binB p.s z.1 0 0)]) hS ?_
   (try simp only [Act.put, sA, sB, sC])
   refine Wl.t1 14 20 (.int .i64 (Bv.binN p.s z.1 0 0)) hS ?_
   (try simp only [Act.put, sA, sB, sC])
   refine Wl.t1 15 21 (.int .i64 (Bv.binK p.s z.1 0 0)) hS ?_
   (try simp only [Act.put, sA, sB, sC])
   refine Wl.t1 16 22 (.bool (Bv.binB p.s z.1 0 0)) hS ?_
   (try simp only [Act.put, sA, sB, sC])
   refine Wl.vg 17 5 (.pointer (some ⟨V.heap.size, 0, none⟩)) (V.alloc (.cells #[.bool false] 4 (0, 0))) hS (ga _ _ none) ?_ (hSk := Sbt.k _ _ _)
   intro hS
   (try simp only [Act.put, sA, sB, sC])
   exact wpL_l _ (tail _ _ ⟨heap_alloc_new V _, hV.size, hV.trans (ga _ _ none)⟩)
  ·refine Wl.wpOp_val (d := 5) (v := .pointer (some ⟨w.drew.heap.size, 0, none⟩)) (w' := w.drew.alloc (.cells #[.bool false] 4 (0, 0))) rfl (by kernel_rfl) (by kernel_rfl) (by kernel_rfl) ?_
   have hgd := ga w.drew (.cells #[.bool false] 4 (0, 0)) none
   have hS := Sbt.k w b p _ _ hS hgd
   refine ⟨fun _ => hS, ?_⟩
   (try simp only [Act.put, sA, sB, sC])
   refine Wl.cg (R := fun v V => v = .tuple #[.int .i64 (Bv.binN p.s z.1 0 0), .int .i64 (Bv.binK p.s z.1 0 0), .bool (Bv.binB p.s z.1 0 0)]) 12 19 76 #[.int .i64 p.s, .int .i64 z.1, .int .i64 0, .int .i64 0] hS ((bin_any p.s z.1 0 0 ⟨by decide, by decide⟩ _).mono (by rintro e w' ⟨rfl, hg⟩; exact ⟨_, rfl, rfl, grown_of_below hg⟩)) ?_ (hSk := Sbt.k _ _ _)
   rintro v V rfl hV hS
   (try simp only [Act.put, sA, sB, sC])
   refine Wl.t1 13 6 (.tuple #[.int .i64 (Bv.binN p.s z.1 0 0), .int .i64 (Bv.binK p.s z.1 0 0), .bool (Bv.binB p.s z.1 0 0)]) hS ?_
   (try simp only [Act.put, sA, sB, sC])
   refine Wl.t1 14 20 (.int .i64 (Bv.binN p.s z.1 0 0)) hS ?_
   (try simp only [Act.put, sA, sB, sC])
   refine Wl.t1 15 21 (.int .i64 (Bv.binK p.s z.1 0 0)) hS ?_
   (try simp only [Act.put, sA, sB, sC])
   refine Wl.t1 16 22 (.bool (Bv.binB p.s z.1 0 0)) hS ?_
   (try simp only [Act.put, sA, sB, sC])
   exact wpL_l _ (tail _ _ ⟨Wl.heap_put (heap_alloc_new w.drew _) hV (by simp), Nat.le_refl _, hgd.trans hV⟩)
 rintro w1 g5 ⟨hh, hl, hg1⟩
 have hS := Sbt.k w b p _ _ hS hg1
 (try simp only [Act.put, sA, sB, sC])
 refine Wl.t1 18 3 (.int .i64 (Bv.binN p.s z.1 0 0)) hS ?_
 (try simp only [Act.put, sA, sB, sC])
 refine Wl.t1 19 4 (.int .i64 (Bv.binK p.s z.1 0 0)) hS ?_
 (try simp only [Act.put, sA, sB, sC])
 have hst := boolSet (q := Bv.binB p.s z.1 0 0) hh
 have hS2 := Sbt.k2 w b p hbl _ _ _ hS hst.2 (fun k e => by cases e; exact hl)
 refine Wl.sk 20 (w1.setCell ⟨g5, 0, none⟩ (.bool (Bv.binB p.s z.1 0 0))) (run_storeB _ _ rfl rfl rfl hh) hS2 ?_
 (try simp only [Act.put, sA, sB, sC])
 refine wpL_done (by kernel_rfl) ?_ _
 obtain ⟨w2, hw2⟩ : ∃ w2, w2 = w1.setCell ⟨g5, 0, none⟩ (.bool (Bv.binB p.s z.1 0 0)) := ⟨_, rfl⟩
 rw [← hw2] at hst hS2 ⊢
 have hG2 : w.grownBy w2 none := ((gdrew (World.grownBy.refl _ _)).trans hg1).andThen hst.2 (fun j e => .inl (by cases e; exact hl))
 have HST := ld (And.intro hst.1 hG2)
 clear hst hS2 hS hg1 hl hh hw2 hG2
 go_wp2
 refine wp_region_L (S := Sbt w2 b p) (Z := []) (by kernel_rfl) ?_
 have hS : Sbt w2 b p w2.drew := ⟨gdrew (World.grownBy.refl _ _), _, ((HPT.out.kept HST.out.2)).kept (gdrew (World.grownBy.refl _ _))⟩
 refine Wl.t1 0 23 (.pointer (some ⟨b, 0, none⟩)) hS ?_
 (try simp only [Act.put, sA, sB, sC])
 refine Wl.t1 1 24 (.pointer (some ⟨b, 0, none⟩)) hS ?_
 (try simp only [Act.put, sA, sB, sC])
 refine Wl.t1 2 25 (.pointer (some ⟨b, 0, none⟩)) hS ?_
 (try simp only [Act.put, sA, sB, sC])
 refine Wl.t1 3 26 (.pointer (some ⟨b, 10, none⟩)) hS ?_
 (try simp only [Act.put, sA, sB, sC])
 refine Wl.t2 4 27 (.slice (some ⟨gk, ok, none⟩) (zs.length + 1) p.kc) (fun w' hw' => ?_) hS ?_
 ·have hc0 := pk _ _ hw'.2.choose_spec; clear hw'; go_simp
 (try simp only [Act.put, sA, sB, sC])
 refine Wl.t1 6 29 (.pointer (some ⟨b, 0, none⟩)) hS ?_
 (try simp only [Act.put, sA, sB, sC])
 refine Wl.t1 7 30 (.pointer (some ⟨b, 0, none⟩)) hS ?_
 (try simp only [Act.put, sA, sB, sC])
 refine Wl.t1 8 31 (.pointer (some ⟨b, 10, none⟩)) hS ?_
 (try simp only [Act.put, sA, sB, sC])
 refine Wl.t2 9 32 (.slice (some ⟨gk, ok, none⟩) (zs.length + 1) p.kc) (fun w' hw' => ?_) hS ?_
 ·have hc0 := pk _ _ hw'.2.choose_spec; clear hw'; go_simp
 (try simp only [Act.put, sA, sB, sC])
 refine Wl.t1 11 34 (.func (.func 78) #[] #[.pointer (some ⟨g5, 0, none⟩)]) hS ?_
 (try simp only [Act.put, sA, sB, sC])
 refine Wl.cg (R := fun u9 V9 => Dem V9 u9 ((z :: zs).all Ty.scal)) 5 28 73 #[.func (.func 74) #[] #[], .slice (some ⟨gk, ok, none⟩) (zs.length + 1) p.kc] hS ((tall_any _ (some ⟨gk, ok, none⟩) (zs.length + 1) p.kc (z :: zs) rfl HKM.out (HKL.out.kept (HST.out.2.trans ((gdrew (World.grownBy.refl w2 none)).trans (World.grownBy.refl _ _)))) 74 Ty.scal (enters_of Tryz.func74 (by kernel_rfl) rfl) (fun k l V => tisScalar_any k l V)).mono (by rintro e w' ⟨v, rfl, hd, hg⟩; exact ⟨v, rfl, hd, hg⟩)) ?_ (hSk := Sbt.k _ _ _)
 intro v28 w28 hd28 hg28 hS
 obtain ⟨F28, q28, rfl⟩ := hd28.form
 (try simp only [Act.put, sA, sB, sC])
 refine Wl.cg (R := fun u9 V9 => Dem V9 u9 (Ty.same (z :: zs))) 10 33 77 #[.slice (some ⟨gk, ok, none⟩) (zs.length + 1) p.kc] hS ((tsame_any _ (some ⟨gk, ok, none⟩) (zs.length + 1) p.kc (z :: zs) rfl HKM.out (HKL.out.kept (HST.out.2.trans ((gdrew (World.grownBy.refl w2 none)).trans hg28))) H.out.kw).mono (by rintro e w' ⟨v, rfl, hd, hg⟩; exact ⟨v, rfl, hd, hg⟩)) ?_ (hSk := Sbt.k _ _ _)
 intro v33 w33 hd33 hg33 hS
 obtain ⟨F33, q33, rfl⟩ := hd33.form
 (try simp only [Act.put, sA, sB, sC])
 refine Wl.vg 12 35 (.slice (some ⟨(w33).heap.size, 0, none⟩) 3 3) ((w33).alloc (.cells #[.func (.func F28) #[] q28, .func (.func F33) #[] q33, .func (.func 78) #[] #[.pointer (some ⟨g5, 0, none⟩)]] 125)) hS (ga _ _ none) ?_ (hSk := Sbt.k _ _ _)
 intro hS
 (try simp only [Act.put, sA, sB, sC])
 have hal := ga w33 (.cells #[.func (.func F28) #[] q28, .func (.func F33) #[] q33, .func (.func 78) #[] #[.pointer (some ⟨g5, 0, none⟩)]] 125 (0, 0)) none
 have hGa : w2.grownBy (w33.alloc (.cells #[.func (.func F28) #[] q28, .func (.func F33) #[] q33, .func (.func 78) #[] #[.pointer (some ⟨g5, 0, none⟩)]] 125)) none := ((gdrew (World.grownBy.refl _ _)).trans (hg28.trans hg33)).trans hal
 have hmu := tmust_any (w33.alloc (.cells #[.func (.func F28) #[] q28, .func (.func F33) #[] q33, .func (.func 78) #[] #[.pointer (some ⟨g5, 0, none⟩)]] 125)) b p 0 22 (((HPT.out.kept HST.out.2)).kept hGa) (by decide) w33.heap.size 3 [.func (.func F28) #[] q28, .func (.func F33) #[] q33, .func (.func 78) #[] #[.pointer (some ⟨g5, 0, none⟩)]] [(z :: zs).all Ty.scal, Ty.same (z :: zs), Bv.binB p.s z.1 0 0] rfl rfl (by decide) (heap_alloc_new _ _) (by have := gl ((HPT.out.kept HST.out.2)); have := (((gdrew (World.grownBy.refl _ _)).trans (hg28.trans hg33))).size; omega) (fun _ => dems3 ((hd28.kept hg33).kept hal) ((hd33).kept hal) (((tok_binary w2 g5 _ (cell_of_row _ _ 0 _ _ _ HST.out.1)).kept ((gdrew (World.grownBy.refl _ _)).trans (hg28.trans hg33))).kept hal))
 refine Wl.cs (R := fun u9 w' => u9 = .tuple #[] ∧ Pt w' b p (Ty.mst 0 22 [(z :: zs).all Ty.scal, Ty.same (z :: zs), Bv.binB p.s z.1 0 0]) ∧ (w33.alloc (.cells #[.func (.func F28) #[] q28, .func (.func F33) #[] q33, .func (.func 78) #[] #[.pointer (some ⟨g5, 0, none⟩)]] 125)).grownBy w' (some b)) 13 36 70 #[.pointer (some ⟨b, 0, none⟩), .int .i64 22, .slice (some ⟨w33.heap.size, 0, none⟩) 3 3] (hmu.mono (by rintro e w' ⟨rfl, h1, h2⟩; exact ⟨_, rfl, rfl, h1, h2⟩)) (fun v w' h => ⟨(grown_some hGa b).trans h.2.2, _, h.2.1⟩) ?_
 rintro v w1b ⟨rfl, hp1, hg9⟩
 have hgw1 := (grown_some hGa b).trans hg9
 clear hmu hal hGa hg9
 (try simp only [Act.put, sA, sB, sC])
 refine wpL_done (by kernel_rfl) ?_ _
 have HP2 := ld (And.intro hp1 ((grown_some HST.out.2 b).trans hgw1))
 clear hp1 hgw1 hS hd28 hd33 hg28 hg33 pk
 go_wp2_with (go_at_call 79; refine (tscalar_any _ _).mono ?_; rintro e w6 ⟨rfl, hg6⟩; refine Hid.out ?_)
 refine ld ?_
 go_wp2_with (go_at_call 69; refine (tone_any _ _ _).mono ?_; rintro e w3 ⟨g, rfl, ht, hg⟩)
 go_ret
 exact rOne HP2.out.1 HP2.out.2 (hg6.trans hg) ht (fun _ => ⟨binK_wf _ _ (H.out.kw z (by simp)).1, wf0, Int.le_refl 0⟩)
theorem run_storeN {a : Act} {oi : Oper} {V : World} {g : Nat} {x0 x1 x2 x3 x4 x5 y0 y1 y2 y3 y4 y5 : Value} (x y : Operand) (ho : oi.op = .store 44 x y) (hx : a.eval x = .pointer (some ⟨g, 0, none⟩)) (hy : a.eval y = .agg #[y0, y1, y2, y3, y4, y5]) (o1 : [y0, y1, y2, y3, y4, y5].all (·.oneCell') = true) (h : V.heap[g]? = some (.cells #[x0, x1, x2, x3, x4, x5] 44 (0, 0))) :
  ∃ V', (execOp a.eval oi).run Tryz.prog V = .ok .skip V' ∧ V'.heap[g]? = some (.cells #[y0, y1, y2, y3, y4, y5] 44 (0, 0)) ∧ V.grownBy V' (some g) := by
 have hin : (Tryz.prog.info? 44).map (·.size) = some 6 := by kernel_rfl
 refine ⟨V.setRow g #[y0, y1, y2, y3, y4, y5], ?_, by simp [World.setRow, Array.getElem?_modify, h], ?_⟩
 ·unfold execOp
  simp only [ho, hx, hy, Instr.storeAt, Instr.sureAddr, Sem.run_bind, Sem.run_pure, Result.andThen_ok, run_storeVar_row V g 44 44 #[x0, x1, x2, x3, x4, x5] #[y0, y1, y2, y3, y4, y5] h hin rfl (by simpa using o1)]
 ·refine ⟨rfl, rfl, rfl, by simp [World.setRow], fun k _ hk => ?_⟩
  have hne : g ≠ k := fun e => hk (by rw [e])
  simp [World.setRow, Array.getElem?_modify, hne]
theorem tcalled (w0 w : World) (A : Aa) (N : List (List UInt8 × (Gram.Node × Nv))) (V : List (List UInt8 × Ty.T)) (cnt b : Nat) (p : Pv) (kts : List Ty.T) (h : Pc w0 w A N V cnt b p kts 0) :
  Calls Tryz.prog 82 #[.pointer (some ⟨b, 0, none⟩)] w fun e w' => e = .returned (.agg (nodeOf N p.nm).2.cells) ∧ Pt w' b p (Ty.mst 0 21 [(Ty.look N p.nm).isSome]) ∧ w.grownBy w' (some b) := by
 have hp := h.pt
 have hbl := gl hp
 have hG : w.grownBy w none := World.grownBy.refl _ _
 have pa0 : ∀ V c, Pt V b p c → V.cell? ⟨b, 0, none⟩ = some (.pointer (some ⟨A.c, 0, none⟩)) := fun V c hV => by have := hV.c0; rw [h.pa] at this; exact this
 have a1 := cell_of_row w _ 1 _ _ _ h.ak.cc
 have a2 := cell_of_row w _ 2 _ _ _ h.ak.cc
 have hac : A.c ≠ b := fun e => h.hb.2 (by simp [e])
 have hga := ga w (.cells #[.string ⟨#[]⟩, .slice none 0 0, .slice none 0 0, .slice none 0 0, .slice none 0 0, .int .i64 0] 44 (0, 0)) none
 obtain ⟨v, hv⟩ : ∃ v, v = (nodeOf N p.nm).2 := ⟨_, rfl⟩
 obtain ⟨q, hq⟩ : ∃ q, q = (Ty.look N p.nm).isSome := ⟨_, rfl⟩
 have HLK : Hid (∀ W, (w.alloc (.cells #[.string ⟨#[]⟩, .slice none 0 0, .slice none 0 0, .slice none 0 0, .slice none 0 0, .int .i64 0] 44)).grownBy W (some b) → (Instr.lookup 66 (.map (some A.nb)) (.string ⟨p.nm.toArray⟩) true).run Tryz.prog W = .ok (.tuple #[.agg #[.string ⟨v.nm.toArray⟩, .slice v.ua v.un v.uc, .slice v.ta v.tn v.tc, .slice v.la v.ln v.lc, .slice v.ia v.jn v.ic, .int .i64 v.at_], .bool q]) W) := ld (fun W hW => by
  have := (((h.ak.kept hga).keptB hW (fun k e => by cases e; exact h.hb)).node p.nm h.sh).1
  rw [← hv, ← hq] at this
  exact this)
 rw [← hv, ← hq]
 have HPA0 := ld pa0
 have HA1 := ld (hga.cell a1 (by simp))
 have HAC := ld hac
 have HPT := ld (hp.kept hga)
 have HBL : Hid (b < (w.alloc (.cells #[.string ⟨#[]⟩, .slice none 0 0, .slice none 0 0, .slice none 0 0, .slice none 0 0, .int .i64 0] 44)).heap.size) := ld (by simp; omega)
 have HGA := ld hga
 have hmf := makeFunc_run
 have HRB := ld (heap_alloc_new w (.cells #[.string ⟨#[]⟩, .slice none 0 0, .slice none 0 0, .slice none 0 0, .slice none 0 0, .int .i64 0] 44 (0, 0)))
 clear h pa0 a1 a2 hac hG hp hv hq hga
 unfold Nv.cells
 go_enter Tryz.func82, Tryz.ntmps82
 go_wp2
 refine wp_region_L (S := Sbt (w.alloc (.cells #[.string ⟨#[]⟩, .slice none 0 0, .slice none 0 0, .slice none 0 0, .slice none 0 0, .int .i64 0] 44)) b p) (Z := []) (by kernel_rfl) ?_
 have hS : Sbt (w.alloc (.cells #[.string ⟨#[]⟩, .slice none 0 0, .slice none 0 0, .slice none 0 0, .slice none 0 0, .int .i64 0] 44)) b p (w.alloc (.cells #[.string ⟨#[]⟩, .slice none 0 0, .slice none 0 0, .slice none 0 0, .slice none 0 0, .int .i64 0] 44)).drew := ⟨gdrew (World.grownBy.refl _ _), _, (HPT.out).kept (gdrew (World.grownBy.refl _ _))⟩
 refine Wl.t1 0 6 (.pointer (some ⟨b, 0, none⟩)) hS ?_
 (try simp only [Act.put, sA, sB, sC])
 refine Wl.t1 1 7 (.pointer (some ⟨b, 0, none⟩)) hS ?_
 (try simp only [Act.put, sA, sB, sC])
 refine Wl.t1 2 8 (.pointer (some ⟨b, 0, none⟩)) hS ?_
 (try simp only [Act.put, sA, sB, sC])
 refine Wl.t2 3 9 (.pointer (some ⟨A.c, 0, none⟩)) (fun w' hw' => ?_) hS ?_
 ·have hc0 := HPA0.out _ _ hw'.2.choose_spec; clear hw'; go_simp
 (try simp only [Act.put, sA, sB, sC])
 refine Wl.t1 4 10 (.pointer (some ⟨A.c, 0, none⟩)) hS ?_
 (try simp only [Act.put, sA, sB, sC])
 refine Wl.t1 5 11 (.pointer (some ⟨A.c, 1, none⟩)) hS ?_
 (try simp only [Act.put, sA, sB, sC])
 refine Wl.t2 6 12 (.map (some A.nb)) (fun w' hw' => ?_) hS ?_
 ·have hc0 := hw'.1.cell HA1.out (by simp; exact HAC.out); clear hw'; go_simp
 (try simp only [Act.put, sA, sB, sC])
 refine Wl.t1 7 13 (.pointer (some ⟨b, 0, none⟩)) hS ?_
 (try simp only [Act.put, sA, sB, sC])
 refine Wl.t1 8 14 (.pointer (some ⟨b, 0, none⟩)) hS ?_
 (try simp only [Act.put, sA, sB, sC])
 refine Wl.t1 9 15 (.pointer (some ⟨b, 1, none⟩)) hS ?_
 (try simp only [Act.put, sA, sB, sC])
 refine Wl.t1 10 16 (.pointer (some ⟨b, 3, none⟩)) hS ?_
 (try simp only [Act.put, sA, sB, sC])
 refine Wl.t2 11 17 (.string ⟨p.nm.toArray⟩) (fun w' hw' => ?_) hS ?_
 ·have hc0 := hw'.2.choose_spec.c3; clear hw'; go_simp
 (try simp only [Act.put, sA, sB, sC])
 refine Wl.t2 12 18 (.tuple #[.agg #[.string ⟨v.nm.toArray⟩, .slice v.ua v.un v.uc, .slice v.ta v.tn v.tc, .slice v.la v.ln v.lc, .slice v.ia v.jn v.ic, .int .i64 v.at_], .bool q]) (fun w' hw' => ?_) hS ?_
 ·have hl := HLK.out w' hw'.1; clear hw'; go_simp
 (try simp only [Act.put, sA, sB, sC])
 refine Wl.t1 13 5 (.tuple #[.agg #[.string ⟨v.nm.toArray⟩, .slice v.ua v.un v.uc, .slice v.ta v.tn v.tc, .slice v.la v.ln v.lc, .slice v.ia v.jn v.ic, .int .i64 v.at_], .bool q]) hS ?_
 (try simp only [Act.put, sA, sB, sC])
 refine Wl.t1 14 19 (.agg #[.string ⟨v.nm.toArray⟩, .slice v.ua v.un v.uc, .slice v.ta v.tn v.tc, .slice v.la v.ln v.lc, .slice v.ia v.jn v.ic, .int .i64 v.at_]) hS ?_
 (try simp only [Act.put, sA, sB, sC])
 refine Wl.t1 15 20 (.bool q) hS ?_
 (try simp only [Act.put, sA, sB, sC])
 refine wpL_l #[true, true, true, true, true, true, true, true, true, true, true, true, true, true, true, true, false, false, false, false] ?_
 refine Wl.as2 (fun x9 y9 => { tmps := #[.pointer (some ⟨b, 0, none⟩), undef, .pointer (some ⟨w.heap.size, 0, none⟩), x9, y9, .tuple #[.agg #[.string ⟨v.nm.toArray⟩, .slice v.ua v.un v.uc, .slice v.ta v.tn v.tc, .slice v.la v.ln v.lc, .slice v.ia v.jn v.ic, .int .i64 v.at_], .bool q], .pointer (some ⟨b, 0, none⟩), .pointer (some ⟨b, 0, none⟩), .pointer (some ⟨b, 0, none⟩), .pointer (some ⟨A.c, 0, none⟩), .pointer (some ⟨A.c, 0, none⟩), .pointer (some ⟨A.c, 1, none⟩), .map (some A.nb), .pointer (some ⟨b, 0, none⟩), .pointer (some ⟨b, 0, none⟩), .pointer (some ⟨b, 1, none⟩), .pointer (some ⟨b, 3, none⟩), .string ⟨p.nm.toArray⟩, .tuple #[.agg #[.string ⟨v.nm.toArray⟩, .slice v.ua v.un v.uc, .slice v.ta v.tn v.tc, .slice v.la v.ln v.lc, .slice v.ia v.jn v.ic, .int .i64 v.at_], .bool q], .agg #[.string ⟨v.nm.toArray⟩, .slice v.ua v.un v.uc, .slice v.ta v.tn v.tc, .slice v.la v.ln v.lc, .slice v.ia v.jn v.ic, .int .i64 v.at_], .bool q, undef, undef, undef, undef, undef], defers := [] }) (fun a9 b9 c9 d9 => #[true, true, true, true, true, true, true, true, true, true, true, true, true, true, true, true, a9, c9, b9, d9]) 16 3 18 17 4 19 (.cells #[.string ⟨#[]⟩, .slice none 0 0, .slice none 0 0, .slice none 0 0, .slice none 0 0, .int .i64 0] 44 (0, 0)) (.cells #[.string ⟨v.nm.toArray⟩, .slice v.ua v.un v.uc, .slice v.ta v.tn v.tc, .slice v.la v.ln v.lc, .slice v.ia v.jn v.ic, .int .i64 v.at_] 44 (0, 0)) (.cells #[.bool false] 4 (0, 0)) (.cells #[.bool q] 4 (0, 0)) hS (fun _ _ => by kernel_rfl) (fun _ _ => by kernel_rfl) (fun g h V hV => run_storeN _ _ rfl rfl rfl rfl hV) (fun g h V hV => ⟨_, run_storeB _ _ rfl rfl rfl hV, (boolSet hV).1, (boolSet hV).2⟩) (fun _ _ _ => rfl) (fun _ _ _ => rfl) (fun _ _ _ _ => rfl) (fun _ _ _ _ => rfl) (fun _ _ _ _ => rfl) (fun _ _ _ _ => rfl) ?_ (hk1 := rfl) (hm1 := rfl) (hk2 := rfl) (hm2 := rfl) (hSk := Sbt.k2 (w.alloc (.cells #[.string ⟨#[]⟩, .slice none 0 0, .slice none 0 0, .slice none 0 0, .slice none 0 0, .int .i64 0] 44)) b p HBL.out)
 intro g3 g4 w1 hh3 hh4 l3 l4 hne hg1 hS
 refine wpL_done (by kernel_rfl) ?_ _
 have hG1 : (w.alloc (.cells #[.string ⟨#[]⟩, .slice none 0 0, .slice none 0 0, .slice none 0 0, .slice none 0 0, .int .i64 0] 44)).grownBy w1 none := (gdrew (World.grownBy.refl _ _)).trans hg1
 have l3' : w.heap.size + 1 ≤ g3 := by have : (w.alloc (.cells #[.string ⟨#[]⟩, .slice none 0 0, .slice none 0 0, .slice none 0 0, .slice none 0 0, .int .i64 0] 44)).heap.size ≤ g3 := l3; simpa using this
 have hrb := (hG1.block w.heap.size (by simp) (by simp)).trans HRB.out
 have hal := ga w1 (.cells #[.func (.func 117) #[] #[.pointer (some ⟨g4, 0, none⟩)]] 125 (0, 0)) none
 have hmu := tmust_any (w1.alloc (.cells #[.func (.func 117) #[] #[.pointer (some ⟨g4, 0, none⟩)]] 125)) b p 0 21 (HPT.out.kept (hG1.trans hal)) (by decide) w1.heap.size 1 [.func (.func 117) #[] #[.pointer (some ⟨g4, 0, none⟩)]] [q] rfl rfl (by decide) (heap_alloc_new _ _) (by have := hG1.size; simp at this; omega) (fun _ => dems1 ((tok_called w1 g4 q (cell_of_row _ _ 0 _ _ _ hh4)).kept hal))
 have HT3 := ld (And.intro ((hal.block _ (gl hh3) (by simp)).trans hh3) (And.intro (show g3 ≠ b by omega) (And.intro (hG1.trans hal) ((hal.block _ (gl hrb) (by simp)).trans hrb))))
 clear hal hh3 hh4 l3 l4 hne hg1 hS hG1 hrb l3'
 go_wp2_with (go_at_call 70; refine hmu.mono ?_; rintro e w2 ⟨rfl, hp2, hg2⟩; refine Hid.out ?_)
 have h3 := (hg2.block g3 (gl HT3.out.1) (by simp; exact HT3.out.2.1)).trans HT3.out.1
 have y0 := cell_of_row _ _ 0 _ _ _ h3
 have y1 := cell_of_row _ _ 1 _ _ _ h3
 have y2 := cell_of_row _ _ 2 _ _ _ h3
 have y3 := cell_of_row _ _ 3 _ _ _ h3
 have y4 := cell_of_row _ _ 4 _ _ _ h3
 have y5 := cell_of_row _ _ 5 _ _ _ h3
 have hce := (hg2.block w.heap.size (gl HT3.out.2.2.2) (by simp; omega)).trans HT3.out.2.2.2
 have HP2 := ld (And.intro hp2 ((grown_some (HGA.out.trans HT3.out.2.2.1) b).trans hg2))
 clear hp2 hg2 h3 hmu
 refine ld ?_
 go_wp2_with (with_reducible refine hold_st 2 ?_)
 refine ld ?_
 refine sg hce ?_
 intro w7 hh7 hg7
 go_wp2
 (try simp only [Exit.inBlock, Exit.then])
 refine br hh7 Tryz.underlying44 ?_
 refine ⟨rfl, (hg7.block b (gl HP2.out.1) (by simp; omega)).trans HP2.out.1, ?_⟩
 exact (Sbt.k2 w b p hbl _ _ _ ⟨HP2.out.2, _, HP2.out.1⟩ hg7 (fun k e => by cases e; exact Nat.le_refl _)).1
theorem alloc3_rows (w : World) (x z : Value) (cs : Array Value) (s t u : TypeId) : (((w.alloc (.cells #[x] s)).alloc (.cells cs t)).alloc (.cells #[z] u)).cell? ⟨w.heap.size, 0, none⟩ = some x ∧ (((w.alloc (.cells #[x] s)).alloc (.cells cs t)).alloc (.cells #[z] u)).heap[w.heap.size + 1]? = some (.cells cs t (0, 0)) ∧ (((w.alloc (.cells #[x] s)).alloc (.cells cs t)).alloc (.cells #[z] u)).cell? ⟨w.heap.size + 1 + 1, 0, none⟩ = some z := by
 refine ⟨(galloc2 _ _ _).cell (cell_of_row _ _ 0 _ _ _ (heap_alloc_new w _)) (by simp), ((ga _ _ none).block _ (by simp) (by simp)).trans (heap_alloc_2 w _ _), ?_⟩
 have := heap_alloc_2 (w.alloc (.cells #[x] s)) (.cells cs t) (.cells #[z] u)
 rw [World.size_alloc] at this
 exact cell_of_row _ _ 0 _ _ _ this
theorem TyB.own {w : World} {B n : Nat} {sz : Nat} {a : Option Addr} {c : Nat} {xs : List Value} (h : w.ownsRow B 57 sz (.slice a n c) n xs) : TyB w a := fun g off e => by
 subst e
 rcases h.2 with ⟨h0, _⟩ | ⟨g', cap, cur, h0, _, hh, _⟩
 ·cases h0
 ·cases h0; exact ⟨_, hh⟩
theorem run_exec_ap {P : Program} {a : Act} {w w' : World} {oi : Oper} {t : TypeId} {v v2 v' : Value} (s x : Operand) (ho : oi.op = .call { callee := .builtin .append, args := #[s, x], argTypes := #[t, t] }) (hs : a.eval s = v) (hx : a.eval x = v2) (hr : (Builtin.append_ #[t, t] oi.type #[v, v2]).run P w = .ok v' w') : (execOp a.eval oi).run P w = .ok (.value v') w' := by
 unfold execOp
 simp only [ho, resolve, invoke, builtin, Sem.run_bind, Sem.run_pure, Result.andThen_ok, List.map_toArray, List.map_cons, List.map_nil, hs, hx, hr]
theorem tapplied (w0 w : World) (A : Aa) (N : List (List UInt8 × (Gram.Node × Nv))) (V : List (List UInt8 × Ty.T)) (cnt b : Nat) (p : Pv) (kts : List Ty.T) (c : Int) (h : Pc w0 w A N V cnt b p kts c) (d : Gram.Node) (v : Nv) (hd : NodeV w0 d v) (a2 : Option Addr) (n2 c2 : Nat) (ys : List Ty.T) (hn2 : n2 = ys.length) (hy : TyL w a2 ys) (hyb : ∀ g off, a2 = some ⟨g, off, none⟩ → g ≠ b) :
  Calls Tryz.prog 83 #[.pointer (some ⟨b, 0, none⟩), .agg v.cells, .slice a2 n2 c2] w (rPost w b p (d.outs.map Ty.vT) (Ty.mst (Ty.mst c 23 [p.kn == n2]) 22 [kts == ys])) := by
 have hp := h.pt
 have hbl := gl hp
 obtain ⟨c0', c1', c2'⟩ := alloc3_rows w (.pointer (some ⟨b, 0, none⟩)) (.slice a2 n2 c2) v.cells 99 44 117
 have hga : w.grownBy (((w.alloc (.cells #[.pointer (some ⟨b, 0, none⟩)] 99)).alloc (.cells v.cells 44)).alloc (.cells #[.slice a2 n2 c2] 117)) none := galloc3 w _ _ _
 have hal := ga (((w.alloc (.cells #[.pointer (some ⟨b, 0, none⟩)] 99)).alloc (.cells v.cells 44)).alloc (.cells #[.slice a2 n2 c2] 117)) (.cells #[.func (.func 118) #[] #[.pointer (some ⟨w.heap.size, 0, none⟩), .pointer (some ⟨w.heap.size + 1 + 1, 0, none⟩)]] 125 (0, 0)) none
 have hmu := tmust_any ((((w.alloc (.cells #[.pointer (some ⟨b, 0, none⟩)] 99)).alloc (.cells v.cells 44)).alloc (.cells #[.slice a2 n2 c2] 117)).alloc (.cells #[.func (.func 118) #[] #[.pointer (some ⟨w.heap.size, 0, none⟩), .pointer (some ⟨w.heap.size + 1 + 1, 0, none⟩)]] 125)) b p c 23 (hp.kept (hga.trans hal)) (by decide) (((w.alloc (.cells #[.pointer (some ⟨b, 0, none⟩)] 99)).alloc (.cells v.cells 44)).alloc (.cells #[.slice a2 n2 c2] 117)).heap.size 1 [.func (.func 118) #[] #[.pointer (some ⟨w.heap.size, 0, none⟩), .pointer (some ⟨w.heap.size + 1 + 1, 0, none⟩)]] [p.kn == n2] rfl rfl (by decide) (heap_alloc_new _ _) (by simp; omega) (fun _ => dems1 ((tapplied1 _ w.heap.size (w.heap.size + 1 + 1) b p c (hp.kept hga) a2 n2 c2 c0' c2').kept hal))
 have HG := ld (hga.trans hal)
 have HC := ld (And.intro (hal.cell c0' (by simp)) (And.intro ((hal.block _ (gl c1') (by simp)).trans c1') (hal.cell c2' (by simp))))
 have HKN := ld (And.intro h.kn (And.intro hn2 (show p.kn ≤ 1000000 by have := h.km; omega)))
 have H := ld h
 have HY := ld (And.intro hy hyb)
 have HD := ld hd
 have hmf := makeFunc_run
 clear hal hp hga c0' c1' c2' h hy hyb hd hn2
 simp only [World.size_alloc] at hmu
 unfold Nv.cells at *
 go_enter Tryz.func83, Tryz.ntmps83
 go_wp2_with (go_at_call 70; refine hmu.mono ?_; rintro e w1b ⟨rfl, hp1, hg1b⟩; refine Hid.out ?_)
 have hgw1 := (grown_some HG.out b).trans hg1b
 have k0 := hg1b.cell HC.out.1 (by simp; omega)
 have k1 := (hg1b.block _ (gl HC.out.2.1) (by simp; omega)).trans HC.out.2.1
 have k2 := hg1b.cell HC.out.2.2 (by simp; omega)
 have HKL := ld ((H.out.on hgw1 hp1).kl)
 have HYL := ld (HY.out.1.keptB hgw1 HY.out.2)
 have HGW1 := ld hgw1
 clear hmu hg1b hgw1
 refine ld ?_
 go_wp2
 refine wp_region_L (S := Sbt w1b b p) (Z := []) (by kernel_rfl) ?_
 have hS : Sbt w1b b p w1b.drew := ⟨gdrew (World.grownBy.refl _ _), _, (hp1).kept (gdrew (World.grownBy.refl _ _))⟩
 refine Wl.t2 0 11 (.pointer (some ⟨b, 0, none⟩)) (fun w' hw' => ?_) hS ?_
 ·have hc0 := hw'.1.cell k0 (by simp; omega); clear hw'; go_simp
 (try simp only [Act.put, sA, sB, sC])
 refine Wl.t2 1 12 (.pointer (some ⟨b, 0, none⟩)) (fun w' hw' => ?_) hS ?_
 ·have hc0 := hw'.1.cell k0 (by simp; omega); clear hw'; go_simp
 (try simp only [Act.put, sA, sB, sC])
 refine Wl.t2 2 13 (.slice a2 n2 c2) (fun w' hw' => ?_) hS ?_
 ·have hc0 := hw'.1.cell k2 (by simp; omega); clear hw'; go_simp
 (try simp only [Act.put, sA, sB, sC])
 refine Wl.cg (R := fun u9 V9 => Dem V9 u9 (kts == ys)) 3 14 87 #[.pointer (some ⟨b, 0, none⟩), .slice a2 n2 c2] hS ((tare_any _ b p (Ty.mst c 23 [p.kn == n2]) (hp1.kept (gdrew (World.grownBy.refl w1b none))) a2 n2 c2 kts ys HKN.out.1 HKN.out.2.1 HKN.out.2.2 (HKL.out.kept (gdrew (World.grownBy.refl w1b none))) (HYL.out.kept (gdrew (World.grownBy.refl w1b none)))).mono (by rintro e w' ⟨v, rfl, hd, hg⟩; exact ⟨v, rfl, hd, hg⟩)) ?_ (hSk := Sbt.k _ _ _)
 intro v14 w14 hd14 hg14 hS
 obtain ⟨F14, q14, rfl⟩ := hd14.form
 (try simp only [Act.put, sA, sB, sC])
 refine Wl.vg 4 15 (.slice (some ⟨(w14).heap.size, 0, none⟩) 1 1) ((w14).alloc (.cells #[.func (.func F14) #[] q14] 125)) hS (ga _ _ none) ?_ (hSk := Sbt.k _ _ _)
 intro hS
 (try simp only [Act.put, sA, sB, sC])
 have hal := ga w14 (.cells #[.func (.func F14) #[] q14] 125 (0, 0)) none
 have hGa : w1b.grownBy (w14.alloc (.cells #[.func (.func F14) #[] q14] 125)) none := ((gdrew (World.grownBy.refl _ _)).trans hg14).trans hal
 have hmu := tmust_any (w14.alloc (.cells #[.func (.func F14) #[] q14] 125)) b p (Ty.mst c 23 [p.kn == n2]) 22 ((hp1).kept hGa) (by decide) w14.heap.size 1 [.func (.func F14) #[] q14] [kts == ys] rfl rfl (by decide) (heap_alloc_new _ _) (by have := gl (hp1); have := (((gdrew (World.grownBy.refl _ _)).trans hg14)).size; omega) (fun _ => dems1 ((hd14).kept hal))
 refine Wl.cs (R := fun u9 w' => u9 = .tuple #[] ∧ Pt w' b p (Ty.mst (Ty.mst c 23 [p.kn == n2]) 22 [kts == ys]) ∧ (w14.alloc (.cells #[.func (.func F14) #[] q14] 125)).grownBy w' (some b)) 5 16 70 #[.pointer (some ⟨b, 0, none⟩), .int .i64 22, .slice (some ⟨w14.heap.size, 0, none⟩) 1 1] (hmu.mono (by rintro e w' ⟨rfl, h1, h2⟩; exact ⟨_, rfl, rfl, h1, h2⟩)) (fun v w' h => ⟨(grown_some hGa b).trans h.2.2, _, h.2.1⟩) ?_
 rintro v w2b ⟨rfl, hp2, hg9⟩
 have hgw2 := (grown_some hGa b).trans hg9
 clear hmu hal hGa hg9
 (try simp only [Act.put, sA, sB, sC])
 refine wpL_done (by kernel_rfl) ?_ _
 have x2 := cell_of_row _ _ 2 _ _ _ ((hgw2.block _ (gl k1) (by simp; omega)).trans k1)
 have hG2 := HGW1.out.trans hgw2
 have ht := ttypesOf_any w0 w2b ((H.out.on hG2 hp2).ak.base) d.outs v.ta v.tn v.tc HD.out.outs (by have := varsLen HD.out.outs; have := HD.out.bo; omega)
 have HP2 := ld (And.intro hp2 hG2)
 clear hp2 hgw2 hG2 hS hd14 hg14 k0 k1 k2 hp1
 go_wp2_with (go_at_call 84; refine ht.mono ?_; rintro e w3 ⟨a3, c3, rfl, ho, hg3⟩)
 go_ret
 have hvl := (varsLen HD.out.outs).1
 exact ⟨a3, v.tn, c3, rfl, HP2.out.1.kept hg3, HP2.out.2.trans (grown_some hg3 b), fun _ => ⟨by rw [List.length_map]; exact hvl, by have := HD.out.bo; omega, TyL.own ho, HD.out.wo, TyB.own ho⟩⟩
theorem ownB {w W : World} {B n b : Nat} {e : TypeId} {sz : Nat} {a : Option Addr} {c : Nat} {xs : List Value} (h : w.ownsRow B e sz (.slice a n c) n xs) (hb : b < B) : ∀ g off, a = some ⟨g, off, none⟩ → g ≠ b := fun g off e1 e2 => by
 subst e1 e2
 have := h.lt g rfl
 omega
theorem tr_call (w0 w : World) (A : Aa) (N : List (List UInt8 × (Gram.Node × Nv))) (V : List (List UInt8 × Ty.T)) (cnt b : Nat) (p : Pv) (kts : List Ty.T) (h : Pc w0 w A N V cnt b p kts 0) :
  Calls Tryz.prog 51 #[.pointer (some ⟨b, 0, none⟩)] w (rPost w b p ((nodeOf N p.nm).1.outs.map Ty.vT) (Ty.mst (Ty.mst (Ty.mst 0 21 [(Ty.look N p.nm).isSome]) 23 [kts.length == ((nodeOf N p.nm).1.ins.map Ty.vT).length]) 22 [kts == (nodeOf N p.nm).1.ins.map Ty.vT])) := by
 have hp := h.pt
 have hbl := gl hp
 obtain ⟨d, hd⟩ : ∃ d, d = nodeOf N p.nm := ⟨_, rfl⟩
 obtain ⟨v, hv⟩ : ∃ v, v = d.2 := ⟨_, rfl⟩
 have hcl := tcalled w0 w A N V cnt b p kts h
 have HNV : Hid (NodeV w0 d.1 v) := ld (by rw [hv, hd]; exact (h.ak.node p.nm h.sh).2)
 rw [← hd, ← hv] at hcl
 rw [← hd]
 have H := ld h
 clear h hp hd hv
 unfold Nv.cells at hcl
 go_enter Tryz.func51, Tryz.ntmps51
 go_wp2_with (go_at_call 82; refine hcl.mono ?_; rintro e w1 ⟨rfl, hp1, hg1⟩; refine Hid.out ?_)
 have hga := ga w1 (.cells #[.string ⟨v.nm.toArray⟩, .slice v.ua v.un v.uc, .slice v.ta v.tn v.tc, .slice v.la v.ln v.lc, .slice v.ia v.jn v.ic, .int .i64 v.at_] 44) none
 have hnr := heap_alloc_new w1 (.cells #[.string ⟨v.nm.toArray⟩, .slice v.ua v.un v.uc, .slice v.ta v.tn v.tc, .slice v.la v.ln v.lc, .slice v.ia v.jn v.ic, .int .i64 v.at_] 44)
 obtain ⟨W, hW⟩ : ∃ W, W = w1.alloc (.cells #[.string ⟨v.nm.toArray⟩, .slice v.ua v.un v.uc, .slice v.ta v.tn v.tc, .slice v.la v.ln v.lc, .slice v.ia v.jn v.ic, .int .i64 v.at_] 44) := ⟨_, rfl⟩
 rw [← hW] at hga hnr
 have HPW := ld (hp1.kept hga)
 have HGW := ld (hg1.trans (grown_some hga b))
 have HNG := ld (show w1.heap.size ≠ b by have := hg1.size; omega)
 have HBW : Hid (b < W.heap.size) := ld (by have := hg1.size; have := hga.size; omega)
 have n0 := cell_of_row _ _ 0 _ _ _ hnr
 have n1 := cell_of_row _ _ 1 _ _ _ hnr
 have n2 := cell_of_row _ _ 2 _ _ _ hnr
 have n3 := cell_of_row _ _ 3 _ _ _ hnr
 have n4 := cell_of_row _ _ 4 _ _ _ hnr
 have n5 := cell_of_row _ _ 5 _ _ _ hnr
 have HUN := ld (varsLen HNV.out.ins).1
 clear hcl hp1 hg1 hga hnr
 refine ld ?_
 go_wp2
 rw [← hW]
 clear hW
 have HB0 : Hid (w0.grownBy W.drew none) := ld (gdrew (H.out.on HGW.out HPW.out).ak.base)
 refine wp_region_L (S := Sbt W b p) (Z := []) (by kernel_rfl) ?_
 have hS : Sbt W b p W.drew := ⟨gdrew (World.grownBy.refl _ _), _, (HPW.out).kept (gdrew (World.grownBy.refl _ _))⟩
 refine Wl.t1 0 6 (.pointer (some ⟨b, 0, none⟩)) hS ?_
 (try simp only [Act.put, sA, sB, sC])
 refine Wl.t2 1 7 (.agg #[.string ⟨v.nm.toArray⟩, .slice v.ua v.un v.uc, .slice v.ta v.tn v.tc, .slice v.la v.ln v.lc, .slice v.ia v.jn v.ic, .int .i64 v.at_]) (fun w' hw' => ?_) hS ?_
 ·have hc0 := hw'.1.cell n0 (by simp; exact HNG.out); have hc1 := hw'.1.cell n1 (by simp; exact HNG.out); have hc2 := hw'.1.cell n2 (by simp; exact HNG.out); have hc3 := hw'.1.cell n3 (by simp; exact HNG.out); have hc4 := hw'.1.cell n4 (by simp; exact HNG.out); have hc5 := hw'.1.cell n5 (by simp; exact HNG.out); clear hw'; go_simp
 (try simp only [Act.put, sA, sB, sC])
 refine Wl.t1 2 8 (.pointer (some ⟨w1.heap.size, 1, none⟩)) hS ?_
 (try simp only [Act.put, sA, sB, sC])
 refine Wl.t2 3 9 (.slice v.ua v.un v.uc) (fun w' hw' => ?_) hS ?_
 ·have hc0 := hw'.1.cell n1 (by simp; exact HNG.out); clear hw'; go_simp
 (try simp only [Act.put, sA, sB, sC])
 refine Wl.cg (R := fun u V => ∃ a' c', u = .slice a' v.un c' ∧ V.ownsRow W.drew.heap.size 57 2 (.slice a' v.un c') v.un (tyR (d.1.ins.map Ty.vT))) 4 10 84 #[.slice v.ua v.un v.uc] hS ((ttypesOf_any w0 _ HB0.out d.1.ins v.ua v.un v.uc HNV.out.ins (by have := varsLen HNV.out.ins; have := HNV.out.bi; omega)).mono (by rintro e w' ⟨a', c', rfl, ho, hg⟩; exact ⟨_, rfl, ⟨a', c', rfl, ho⟩, hg⟩)) ?_ (hSk := Sbt.k _ _ _)
 rintro u V1 ⟨a1, c1, rfl, ho⟩ hgV hS
 (try simp only [Act.put, sA, sB, sC])
 have hPV := HPW.out.kept ((gdrew (World.grownBy.refl W none)).trans hgV)
 have hap := tapplied w0 V1 A N V cnt b p kts (Ty.mst 0 21 [(Ty.look N p.nm).isSome]) (H.out.on (HGW.out.trans (grown_some ((gdrew (World.grownBy.refl W none)).trans hgV) b)) hPV) d.1 v HNV.out a1 v.un c1 (d.1.ins.map Ty.vT) (by rw [List.length_map]; exact HUN.out) (TyL.own ho) (ownB (W := W) ho HBW.out)
 unfold Nv.cells at hap
 refine Wl.cs (R := fun u w' => rPost V1 b p (d.1.outs.map Ty.vT) (Ty.mst (Ty.mst (Ty.mst 0 21 [(Ty.look N p.nm).isSome]) 23 [p.kn == v.un]) 22 [kts == d.1.ins.map Ty.vT]) (.returned u) w') 5 11 83 #[.pointer (some ⟨b, 0, none⟩), .agg #[.string ⟨v.nm.toArray⟩, .slice v.ua v.un v.uc, .slice v.ta v.tn v.tc, .slice v.la v.ln v.lc, .slice v.ia v.jn v.ic, .int .i64 v.at_], .slice a1 v.un c1] (hap.mono (by rintro e w' ⟨a', n', k', rfl, h2⟩; exact ⟨_, rfl, a', n', k', rfl, h2⟩)) (fun u w' h => ?_) ?_
 ·obtain ⟨a', n', k', e, h2, h3, h4⟩ := h; exact ⟨(grown_some ((gdrew (World.grownBy.refl W none)).trans hgV) b).trans h3, _, h2⟩
 rintro u w2 hR
 obtain ⟨a3, n3, k3, e3, hp3, hg3, hf3⟩ := hR
 cases e3
 have hS : Sbt W b p w2 := ⟨(grown_some ((gdrew (World.grownBy.refl W none)).trans hgV) b).trans hg3, _, hp3⟩
 (try simp only [Act.put, sA, sB, sC])
 refine Wl.t1 6 2 (.slice a3 n3 k3) hS ?_
 (try simp only [Act.put, sA, sB, sC])
 refine wpL_done (by kernel_rfl) ?_ _
 go_wp2
 go_ret
 have e1 : (kts.length == (d.1.ins.map Ty.vT).length) = (p.kn == v.un) := by rw [H.out.kn, List.length_map, HUN.out]
 rw [e1]
 exact ⟨a3, n3, k3, rfl, hp3, HGW.out.trans ((grown_some ((gdrew (World.grownBy.refl W none)).trans hgV) b).trans hg3), hf3⟩
theorem tr_reset (w0 w : World) (A : Aa) (N : List (List UInt8 × (Gram.Node × Nv))) (V : List (List UInt8 × Ty.T)) (cnt b : Nat) (p : Pv) (kts : List Ty.T) (h : Pc w0 w A N V cnt b p kts 0) :
  Calls Tryz.prog 52 #[.pointer (some ⟨b, 0, none⟩)] w (rPost w b p ((nodeOf N p.nm).1.outs.map Ty.vT) (Ty.mst (Ty.mst (Ty.mst 0 21 [(Ty.look N p.nm).isSome]) 23 [kts.length == (((nodeOf N p.nm).1.ins.map Ty.vT ++ [Ty.tB])).length]) 22 [kts == ((nodeOf N p.nm).1.ins.map Ty.vT ++ [Ty.tB])])) := by
 have hp := h.pt
 have hbl := gl hp
 obtain ⟨d, hd⟩ : ∃ d, d = nodeOf N p.nm := ⟨_, rfl⟩
 obtain ⟨v, hv⟩ : ∃ v, v = d.2 := ⟨_, rfl⟩
 have hcl := tcalled w0 w A N V cnt b p kts h
 have HNV : Hid (NodeV w0 d.1 v) := ld (by rw [hv, hd]; exact (h.ak.node p.nm h.sh).2)
 rw [← hd, ← hv] at hcl
 rw [← hd]
 have H := ld h
 clear h hp hd hv
 unfold Nv.cells at hcl
 go_enter Tryz.func52, Tryz.ntmps52
 go_wp2_with (go_at_call 82; refine hcl.mono ?_; rintro e w1 ⟨rfl, hp1, hg1⟩; refine Hid.out ?_)
 have hga := ga w1 (.cells #[.string ⟨v.nm.toArray⟩, .slice v.ua v.un v.uc, .slice v.ta v.tn v.tc, .slice v.la v.ln v.lc, .slice v.ia v.jn v.ic, .int .i64 v.at_] 44) none
 have hnr := heap_alloc_new w1 (.cells #[.string ⟨v.nm.toArray⟩, .slice v.ua v.un v.uc, .slice v.ta v.tn v.tc, .slice v.la v.ln v.lc, .slice v.ia v.jn v.ic, .int .i64 v.at_] 44)
 obtain ⟨W, hW⟩ : ∃ W, W = w1.alloc (.cells #[.string ⟨v.nm.toArray⟩, .slice v.ua v.un v.uc, .slice v.ta v.tn v.tc, .slice v.la v.ln v.lc, .slice v.ia v.jn v.ic, .int .i64 v.at_] 44) := ⟨_, rfl⟩
 rw [← hW] at hga hnr
 have HPW := ld (hp1.kept hga)
 have HGW := ld (hg1.trans (grown_some hga b))
 have HNG := ld (show w1.heap.size ≠ b by have := hg1.size; omega)
 have HBW : Hid (b < W.heap.size) := ld (by have := hg1.size; have := hga.size; omega)
 have n0 := cell_of_row _ _ 0 _ _ _ hnr
 have n1 := cell_of_row _ _ 1 _ _ _ hnr
 have n2 := cell_of_row _ _ 2 _ _ _ hnr
 have n3 := cell_of_row _ _ 3 _ _ _ hnr
 have n4 := cell_of_row _ _ 4 _ _ _ hnr
 have n5 := cell_of_row _ _ 5 _ _ _ hnr
 have HUN := ld (varsLen HNV.out.ins).1
 clear hcl hp1 hg1 hga hnr
 refine ld ?_
 go_wp2
 rw [← hW]
 clear hW
 have HB0 : Hid (w0.grownBy W.drew none) := ld (gdrew (H.out.on HGW.out HPW.out).ak.base)
 refine wp_region_L (S := Sbt W b p) (Z := []) (by kernel_rfl) ?_
 have hS : Sbt W b p W.drew := ⟨gdrew (World.grownBy.refl _ _), _, (HPW.out).kept (gdrew (World.grownBy.refl _ _))⟩
 refine Wl.t1 0 6 (.pointer (some ⟨b, 0, none⟩)) hS ?_
 (try simp only [Act.put, sA, sB, sC])
 refine Wl.t2 1 7 (.agg #[.string ⟨v.nm.toArray⟩, .slice v.ua v.un v.uc, .slice v.ta v.tn v.tc, .slice v.la v.ln v.lc, .slice v.ia v.jn v.ic, .int .i64 v.at_]) (fun w' hw' => ?_) hS ?_
 ·have hc0 := hw'.1.cell n0 (by simp; exact HNG.out); have hc1 := hw'.1.cell n1 (by simp; exact HNG.out); have hc2 := hw'.1.cell n2 (by simp; exact HNG.out); have hc3 := hw'.1.cell n3 (by simp; exact HNG.out); have hc4 := hw'.1.cell n4 (by simp; exact HNG.out); have hc5 := hw'.1.cell n5 (by simp; exact HNG.out); clear hw'; go_simp
 (try simp only [Act.put, sA, sB, sC])
 refine Wl.t1 2 8 (.pointer (some ⟨w1.heap.size, 1, none⟩)) hS ?_
 (try simp only [Act.put, sA, sB, sC])
 refine Wl.t2 3 9 (.slice v.ua v.un v.uc) (fun w' hw' => ?_) hS ?_
 ·have hc0 := hw'.1.cell n1 (by simp; exact HNG.out); clear hw'; go_simp
 (try simp only [Act.put, sA, sB, sC])
 refine Wl.cg (R := fun u V => ∃ a' c', u = .slice a' v.un c' ∧ V.ownsRow W.drew.heap.size 57 2 (.slice a' v.un c') v.un (tyR (d.1.ins.map Ty.vT))) 4 10 84 #[.slice v.ua v.un v.uc] hS ((ttypesOf_any w0 _ HB0.out d.1.ins v.ua v.un v.uc HNV.out.ins (by have := varsLen HNV.out.ins; have := HNV.out.bi; omega)).mono (by rintro e w' ⟨a', c', rfl, ho, hg⟩; exact ⟨_, rfl, ⟨a', c', rfl, ho⟩, hg⟩)) ?_ (hSk := Sbt.k _ _ _)
 rintro u V1 ⟨a1, c1, rfl, ho⟩ hgV hS
 (try simp only [Act.put, sA, sB, sC])
 refine Wl.cg (R := fun u _ => u = .agg #[.int .i64 1, .int .i64 0]) 5 11 79 #[.int .i64 1] hS ((tscalar_any 1 _).mono (by rintro e w' ⟨rfl, hg⟩; exact ⟨_, rfl, rfl, hg⟩)) ?_ (hSk := Sbt.k _ _ _)
 rintro u V2 rfl hgV2 hS
 (try simp only [Act.put, sA, sB, sC])
 refine Wl.vg 6 12 (.slice (some ⟨V2.heap.size, 0, none⟩) 1 1) (V2.alloc (.cells #[.int .i64 1, .int .i64 0] 57)) hS (ga _ _ none) ?_ (hSk := Sbt.k _ _ _)
 intro hS'
 (try simp only [Act.put, sA, sB, sC])
 obtain ⟨a2, c2, V4, r4, o4, g4⟩ := growT V2 117 W.drew.heap.size (.slice a1 v.un c1) v.un (d.1.ins.map Ty.vT) 1 0 (ho.kept hgV2 (Classical.em _)) (Nat.le_trans hgV.size hgV2.size) (by have := HUN.out; have := HNV.out.bi; omega)
 have hlo : ∀ k, (Value.slice a1 v.un c1).ownBlock = some k → W.drew.heap.size ≤ k := fun k e => (ho.lt k e).1
 have hS4 : Sbt W b p V4 := Sbt.k2 W b p HBW.out _ _ _ hS g4 hlo
 have hg4 : W.drew.grownBy V4 none := (hgV.trans hgV2).andThen g4 (fun j e => .inl (hlo j e))
 refine Wl.wpL_val (i := 7) (d := 13) (v := .slice a2 (v.un + 1) c2) (w' := V4) (by kernel_rfl) rfl (by kernel_rfl) (by kernel_rfl) (run_exec_ap _ _ rfl rfl rfl r4) hS4 ?_
 (try simp only [Act.put, sA, sB, sC])
 clear hS hS' r4 g4 hlo
 have hPV := HPW.out.kept ((gdrew (World.grownBy.refl W none)).trans hg4)
 have hap := tapplied w0 V4 A N V cnt b p kts (Ty.mst 0 21 [(Ty.look N p.nm).isSome]) (H.out.on (HGW.out.trans (grown_some ((gdrew (World.grownBy.refl W none)).trans hg4) b)) hPV) d.1 v HNV.out a2 (v.un + 1) c2 (d.1.ins.map Ty.vT ++ [Ty.tB]) (by rw [List.length_append, List.length_map, HUN.out]; rfl) (TyL.own o4) (ownB (W := W) o4 HBW.out)
 unfold Nv.cells at hap
 refine Wl.cs (R := fun u w' => rPost V4 b p (d.1.outs.map Ty.vT) (Ty.mst (Ty.mst (Ty.mst 0 21 [(Ty.look N p.nm).isSome]) 23 [p.kn == v.un + 1]) 22 [kts == d.1.ins.map Ty.vT ++ [Ty.tB]]) (.returned u) w') 8 14 83 #[.pointer (some ⟨b, 0, none⟩), .agg #[.string ⟨v.nm.toArray⟩, .slice v.ua v.un v.uc, .slice v.ta v.tn v.tc, .slice v.la v.ln v.lc, .slice v.ia v.jn v.ic, .int .i64 v.at_], .slice a2 (v.un + 1) c2] (hap.mono (by rintro e w' ⟨a', n', k', rfl, h2⟩; exact ⟨_, rfl, a', n', k', rfl, h2⟩)) (fun u w' h => ?_) ?_
 ·obtain ⟨a', n', k', e, h2, h3, h4⟩ := h; exact ⟨(grown_some ((gdrew (World.grownBy.refl W none)).trans hg4) b).trans h3, _, h2⟩
 rintro u w2 hR
 obtain ⟨a3, n3, k3, e3, hp3, hg3, hf3⟩ := hR
 cases e3
 have hS : Sbt W b p w2 := ⟨(grown_some ((gdrew (World.grownBy.refl W none)).trans hg4) b).trans hg3, _, hp3⟩
 (try simp only [Act.put, sA, sB, sC])
 refine Wl.t1 9 2 (.slice a3 n3 k3) hS ?_
 (try simp only [Act.put, sA, sB, sC])
 refine wpL_done (by kernel_rfl) ?_ _
 go_wp2
 go_ret
 have e1 : (kts.length == (d.1.ins.map Ty.vT ++ [Ty.tB]).length) = (p.kn == v.un + 1) := by rw [H.out.kn, List.length_append, List.length_map, HUN.out]; rfl
 rw [e1]
 exact ⟨a3, n3, k3, rfl, hp3, HGW.out.trans ((grown_some ((gdrew (World.grownBy.refl W none)).trans hg4) b).trans hg3), hf3⟩
theorem rowSet {w : World} {g : Nat} {old cs : Array Value} {t : TypeId} (h : w.heap[g]? = some (.cells old t (0, 0))) : (w.setRow g cs).heap[g]? = some (.cells cs t (0, 0)) ∧ w.grownBy (w.setRow g cs) (some g) := by
 refine ⟨by simp [World.setRow, Array.getElem?_modify, h], rfl, rfl, rfl, by simp [World.setRow], fun k _ hk => ?_⟩
 have hne : g ≠ k := fun e => hk (by rw [e])
 simp [World.setRow, Array.getElem?_modify, hne]
theorem run_storeNr {a : Act} {oi : Oper} {V : World} {g : Nat} {x0 x1 x2 x3 x4 x5 y0 y1 y2 y3 y4 y5 : Value} (x y : Operand) (ho : oi.op = .store 44 x y) (hx : a.eval x = .pointer (some ⟨g, 0, none⟩)) (hy : a.eval y = .agg #[y0, y1, y2, y3, y4, y5]) (h : V.heap[g]? = some (.cells #[x0, x1, x2, x3, x4, x5] 44 (0, 0))) (o1 : [y0, y1, y2, y3, y4, y5].all (·.oneCell') = true) :
  (execOp a.eval oi).run Tryz.prog V = .ok .skip (V.setRow g #[y0, y1, y2, y3, y4, y5]) := by
 have hin : (Tryz.prog.info? 44).map (·.size) = some 6 := by kernel_rfl
 unfold execOp
 simp only [ho, hx, hy, Instr.storeAt, Instr.sureAddr, Sem.run_bind, Sem.run_pure, Result.andThen_ok, run_storeVar_row V g 44 44 #[x0, x1, x2, x3, x4, x5] #[y0, y1, y2, y3, y4, y5] h hin rfl (by simpa using o1)]
theorem tr_mapped (w0 w : World) (A : Aa) (N : List (List UInt8 × (Gram.Node × Nv))) (V : List (List UInt8 × Ty.T)) (cnt b : Nat) (p : Pv) (z : Ty.T) (zs : List Ty.T) (h : Pc w0 w A N V cnt b p (z :: zs) 0) :
  Calls Tryz.prog 56 #[.pointer (some ⟨b, 0, none⟩)] w (rPost w b p (((nodeOf N p.nm).1.outs.map Ty.vT).map fun t => (t.1, z.2)) (Ty.mst (Ty.mst (Ty.mst 0 21 [(Ty.look N p.nm).isSome]) 23 [(((nodeOf N p.nm).1.ins.length : Int) == ((zs.length + 1 : Nat) : Int) && ((nodeOf N p.nm).1.outs.length : Int) == 1), ((nodeOf N p.nm).1.ins.map Ty.vT).all Ty.scal, ((nodeOf N p.nm).1.outs.map Ty.vT).all Ty.scal]) 22 [(z :: zs).all fun t => !Ty.scal t, (z :: zs) == (((nodeOf N p.nm).1.ins.map Ty.vT).map fun t => (t.1, z.2))])) := by
 have hp := h.pt
 have hbl := gl hp
 have hG : w.grownBy w none := World.grownBy.refl _ _
 have pa0 : ∀ V c, Pt V b p c → V.cell? ⟨b, 0, none⟩ = some (.pointer (some ⟨A.c, 0, none⟩)) := fun V c hV => by have := hV.c0; rw [h.pa] at this; exact this
 have a1 := cell_of_row w _ 1 _ _ _ h.ak.cc
 have a2 := cell_of_row w _ 2 _ _ _ h.ak.cc
 have hac : A.c ≠ b := fun e => h.hb.2 (by simp [e])
 obtain ⟨gk, ok, hgk, hka, z0, z1⟩ := h.k0
 have pk : ∀ V c, Pt V b p c → V.cell? ⟨b, 10, none⟩ = some (.slice (some ⟨gk, ok, none⟩) (zs.length + 1) p.kc) := fun V c hV => by have := hV.c10; rw [hka, h.kn] at this; exact this
 have H := ld h
 have HPK := ld pk
 have HZ0 := ld (And.intro z0 z1)
 have HZ := ld hgk
 have HPT := ld hp
 have HKM := ld (show zs.length + 1 ≤ 1000000 by have := h.km; have := h.kn; simp at this; omega)
 have HKL : Hid (TyL w (some ⟨gk, ok, none⟩) (z :: zs)) := ld (hka ▸ h.kl)
 obtain ⟨d, hd⟩ : ∃ d, d = nodeOf N p.nm := ⟨_, rfl⟩
 obtain ⟨v, hv⟩ : ∃ v, v = d.2 := ⟨_, rfl⟩
 have HNV : Hid (NodeV w0 d.1 v) := ld (by rw [hv, hd]; exact (h.ak.node p.nm h.sh).2)
 have HCL : Hid (∀ W, w.grownBy W none → Calls Tryz.prog 82 #[.pointer (some ⟨b, 0, none⟩)] W fun e w' => e = .returned (.agg #[.string ⟨v.nm.toArray⟩, .slice v.ua v.un v.uc, .slice v.ta v.tn v.tc, .slice v.la v.ln v.lc, .slice v.ia v.jn v.ic, .int .i64 v.at_]) ∧ Pt w' b p (Ty.mst 0 21 [(Ty.look N p.nm).isSome]) ∧ W.grownBy w' (some b)) := ld (fun W hW => by
  have := tcalled w0 W A N V cnt b p (z :: zs) (h.kept hW)
  rw [← hd, ← hv] at this
  exact this)
 have HUN := ld (varsLen HNV.out.ins).1
 have HTN := ld (varsLen HNV.out.outs).1
 rw [← hd]
 have e1 : (d.1.ins.length : Int) = (v.un : Int) := by rw [HUN.out]
 have e2 : (d.1.outs.length : Int) = (v.tn : Int) := by rw [HTN.out]
 rw [e1, e2]
 clear h pa0 a1 a2 hac z0 z1 hka hgk hG hp hd hv e1 e2
 go_enter Tryz.func56, Tryz.ntmps56
 go_wp2
 refine wp_region_L (S := Sbt w b p) (Z := []) (by kernel_rfl) ?_
 have hS : Sbt w b p w.drew := ⟨gdrew (World.grownBy.refl _ _), _, (HPT.out).kept (gdrew (World.grownBy.refl _ _))⟩
 refine Wl.t1 0 7 (.pointer (some ⟨b, 0, none⟩)) hS ?_
 (try simp only [Act.put, sA, sB, sC])
 refine Wl.t1 2 9 (.pointer (some ⟨b, 0, none⟩)) hS ?_
 (try simp only [Act.put, sA, sB, sC])
 refine Wl.t1 3 10 (.pointer (some ⟨b, 0, none⟩)) hS ?_
 (try simp only [Act.put, sA, sB, sC])
 refine Wl.t1 4 11 (.pointer (some ⟨b, 10, none⟩)) hS ?_
 (try simp only [Act.put, sA, sB, sC])
 refine Wl.t2 5 12 (.slice (some ⟨gk, ok, none⟩) (zs.length + 1) p.kc) (fun w' hw' => ?_) hS ?_
 ·have hc0 := pk _ _ hw'.2.choose_spec; clear hw'; go_simp
 (try simp only [Act.put, sA, sB, sC])
 refine Wl.t2 6 13 (.pointer (some ⟨gk, ok, none⟩)) (fun w' hw' => ?_) hS ?_
 ·clear hw'; go_simp; (try (intro h9; exfalso; omega))
 (try simp only [Act.put, sA, sB, sC])
 refine Wl.t1 7 14 (.pointer (some ⟨gk, ok + 1, none⟩)) hS ?_
 (try simp only [Act.put, sA, sB, sC])
 refine Wl.t2 8 15 (.int .i64 z.2) (fun w' hw' => ?_) hS ?_
 ·have hc0 := hw'.1.cell HZ0.out.2 (by simp; exact HZ.out); clear hw'; go_simp
 (try simp only [Act.put, sA, sB, sC])
 refine Wl.mid (f := 2) (n := 2) (fun V g => V.heap[g]? = some (.cells #[.string ⟨#[]⟩, .slice none 0 0, .slice none 0 0, .slice none 0 0, .slice none 0 0, .int .i64 0] 44 (0, 0)) ∧ w.heap.size ≤ g ∧ Pt V b p (Ty.mst 0 21 [(Ty.look N p.nm).isSome]) ∧ w.grownBy V (some b)) #[true, true, true, true, true, true, true, true, true, true, false, false] (fun g3 => { tmps := #[.pointer (some ⟨b, 0, none⟩), undef, .slice none 0 0, .pointer (some ⟨g3, 0, none⟩), undef, undef, undef, .pointer (some ⟨b, 0, none⟩), .agg #[.string ⟨v.nm.toArray⟩, .slice v.ua v.un v.uc, .slice v.ta v.tn v.tc, .slice v.la v.ln v.lc, .slice v.ia v.jn v.ic, .int .i64 v.at_], .pointer (some ⟨b, 0, none⟩), .pointer (some ⟨b, 0, none⟩), .pointer (some ⟨b, 10, none⟩), .slice (some ⟨gk, ok, none⟩) (zs.length + 1) p.kc, .pointer (some ⟨gk, ok, none⟩), .pointer (some ⟨gk, ok + 1, none⟩), .int .i64 z.2, undef, undef, undef, undef, undef, undef, undef, undef, undef, undef, undef, undef, undef, undef, undef, undef, undef, undef, undef, undef, undef, undef, undef, undef, undef, undef, undef, undef, undef, undef, undef, undef, undef, undef, undef, undef], defers := [] }) ?_ (fun tail => ?_)
 rotate_left
 ·have hdr := gdrew (World.grownBy.refl w none)
  refine Wl.wpL_both (i := 1) (j := 9) (by kernel_rfl) ?_ ?_
  ·refine Wl.wpOp_call (d := 8) (g := 82) (args := #[.pointer (some ⟨b, 0, none⟩)]) (R := fun u V => u = .agg #[.string ⟨v.nm.toArray⟩, .slice v.ua v.un v.uc, .slice v.ta v.tn v.tc, .slice v.la v.ln v.lc, .slice v.ia v.jn v.ic, .int .i64 v.at_] ∧ Pt V b p (Ty.mst 0 21 [(Ty.look N p.nm).isSome]) ∧ w.drew.grownBy V (some b)) rfl (by kernel_rfl) (by kernel_rfl) (by kernel_rfl) ((HCL.out _ hdr).mono (by rintro e w' ⟨rfl, h1, h2⟩; exact ⟨_, rfl, rfl, h1, h2⟩)) ?_
   rintro u V ⟨rfl, hpV, hgV⟩
   have hS : Sbt w b p V := ⟨(grown_some hdr b).trans hgV, _, hpV⟩
   refine ⟨fun _ => hS, ?_⟩
   (try simp only [Act.put, sA, sB, sC])
   refine Wl.vg 9 3 (.pointer (some ⟨V.heap.size, 0, none⟩)) (V.alloc (.cells #[.string ⟨#[]⟩, .slice none 0 0, .slice none 0 0, .slice none 0 0, .slice none 0 0, .int .i64 0] 44 (0, 0))) hS (ga _ _ none) ?_ (hSk := Sbt.k _ _ _)
   intro hS
   (try simp only [Act.put, sA, sB, sC])
   exact wpL_l _ (tail _ _ ⟨heap_alloc_new V _, ((grown_some hdr b).trans hgV).size, hpV.kept (ga _ _ none), ((grown_some hdr b).trans hgV).trans (grown_some (ga _ _ none) b)⟩)
  ·refine Wl.wpOp_val (d := 3) (v := .pointer (some ⟨w.drew.heap.size, 0, none⟩)) (w' := w.drew.alloc (.cells #[.string ⟨#[]⟩, .slice none 0 0, .slice none 0 0, .slice none 0 0, .slice none 0 0, .int .i64 0] 44 (0, 0))) rfl (by kernel_rfl) (by kernel_rfl) (by kernel_rfl) ?_
   have hgd := hdr.trans (ga w.drew (.cells #[.string ⟨#[]⟩, .slice none 0 0, .slice none 0 0, .slice none 0 0, .slice none 0 0, .int .i64 0] 44 (0, 0)) none)
   have hB := heap_alloc_new w.drew (.cells #[.string ⟨#[]⟩, .slice none 0 0, .slice none 0 0, .slice none 0 0, .slice none 0 0, .int .i64 0] 44 (0, 0))
   have hS := Sbt.k w b p _ _ hS (ga w.drew (.cells #[.string ⟨#[]⟩, .slice none 0 0, .slice none 0 0, .slice none 0 0, .slice none 0 0, .int .i64 0] 44 (0, 0)) none)
   refine ⟨fun _ => hS, ?_⟩
   (try simp only [Act.put, sA, sB, sC])
   refine Wl.cs (R := fun u V => u = .agg #[.string ⟨v.nm.toArray⟩, .slice v.ua v.un v.uc, .slice v.ta v.tn v.tc, .slice v.la v.ln v.lc, .slice v.ia v.jn v.ic, .int .i64 v.at_] ∧ Pt V b p (Ty.mst 0 21 [(Ty.look N p.nm).isSome]) ∧ (w.drew.alloc (.cells #[.string ⟨#[]⟩, .slice none 0 0, .slice none 0 0, .slice none 0 0, .slice none 0 0, .int .i64 0] 44 (0, 0))).grownBy V (some b)) 1 8 82 #[.pointer (some ⟨b, 0, none⟩)] ((HCL.out _ hgd).mono (by rintro e w' ⟨rfl, h1, h2⟩; exact ⟨_, rfl, rfl, h1, h2⟩)) (fun u V h => ⟨(grown_some hgd b).trans h.2.2, _, h.2.1⟩) ?_
   rintro u V ⟨rfl, hpV, hgV⟩
   (try simp only [Act.put, sA, sB, sC])
   exact wpL_l _ (tail _ _ ⟨Wl.heap_put hB hgV (by simp; show w.heap.size ≠ b; omega), Nat.le_refl _, hpV, (grown_some hgd b).trans hgV⟩)
 rintro w1 g3 ⟨hh, hl, hpV, hgV⟩
 have hS : Sbt w b p w1 := ⟨hgV, _, hpV⟩
 (try simp only [Act.put, sA, sB, sC])
 have hst := rowSet (cs := #[.string ⟨v.nm.toArray⟩, .slice v.ua v.un v.uc, .slice v.ta v.tn v.tc, .slice v.la v.ln v.lc, .slice v.ia v.jn v.ic, .int .i64 v.at_]) hh
 have hlk : ∀ k, (some g3 : Option Nat) = some k → w.heap.size ≤ k := fun k e => by cases e; exact hl
 have hS2 : Sbt w b p (w1.setRow g3 #[.string ⟨v.nm.toArray⟩, .slice v.ua v.un v.uc, .slice v.ta v.tn v.tc, .slice v.la v.ln v.lc, .slice v.ia v.jn v.ic, .int .i64 v.at_]) := Sbt.k2 w b p hbl _ _ _ hS hst.2 hlk
 refine Wl.sk 10 (w1.setRow g3 #[.string ⟨v.nm.toArray⟩, .slice v.ua v.un v.uc, .slice v.ta v.tn v.tc, .slice v.la v.ln v.lc, .slice v.ia v.jn v.ic, .int .i64 v.at_]) (run_storeNr _ _ rfl rfl rfl hh rfl) hS2 ?_
 (try simp only [Act.put, sA, sB, sC])
 obtain ⟨w2, hw2⟩ : ∃ w2, w2 = w1.setRow g3 #[.string ⟨v.nm.toArray⟩, .slice v.ua v.un v.uc, .slice v.ta v.tn v.tc, .slice v.la v.ln v.lc, .slice v.ia v.jn v.ic, .int .i64 v.at_] := ⟨_, rfl⟩
 rw [← hw2] at hst hS2 ⊢
 have hp2 : Pt w2 b p (Ty.mst 0 21 [(Ty.look N p.nm).isSome]) := (hst.2.block b (gl hpV) (by simp; omega)).trans hpV
 have hg2 := hS2.1
 have hg3b : g3 ≠ b := by omega
 have HN3 := ld hst.1
 clear hh hpV hgV hS hst hlk hw2
 refine Wl.t1 11 4 (.int .i64 z.2) hS2 ?_
 (try simp only [Act.put, sA, sB, sC])
 refine wpL_done (by kernel_rfl) ?_ _
 have m0 := cell_of_row _ _ 0 _ _ _ HN3.out
 have m1 := cell_of_row _ _ 1 _ _ _ HN3.out
 have m2 := cell_of_row _ _ 2 _ _ _ HN3.out
 have m3 := cell_of_row _ _ 3 _ _ _ HN3.out
 have m4 := cell_of_row _ _ 4 _ _ _ HN3.out
 have m5 := cell_of_row _ _ 5 _ _ _ HN3.out
 have HG3 := ld hg3b
 have HP2 := ld (And.intro hp2 hg2)
 have HB0 : Hid (w0.grownBy w2.drew none) := ld (gdrew (H.out.on hg2 hp2).ak.base)
 have HBW : Hid (b < w2.drew.heap.size) := ld (Nat.lt_of_lt_of_le hbl hg2.size)
 clear hS2 hp2 hg2 hg3b hl
 go_wp2
 refine wp_region_L (S := Sbt w2 b p) (Z := []) (by kernel_rfl) ?_
 have hS : Sbt w2 b p w2.drew := ⟨gdrew (World.grownBy.refl _ _), _, (HP2.out.1).kept (gdrew (World.grownBy.refl _ _))⟩
 refine Wl.t1 0 16 (.pointer (some ⟨g3, 1, none⟩)) hS ?_
 (try simp only [Act.put, sA, sB, sC])
 refine Wl.t2 1 17 (.slice v.ua v.un v.uc) (fun w' hw' => ?_) hS ?_
 ·have hc0 := hw'.1.cell m1 (by simp; exact HG3.out); clear hw'; go_simp
 (try simp only [Act.put, sA, sB, sC])
 refine Wl.t1 3 19 (.pointer (some ⟨g3, 2, none⟩)) hS ?_
 (try simp only [Act.put, sA, sB, sC])
 refine Wl.t2 4 20 (.slice v.ta v.tn v.tc) (fun w' hw' => ?_) hS ?_
 ·have hc0 := hw'.1.cell m2 (by simp; exact HG3.out); clear hw'; go_simp
 (try simp only [Act.put, sA, sB, sC])
 refine Wl.cg (R := fun u V => ∃ a' c', u = .slice a' v.un c' ∧ TyL V a' (d.1.ins.map Ty.vT) ∧ ∀ g off, a' = some ⟨g, off, none⟩ → g ≠ b) 2 18 84 #[.slice v.ua v.un v.uc] hS ((ttypesOf_any w0 _ (HB0.out) d.1.ins v.ua v.un v.uc HNV.out.ins (by have := varsLen HNV.out.ins; have := HNV.out.bi; omega)).mono (by rintro e w' ⟨a', c', rfl, ho, hg⟩; exact ⟨_, rfl, ⟨a', c', rfl, TyL.own ho, ownB (W := w) ho (by exact HBW.out)⟩, hg⟩)) ?_ (hSk := Sbt.k _ _ _)
 rintro u V1 ⟨a5, c5, rfl, ht5, hb5⟩ hgV hS
 (try simp only [Act.put, sA, sB, sC])
 refine Wl.cg (R := fun u V => ∃ a' c', u = .slice a' v.tn c' ∧ TyL V a' (d.1.outs.map Ty.vT) ∧ ∀ g off, a' = some ⟨g, off, none⟩ → g ≠ b) 5 21 84 #[.slice v.ta v.tn v.tc] hS ((ttypesOf_any w0 _ (HB0.out.trans hgV) d.1.outs v.ta v.tn v.tc HNV.out.outs (by have := varsLen HNV.out.outs; have := HNV.out.bo; omega)).mono (by rintro e w' ⟨a', c', rfl, ho, hg⟩; exact ⟨_, rfl, ⟨a', c', rfl, TyL.own ho, ownB (W := w) ho (by exact Nat.lt_of_lt_of_le HBW.out hgV.size)⟩, hg⟩)) ?_ (hSk := Sbt.k _ _ _)
 rintro u V2 ⟨a6, c6, rfl, ht6, hb6⟩ hgV2 hS
 (try simp only [Act.put, sA, sB, sC])
 refine Wl.t1 6 5 (.slice a5 v.un c5) hS ?_
 (try simp only [Act.put, sA, sB, sC])
 refine Wl.t1 7 6 (.slice a6 v.tn c6) hS ?_
 (try simp only [Act.put, sA, sB, sC])
 refine wpL_done (by kernel_rfl) ?_ _
 have hG2 : w2.grownBy V2 none := (gdrew (World.grownBy.refl w2 none)).trans (hgV.trans hgV2)
 have hp3 := HP2.out.1.kept hG2
 have HGW := ld (HP2.out.2.trans (grown_some hG2 b))
 have HT5 := ld (And.intro (ht5.kept hgV2) hb5)
 have HT6 := ld (And.intro ht6 hb6)
 have l0 := hG2.cell m0 (by simp)
 have l1 := hG2.cell m1 (by simp)
 have l2 := hG2.cell m2 (by simp)
 have l3 := hG2.cell m3 (by simp)
 have l4 := hG2.cell m4 (by simp)
 have l5 := hG2.cell m5 (by simp)
 clear hS hG2 ht5 ht6 hb5 hb6 hgV hgV2 m0 m1 m2 m3 m4 m5
 go_wp2
 refine wp_region_L (S := Sbt V2 b p) (Z := []) (by kernel_rfl) ?_
 have hS : Sbt V2 b p V2.drew := ⟨gdrew (World.grownBy.refl _ _), _, (hp3).kept (gdrew (World.grownBy.refl _ _))⟩
 refine Wl.t1 0 22 (.pointer (some ⟨b, 0, none⟩)) hS ?_
 (try simp only [Act.put, sA, sB, sC])
 refine Wl.t2 1 23 (.agg #[.string ⟨v.nm.toArray⟩, .slice v.ua v.un v.uc, .slice v.ta v.tn v.tc, .slice v.la v.ln v.lc, .slice v.ia v.jn v.ic, .int .i64 v.at_]) (fun w' hw' => ?_) hS ?_
 ·have hc0 := hw'.1.cell l0 (by simp; exact HG3.out); have hc1 := hw'.1.cell l1 (by simp; exact HG3.out); have hc2 := hw'.1.cell l2 (by simp; exact HG3.out); have hc3 := hw'.1.cell l3 (by simp; exact HG3.out); have hc4 := hw'.1.cell l4 (by simp; exact HG3.out); have hc5 := hw'.1.cell l5 (by simp; exact HG3.out); clear hw'; go_simp
 (try simp only [Act.put, sA, sB, sC])
 refine Wl.t1 2 24 (.pointer (some ⟨b, 0, none⟩)) hS ?_
 (try simp only [Act.put, sA, sB, sC])
 refine Wl.t1 3 25 (.pointer (some ⟨b, 0, none⟩)) hS ?_
 (try simp only [Act.put, sA, sB, sC])
 refine Wl.t1 4 26 (.pointer (some ⟨b, 10, none⟩)) hS ?_
 (try simp only [Act.put, sA, sB, sC])
 refine Wl.t2 5 27 (.slice (some ⟨gk, ok, none⟩) (zs.length + 1) p.kc) (fun w' hw' => ?_) hS ?_
 ·have hc0 := pk _ _ hw'.2.choose_spec; clear hw'; go_simp
 (try simp only [Act.put, sA, sB, sC])
 refine Wl.t2 6 28 (.int .i64 (((zs.length + 1 : Nat) : Int))) (fun w' hw' => ?_) hS ?_
 ·clear hw'; go_simp
 (try simp only [Act.put, sA, sB, sC])
 refine Wl.t1 8 30 (.slice a5 v.un c5) hS ?_
 (try simp only [Act.put, sA, sB, sC])
 refine Wl.t1 10 32 (.slice a6 v.tn c6) hS ?_
 (try simp only [Act.put, sA, sB, sC])
 refine Wl.cg (R := fun u9 V9 => Dem V9 u9 (((v.un : Int) == ((zs.length + 1 : Nat) : Int) && (v.tn : Int) == 1))) 7 29 86 #[.agg #[.string ⟨v.nm.toArray⟩, .slice v.ua v.un v.uc, .slice v.ta v.tn v.tc, .slice v.la v.ln v.lc, .slice v.ia v.jn v.ic, .int .i64 v.at_], .int .i64 ((zs.length + 1 : Nat) : Int), .int .i64 1] hS ((tcounts_any _ v ((zs.length + 1 : Nat) : Int) 1).mono (by rintro e w' ⟨v, rfl, hd, hg⟩; exact ⟨v, rfl, hd, hg⟩)) ?_ (hSk := Sbt.k _ _ _)
 intro v29 w29 hd29 hg29 hS
 obtain ⟨F29, q29, rfl⟩ := hd29.form
 (try simp only [Act.put, sA, sB, sC])
 refine Wl.cg (R := fun u9 V9 => Dem V9 u9 ((d.1.ins.map Ty.vT).all Ty.scal)) 9 31 73 #[.func (.func 74) #[] #[], .slice a5 v.un c5] hS ((tall_any _ a5 v.un c5 (d.1.ins.map Ty.vT) (by rw [List.length_map]; exact HUN.out) (by have := HUN.out; have := HNV.out.bi; omega) (HT5.out.1.kept ((gdrew (World.grownBy.refl V2 none)).trans hg29)) 74 Ty.scal (enters_of Tryz.func74 (by kernel_rfl) rfl) (fun k l V => tisScalar_any k l V)).mono (by rintro e w' ⟨v, rfl, hd, hg⟩; exact ⟨v, rfl, hd, hg⟩)) ?_ (hSk := Sbt.k _ _ _)
 intro v31 w31 hd31 hg31 hS
 obtain ⟨F31, q31, rfl⟩ := hd31.form
 (try simp only [Act.put, sA, sB, sC])
 refine Wl.cg (R := fun u9 V9 => Dem V9 u9 ((d.1.outs.map Ty.vT).all Ty.scal)) 11 33 73 #[.func (.func 74) #[] #[], .slice a6 v.tn c6] hS ((tall_any _ a6 v.tn c6 (d.1.outs.map Ty.vT) (by rw [List.length_map]; exact HTN.out) (by have := HTN.out; have := HNV.out.bo; omega) (HT6.out.1.kept ((gdrew (World.grownBy.refl V2 none)).trans (hg29.trans hg31))) 74 Ty.scal (enters_of Tryz.func74 (by kernel_rfl) rfl) (fun k l V => tisScalar_any k l V)).mono (by rintro e w' ⟨v, rfl, hd, hg⟩; exact ⟨v, rfl, hd, hg⟩)) ?_ (hSk := Sbt.k _ _ _)
 intro v33 w33 hd33 hg33 hS
 obtain ⟨F33, q33, rfl⟩ := hd33.form
 (try simp only [Act.put, sA, sB, sC])
 refine Wl.vg 12 34 (.slice (some ⟨(w33).heap.size, 0, none⟩) 3 3) ((w33).alloc (.cells #[.func (.func F29) #[] q29, .func (.func F31) #[] q31, .func (.func F33) #[] q33] 125)) hS (ga _ _ none) ?_ (hSk := Sbt.k _ _ _)
 intro hS
 (try simp only [Act.put, sA, sB, sC])
 have hal := ga w33 (.cells #[.func (.func F29) #[] q29, .func (.func F31) #[] q31, .func (.func F33) #[] q33] 125 (0, 0)) none
 have hGa : V2.grownBy (w33.alloc (.cells #[.func (.func F29) #[] q29, .func (.func F31) #[] q31, .func (.func F33) #[] q33] 125)) none := ((gdrew (World.grownBy.refl _ _)).trans ((hg29.trans hg31).trans hg33)).trans hal
 have hmu := tmust_any (w33.alloc (.cells #[.func (.func F29) #[] q29, .func (.func F31) #[] q31, .func (.func F33) #[] q33] 125)) b p (Ty.mst 0 21 [(Ty.look N p.nm).isSome]) 23 ((hp3).kept hGa) (by decide) w33.heap.size 3 [.func (.func F29) #[] q29, .func (.func F31) #[] q31, .func (.func F33) #[] q33] [((v.un : Int) == ((zs.length + 1 : Nat) : Int) && (v.tn : Int) == 1), (d.1.ins.map Ty.vT).all Ty.scal, (d.1.outs.map Ty.vT).all Ty.scal] rfl rfl (by decide) (heap_alloc_new _ _) (by have := gl (hp3); have := (((gdrew (World.grownBy.refl _ _)).trans ((hg29.trans hg31).trans hg33))).size; omega) (fun _ => dems3 ((hd29.kept (hg31.trans hg33)).kept hal) ((hd31.kept hg33).kept hal) ((hd33).kept hal))
 refine Wl.cs (R := fun u9 w' => u9 = .tuple #[] ∧ Pt w' b p (Ty.mst (Ty.mst 0 21 [(Ty.look N p.nm).isSome]) 23 [((v.un : Int) == ((zs.length + 1 : Nat) : Int) && (v.tn : Int) == 1), (d.1.ins.map Ty.vT).all Ty.scal, (d.1.outs.map Ty.vT).all Ty.scal]) ∧ (w33.alloc (.cells #[.func (.func F29) #[] q29, .func (.func F31) #[] q31, .func (.func F33) #[] q33] 125)).grownBy w' (some b)) 13 35 70 #[.pointer (some ⟨b, 0, none⟩), .int .i64 23, .slice (some ⟨w33.heap.size, 0, none⟩) 3 3] (hmu.mono (by rintro e w' ⟨rfl, h1, h2⟩; exact ⟨_, rfl, rfl, h1, h2⟩)) (fun v w' h => ⟨(grown_some hGa b).trans h.2.2, _, h.2.1⟩) ?_
 rintro v w4b ⟨rfl, hp4, hg9⟩
 have hgw4 := (grown_some hGa b).trans hg9
 clear hmu hal hGa hg9
 (try simp only [Act.put, sA, sB, sC])
 refine wpL_done (by kernel_rfl) ?_ _
 have hG4 := HGW.out.trans hgw4
 have d10 := pk _ _ hp4
 have hsm := tall_any w4b (some ⟨gk, ok, none⟩) (zs.length + 1) p.kc (z :: zs) rfl HKM.out ((HKL.out.keptB hG4 (fun g off e => by cases e; exact HZ.out))) 85 (fun t => !Ty.scal t) (enters_of Tryz.func85 (by kernel_rfl) rfl) (fun k l V => tisArray_any k l V)
 have HP4 := ld (And.intro hp4 hG4)
 have HU5 := ld (HT5.out.1.keptB hgw4 HT5.out.2)
 have HU6 := ld (HT6.out.1.keptB hgw4 HT6.out.2)
 clear hS hp4 hgw4 hG4 hd29 hd31 hd33 hg29 hg31 hg33 l0 l1 l2 l3 l4 l5 hp3
 go_wp2_with (go_at_call 73; refine hsm.mono ?_; rintro e w5 ⟨u, rfl, hd5, hg5⟩; obtain ⟨F5, q5, rfl⟩ := hd5.form; refine Hid.out ?_)
 have har := tarraysOf_any w5 (d.1.ins.map Ty.vT) z.2 a5 v.un c5 (by rw [List.length_map]; exact HUN.out) (HU5.out.kept hg5) (by have := HUN.out; have := HNV.out.bi; omega)
 clear hsm d10
 refine ld ?_
 go_wp2_with (go_at_call 88; refine har.mono ?_; rintro e w6 ⟨a7, c7, rfl, ho7, hg6⟩; refine Hid.out ?_)
 have hre := tare_any w6 b p (Ty.mst (Ty.mst 0 21 [(Ty.look N p.nm).isSome]) 23 [((v.un : Int) == ((zs.length + 1 : Nat) : Int) && (v.tn : Int) == 1), (d.1.ins.map Ty.vT).all Ty.scal, (d.1.outs.map Ty.vT).all Ty.scal]) (HP4.out.1.kept (hg5.trans hg6)) a7 v.un c7 (z :: zs) (((d.1.ins.map Ty.vT).map fun t => (t.1, z.2))) H.out.kn (by rw [List.length_map, List.length_map]; exact HUN.out) (by have := H.out.km; omega) ((H.out.on HP4.out.2 HP4.out.1).kl.kept (hg5.trans hg6)) (TyL.own ho7)
 have HD5 := ld hd5
 clear har hd5
 refine ld ?_
 go_wp2_with (go_at_call 87; refine hre.mono ?_; rintro e w7 ⟨u, rfl, hd7, hg7⟩; obtain ⟨F7, q7, rfl⟩ := hd7.form; refine Hid.out ?_)
 have hal := ga w7 (.cells #[.func (.func F5) #[] q5, .func (.func F7) #[] q7] 125 (0, 0)) none
 have hmu := tmust_any (w7.alloc (.cells #[.func (.func F5) #[] q5, .func (.func F7) #[] q7] 125)) b p (Ty.mst (Ty.mst 0 21 [(Ty.look N p.nm).isSome]) 23 [((v.un : Int) == ((zs.length + 1 : Nat) : Int) && (v.tn : Int) == 1), (d.1.ins.map Ty.vT).all Ty.scal, (d.1.outs.map Ty.vT).all Ty.scal]) 22 (HP4.out.1.kept (((hg5.trans hg6).trans hg7).trans hal)) (by decide) w7.heap.size 2 [.func (.func F5) #[] q5, .func (.func F7) #[] q7] [(z :: zs).all fun t => !Ty.scal t, (z :: zs) == ((d.1.ins.map Ty.vT).map fun t => (t.1, z.2))] rfl rfl (by decide) (heap_alloc_new _ _) (by have := HP4.out.2.size; have := ((hg5.trans hg6).trans hg7).size; omega) (fun _ => dems2 (HD5.out.kept ((hg6.trans hg7).trans hal)) (hd7.kept hal))
 have HG7 := ld (((hg5.trans hg6).trans hg7).trans hal)
 clear hal hg5 hg6 hg7 hd7 hre ho7
 refine ld ?_
 go_wp2_with (go_at_call 70; refine hmu.mono ?_; rintro e w8 ⟨rfl, hp8, hg8⟩; refine Hid.out ?_)
 have hgw8 := (grown_some HG7.out b).trans hg8
 have har := tarraysOf_any w8 (d.1.outs.map Ty.vT) z.2 a6 v.tn c6 (by rw [List.length_map]; exact HTN.out) (HU6.out.keptB hgw8 HT6.out.2) (by have := HTN.out; have := HNV.out.bo; omega)
 have HP8 := ld (And.intro hp8 (HP4.out.2.trans hgw8))
 clear hmu hp8 hg8 hgw8
 refine ld ?_
 go_wp2_with (go_at_call 88; refine har.mono ?_; rintro e w9 ⟨a9, c9, rfl, ho9, hg9⟩)
 go_ret
 exact ⟨a9, v.tn, c9, rfl, HP8.out.1.kept hg9, HP8.out.2.trans (grown_some hg9 b), fun _ => ⟨by rw [List.length_map, List.length_map]; exact HTN.out, by have := HTN.out; have := HNV.out.bo; omega, TyL.own ho9, fun x hx => by
  obtain ⟨y, hy, rfl⟩ := List.mem_map.1 hx
  exact ⟨(HNV.out.wo y hy).1, (H.out.kw z (by simp)).2⟩, TyB.own ho9⟩⟩
theorem TyB.keptB {w w' : World} {a : Option Addr} {b : Nat} (h : TyB w a) (hg : w.grownBy w' (some b)) (hb : ∀ g off, a = some ⟨g, off, none⟩ → g ≠ b) : TyB w' a := fun g off e => by
 obtain ⟨cs, h1⟩ := h g off e
 exact ⟨cs, (hg.block g (gl h1) (by simpa using hb g off e)).trans h1⟩
theorem mst_all {c code : Int} {bs : List Bool} (h : Ty.mst c code bs = 0) (hc : code ≠ 0) : c = 0 ∧ bs.all id = true := by
 unfold Ty.mst at h
 by_cases h0 : c = 0
 ·refine ⟨h0, ?_⟩
  rw [if_neg (by simp [h0])] at h
  cases hq : bs.all id with
  | true => rfl
  | false => rw [hq] at h; simp at h; exact absurd h hc
 ·rw [if_pos h0] at h; exact absurd h h0
def TyF (B : Nat) (V : World) (x : Value) (n : Nat) (ts : List Ty.T) : Prop := ∃ a c, x = .slice a n c ∧ TyL V a ts ∧ ∀ g off, a = some ⟨g, off, none⟩ → B ≤ g ∧ ∃ cs, V.heap[g]? = some (.cells cs 57 (0, 0))
theorem TyF.of {B : Nat} {V : World} {a : Option Addr} {n c : Nat} {ts : List Ty.T} (h : V.ownsRow B 57 2 (.slice a n c) n (tyR ts)) : TyF B V (.slice a n c) n ts := by
 refine ⟨a, c, rfl, TyL.own h, fun g off e => ?_⟩
 subst e
 refine ⟨(h.lt g rfl).1, ?_⟩
 rcases h.2 with ⟨h0, _⟩ | ⟨g', cap, cur, h0, _, hh, _⟩
 ·cases h0
 ·cases h0; exact ⟨_, hh⟩
theorem TyF.stay {B : Nat} {V V' : World} {x : Value} {n : Nat} {ts : List Ty.T} {r : Option Nat} (h : TyF B V x n ts) (hg : V.grownBy V' r) (hr : ∀ k, r = some k → ∃ cs, V.heap[k]? = some (.cells cs 117 (0, 0)) ∨ V.heap[k]? = some (.cells cs 117 (0, 0))) : TyF B V' x n ts := by
 obtain ⟨a, c, h1, h2, h3⟩ := h
 have hne : ∀ g off, a = some ⟨g, off, none⟩ → some g ≠ r := fun g off e e2 => by
  obtain ⟨_, cs, h4⟩ := h3 g off e
  obtain ⟨cs2, h5⟩ := hr g e2.symm
  have h6 : V.heap[g]? = some (.cells cs2 117 (0, 0)) := by rcases h5 with h5 | h5 <;> exact h5
  rw [h4] at h6
  simp at h6
 refine ⟨a, c, h1, fun t y hy => ?_, fun g off e => ?_⟩
 ·obtain ⟨g, off, e1, e2, e3⟩ := h2 t y hy
  exact ⟨g, off, e1, hg.cell e2 (hne g off e1), hg.cell e3 (hne g off e1)⟩
 ·obtain ⟨h4, cs, h5⟩ := h3 g off e
  exact ⟨h4, cs, (hg.block g (gl h5) (hne g off e)).trans h5⟩
theorem run_storeS {a : Act} {oi : Oper} {V : World} {g : Nat} {y0 : Value} {a1 : Option Addr} {n c : Nat} (x y : Operand) (ho : oi.op = .store 117 x y) (hx : a.eval x = .pointer (some ⟨g, 0, none⟩)) (hy : a.eval y = .slice a1 n c) (h : V.heap[g]? = some (.cells #[y0] 117 (0, 0))) :
  ∃ V', (execOp a.eval oi).run Tryz.prog V = .ok .skip V' ∧ V'.heap[g]? = some (.cells #[.slice a1 n c] 117 (0, 0)) ∧ V.grownBy V' (some g) := by
 have c0 := cell_of_row V g 0 _ _ _ h
 have f0 := frozen_of_row V g 0 _ _ h
 refine ⟨V.setCell ⟨g, 0, none⟩ (.slice a1 n c), ?_, by simp [World.setCell, Array.getElem?_modify, h], grown_set V ⟨g, 0, none⟩ _⟩
 unfold execOp
 rw [ho]
 simp only [hx, hy]
 go_simp
theorem tr_folded (w0 w : World) (A : Aa) (N : List (List UInt8 × (Gram.Node × Nv))) (V : List (List UInt8 × Ty.T)) (cnt b : Nat) (p : Pv) (z y : Ty.T) (zs : List Ty.T) (h : Pc w0 w A N V cnt b p (z :: y :: zs) 0) :
  Calls Tryz.prog 57 #[.pointer (some ⟨b, 0, none⟩)] w (rPost w b p ((nodeOf N p.nm).1.outs.map Ty.vT) (Ty.mst (Ty.mst (Ty.mst 0 21 [(Ty.look N p.nm).isSome]) 23 [(((nodeOf N p.nm).1.ins.length : Int) == 2 && ((nodeOf N p.nm).1.outs.length : Int) == 1), ((nodeOf N p.nm).1.ins.map Ty.vT).all Ty.scal, ((nodeOf N p.nm).1.outs.map Ty.vT).all Ty.scal]) 22 [(Ty.k0 ((nodeOf N p.nm).1.ins.map Ty.vT) == Ty.k0 ((nodeOf N p.nm).1.outs.map Ty.vT) && Ty.k0 ((nodeOf N p.nm).1.ins.map Ty.vT) == z), (!Ty.scal y && (Ty.k1 ((nodeOf N p.nm).1.ins.map Ty.vT)).1 == y.1)])) := by
 have hp := h.pt
 have hbl := gl hp
 have hga := ga w (.cells #[.pointer (some ⟨b, 0, none⟩)] 99 (0, 0)) none
 have pb0 := cell_of_row _ _ 0 _ _ _ (heap_alloc_new w (.cells #[.pointer (some ⟨b, 0, none⟩)] 99 (0, 0)))
 obtain ⟨d, hd⟩ : ∃ d, d = nodeOf N p.nm := ⟨_, rfl⟩
 obtain ⟨v, hv⟩ : ∃ v, v = d.2 := ⟨_, rfl⟩
 have HNV : Hid (NodeV w0 d.1 v) := ld (by rw [hv, hd]; exact (h.ak.node p.nm h.sh).2)
 have hcl := tcalled w0 (w.alloc (.cells #[.pointer (some ⟨b, 0, none⟩)] 99)) A N V cnt b p (z :: y :: zs) (h.kept hga)
 rw [← hd, ← hv] at hcl
 have HUN := ld (varsLen HNV.out.ins).1
 have HTN := ld (varsLen HNV.out.outs).1
 rw [← hd]
 have e1 : (d.1.ins.length : Int) = (v.un : Int) := by rw [HUN.out]
 have e2 : (d.1.outs.length : Int) = (v.tn : Int) := by rw [HTN.out]
 rw [e1, e2]
 have H := ld h
 have HGA := ld hga
 have HPB := ld (show w.heap.size ≠ b by omega)
 have hmf := makeFunc_run
 clear h hp hd hv e1 e2 hga
 unfold Nv.cells at hcl
 go_enter Tryz.func57, Tryz.ntmps57
 go_wp2_with (go_at_call 82; refine hcl.mono ?_; rintro e w1 ⟨rfl, hp1, hg1⟩; refine Hid.out ?_)
 have hga := ga w1 (.cells #[.string ⟨v.nm.toArray⟩, .slice v.ua v.un v.uc, .slice v.ta v.tn v.tc, .slice v.la v.ln v.lc, .slice v.ia v.jn v.ic, .int .i64 v.at_] 44) none
 have hnr := heap_alloc_new w1 (.cells #[.string ⟨v.nm.toArray⟩, .slice v.ua v.un v.uc, .slice v.ta v.tn v.tc, .slice v.la v.ln v.lc, .slice v.ia v.jn v.ic, .int .i64 v.at_] 44)
 obtain ⟨W, hW⟩ : ∃ W, W = w1.alloc (.cells #[.string ⟨v.nm.toArray⟩, .slice v.ua v.un v.uc, .slice v.ta v.tn v.tc, .slice v.la v.ln v.lc, .slice v.ia v.jn v.ic, .int .i64 v.at_] 44) := ⟨_, rfl⟩
 obtain ⟨g3, hg3e⟩ : ∃ g3, g3 = w1.heap.size := ⟨_, rfl⟩
 rw [← hW] at hga hnr
 rw [← hg3e] at hnr
 have HPW := ld (hp1.kept hga)
 have HGW := ld (((grown_some HGA.out b).trans hg1).trans (grown_some hga b))
 have HNG := ld (show g3 ≠ b by have := hg1.size; simp at this; omega)
 have HBW : Hid (b < W.heap.size) := ld (by have := HGW.out.size; omega)
 have n0 := cell_of_row _ _ 0 _ _ _ hnr
 have n1 := cell_of_row _ _ 1 _ _ _ hnr
 have n2 := cell_of_row _ _ 2 _ _ _ hnr
 have n3 := cell_of_row _ _ 3 _ _ _ hnr
 have n4 := cell_of_row _ _ 4 _ _ _ hnr
 have n5 := cell_of_row _ _ 5 _ _ _ hnr
 have np := hga.cell (hg1.cell pb0 (by simp; exact HPB.out)) (by simp)
 clear hcl hp1 hg1 hga hnr pb0
 refine ld ?_
 go_wp2
 rw [← hW, ← hg3e]
 clear hW hg3e
 have HB0 : Hid (w0.grownBy W.drew none) := ld (gdrew (H.out.on HGW.out HPW.out).ak.base)
 refine wp_region_L (S := Sbt W b p) (Z := []) (by kernel_rfl) ?_
 have hS : Sbt W b p W.drew := ⟨gdrew (World.grownBy.refl _ _), _, (HPW.out).kept (gdrew (World.grownBy.refl _ _))⟩
 refine Wl.t1 0 8 (.pointer (some ⟨g3, 1, none⟩)) hS ?_
 (try simp only [Act.put, sA, sB, sC])
 refine Wl.t2 1 9 (.slice v.ua v.un v.uc) (fun w' hw' => ?_) hS ?_
 ·have hc0 := hw'.1.cell n1 (by simp; exact HNG.out); clear hw'; go_simp
 (try simp only [Act.put, sA, sB, sC])
 refine Wl.t1 3 11 (.pointer (some ⟨g3, 2, none⟩)) hS ?_
 (try simp only [Act.put, sA, sB, sC])
 refine Wl.t2 4 12 (.slice v.ta v.tn v.tc) (fun w' hw' => ?_) hS ?_
 ·have hc0 := hw'.1.cell n2 (by simp; exact HNG.out); clear hw'; go_simp
 (try simp only [Act.put, sA, sB, sC])
 refine wpL_l #[true, true, false, true, true, false, false, false, false, false] ?_
 refine Wl.cas2 (R1 := fun x V => TyF W.drew.heap.size V x v.un (d.1.ins.map Ty.vT)) (R2 := fun x V => TyF W.drew.heap.size V x v.tn (d.1.outs.map Ty.vT)) (fun x9 g9 y9 h9 => { tmps := #[.pointer (some ⟨b, 0, none⟩), .pointer (some ⟨w.heap.size, 0, none⟩), .slice none 0 0, .pointer (some ⟨g3, 0, none⟩), g9, h9, .pointer (some ⟨b, 0, none⟩), .agg #[.string ⟨v.nm.toArray⟩, .slice v.ua v.un v.uc, .slice v.ta v.tn v.tc, .slice v.la v.ln v.lc, .slice v.ia v.jn v.ic, .int .i64 v.at_], .pointer (some ⟨g3, 1, none⟩), .slice v.ua v.un v.uc, x9, .pointer (some ⟨g3, 2, none⟩), .slice v.ta v.tn v.tc, y9, undef, undef, undef, undef, undef, undef, undef, undef, undef, undef, undef, undef, undef, undef, undef], defers := [] }) (fun a9 b9 c9 d9 e9 f9 => #[true, true, a9, true, true, d9, b9, e9, c9, f9]) 2 10 6 4 8 5 13 7 5 9 117 117 (.slice none 0 0) (.slice none 0 0) hS (fun _ _ _ V hV => .inl ⟨84, #[.slice v.ua v.un v.uc], by kernel_rfl, (ttypesOf_any w0 V (HB0.out.trans hV) d.1.ins v.ua v.un v.uc HNV.out.ins (by have := varsLen HNV.out.ins; have := HNV.out.bi; omega)).mono (by rintro e w' ⟨a', c', rfl, ho, hg⟩; exact ⟨_, rfl, TyF.of (ho.mono hV.size), hg⟩)⟩) (fun _ _ _ V hV => .inl ⟨84, #[.slice v.ta v.tn v.tc], by kernel_rfl, (ttypesOf_any w0 V (HB0.out.trans hV) d.1.outs v.ta v.tn v.tc HNV.out.outs (by have := varsLen HNV.out.outs; have := HNV.out.bo; omega)).mono (by rintro e w' ⟨a', c', rfl, ho, hg⟩; exact ⟨_, rfl, TyF.of (ho.mono hV.size), hg⟩)⟩) (fun _ _ _ _ => by kernel_rfl) (fun _ _ _ _ => by kernel_rfl) (fun x g y h V hV hR => by obtain ⟨a9, c9, rfl, _⟩ := hR; exact run_storeS _ _ rfl rfl rfl hV) (fun x g y h V hV hR => by obtain ⟨a9, c9, rfl, _⟩ := hR; exact run_storeS _ _ rfl rfl rfl hV) (fun x V V' r h g hr => h.stay g hr) (fun x V V' r h g hr => h.stay g hr) (fun _ _ _ _ _ => rfl) (fun _ _ _ _ _ => rfl) (fun _ _ _ _ _ => rfl) (fun _ _ _ _ _ => rfl) (fun _ _ _ _ _ _ => rfl) (fun _ _ _ _ _ _ => rfl) (fun _ _ _ _ _ _ => rfl) (fun _ _ _ _ _ _ => rfl) (fun _ _ _ _ _ _ => rfl) (fun _ _ _ _ _ _ => rfl) ?_ (hi1 := rfl) (hk1 := rfl) (hm1 := rfl) (hi2 := rfl) (hk2 := rfl) (hm2 := rfl) (hSk := Sbt.k2 W b p HBW.out)
 rintro x1 g4 x2 g5 V2 hR1 hh4 hR2 hh5 l4 l5 hne hg2 hS
 obtain ⟨a5, c5, rfl, ht5, hb5⟩ := hR1
 obtain ⟨a6, c6, rfl, ht6, hb6⟩ := hR2
 refine wpL_done (by kernel_rfl) ?_ _
 have hG2 : W.grownBy V2 none := (gdrew (World.grownBy.refl W none)).trans hg2
 have hp3 := HPW.out.kept hG2
 have HGW2 := ld (HGW.out.trans (grown_some hG2 b))
 have HT5 := ld ht5
 have HT6 := ld ht6
 have HTB5 : Hid (∀ g off, a5 = some ⟨g, off, none⟩ → g ≠ b) := ld (fun g off e => by have := (hb5 g off e).1; have := HBW.out; show g ≠ b; have h9 : W.drew.heap.size = W.heap.size := rfl; omega)
 have HTC6 : Hid (TyB V2 a6) := ld (fun g off e => (hb6 g off e).2)
 have HTB6 : Hid (∀ g off, a6 = some ⟨g, off, none⟩ → g ≠ b) := ld (fun g off e => by have := (hb6 g off e).1; have := HBW.out; show g ≠ b; have h9 : W.drew.heap.size = W.heap.size := rfl; omega)
 have HG4 := ld (show g4 ≠ b by have h9 : W.heap.size ≤ g4 := l4; have := HBW.out; omega)
 have HG5 := ld (show g5 ≠ b by have h9 : W.heap.size ≤ g5 := l5; have := HBW.out; omega)
 have l0 := hG2.cell n0 (by simp)
 have l1 := hG2.cell n1 (by simp)
 have l2 := hG2.cell n2 (by simp)
 have l3 := hG2.cell n3 (by simp)
 have lp := hG2.cell np (by simp)
 have l6 := cell_of_row _ _ 0 _ _ _ hh4
 have l7 := cell_of_row _ _ 0 _ _ _ hh5
 have l4' := hG2.cell n4 (by simp)
 have l5' := hG2.cell n5 (by simp)
 clear l4 l5
 have l4 := l4'
 have l5 := l5'
 clear hS hG2 ht5 ht6 hb5 hb6 hg2 hh4 hh5 hne n0 n1 n2 n3 n4 n5 np l4' l5'
 go_wp2
 refine wp_region_L (S := Sbt V2 b p) (Z := []) (by kernel_rfl) ?_
 have hS : Sbt V2 b p V2.drew := ⟨gdrew (World.grownBy.refl _ _), _, (hp3).kept (gdrew (World.grownBy.refl _ _))⟩
 refine Wl.t2 0 14 (.pointer (some ⟨b, 0, none⟩)) (fun w' hw' => ?_) hS ?_
 ·have hc0 := hw'.1.cell lp (by simp; exact HPB.out); clear hw'; go_simp
 (try simp only [Act.put, sA, sB, sC])
 refine Wl.t2 1 15 (.agg #[.string ⟨v.nm.toArray⟩, .slice v.ua v.un v.uc, .slice v.ta v.tn v.tc, .slice v.la v.ln v.lc, .slice v.ia v.jn v.ic, .int .i64 v.at_]) (fun w' hw' => ?_) hS ?_
 ·have hc0 := hw'.1.cell l0 (by simp; exact HNG.out); have hc1 := hw'.1.cell l1 (by simp; exact HNG.out); have hc2 := hw'.1.cell l2 (by simp; exact HNG.out); have hc3 := hw'.1.cell l3 (by simp; exact HNG.out); have hc4 := hw'.1.cell l4 (by simp; exact HNG.out); have hc5 := hw'.1.cell l5 (by simp; exact HNG.out); clear hw'; go_simp
 (try simp only [Act.put, sA, sB, sC])
 refine Wl.t2 3 17 (.slice a5 v.un c5) (fun w' hw' => ?_) hS ?_
 ·have hc0 := hw'.1.cell l6 (by simp; exact HG4.out); clear hw'; go_simp
 (try simp only [Act.put, sA, sB, sC])
 refine Wl.t2 5 19 (.slice a6 v.tn c6) (fun w' hw' => ?_) hS ?_
 ·have hc0 := hw'.1.cell l7 (by simp; exact HG5.out); clear hw'; go_simp
 (try simp only [Act.put, sA, sB, sC])
 refine Wl.cg (R := fun u9 V9 => Dem V9 u9 (((v.un : Int) == 2 && (v.tn : Int) == 1))) 2 16 86 #[.agg #[.string ⟨v.nm.toArray⟩, .slice v.ua v.un v.uc, .slice v.ta v.tn v.tc, .slice v.la v.ln v.lc, .slice v.ia v.jn v.ic, .int .i64 v.at_], .int .i64 2, .int .i64 1] hS ((tcounts_any _ v 2 1).mono (by rintro e w' ⟨v, rfl, hd, hg⟩; exact ⟨v, rfl, hd, hg⟩)) ?_ (hSk := Sbt.k _ _ _)
 intro v16 w16 hd16 hg16 hS
 obtain ⟨F16, q16, rfl⟩ := hd16.form
 (try simp only [Act.put, sA, sB, sC])
 refine Wl.cg (R := fun u9 V9 => Dem V9 u9 ((d.1.ins.map Ty.vT).all Ty.scal)) 4 18 73 #[.func (.func 74) #[] #[], .slice a5 v.un c5] hS ((tall_any _ a5 v.un c5 (d.1.ins.map Ty.vT) (by rw [List.length_map]; exact HUN.out) (by have := HUN.out; have := HNV.out.bi; omega) (HT5.out.kept ((gdrew (World.grownBy.refl V2 none)).trans hg16)) 74 Ty.scal (enters_of Tryz.func74 (by kernel_rfl) rfl) (fun k l V => tisScalar_any k l V)).mono (by rintro e w' ⟨v, rfl, hd, hg⟩; exact ⟨v, rfl, hd, hg⟩)) ?_ (hSk := Sbt.k _ _ _)
 intro v18 w18 hd18 hg18 hS
 obtain ⟨F18, q18, rfl⟩ := hd18.form
 (try simp only [Act.put, sA, sB, sC])
 refine Wl.cg (R := fun u9 V9 => Dem V9 u9 ((d.1.outs.map Ty.vT).all Ty.scal)) 6 20 73 #[.func (.func 74) #[] #[], .slice a6 v.tn c6] hS ((tall_any _ a6 v.tn c6 (d.1.outs.map Ty.vT) (by rw [List.length_map]; exact HTN.out) (by have := HTN.out; have := HNV.out.bo; omega) (HT6.out.kept ((gdrew (World.grownBy.refl V2 none)).trans (hg16.trans hg18))) 74 Ty.scal (enters_of Tryz.func74 (by kernel_rfl) rfl) (fun k l V => tisScalar_any k l V)).mono (by rintro e w' ⟨v, rfl, hd, hg⟩; exact ⟨v, rfl, hd, hg⟩)) ?_ (hSk := Sbt.k _ _ _)
 intro v20 w20 hd20 hg20 hS
 obtain ⟨F20, q20, rfl⟩ := hd20.form
 (try simp only [Act.put, sA, sB, sC])
 refine Wl.vg 7 21 (.slice (some ⟨(w20).heap.size, 0, none⟩) 3 3) ((w20).alloc (.cells #[.func (.func F16) #[] q16, .func (.func F18) #[] q18, .func (.func F20) #[] q20] 125)) hS (ga _ _ none) ?_ (hSk := Sbt.k _ _ _)
 intro hS
 (try simp only [Act.put, sA, sB, sC])
 have hal := ga w20 (.cells #[.func (.func F16) #[] q16, .func (.func F18) #[] q18, .func (.func F20) #[] q20] 125 (0, 0)) none
 have hGa : V2.grownBy (w20.alloc (.cells #[.func (.func F16) #[] q16, .func (.func F18) #[] q18, .func (.func F20) #[] q20] 125)) none := ((gdrew (World.grownBy.refl _ _)).trans ((hg16.trans hg18).trans hg20)).trans hal
 have hmu := tmust_any (w20.alloc (.cells #[.func (.func F16) #[] q16, .func (.func F18) #[] q18, .func (.func F20) #[] q20] 125)) b p (Ty.mst 0 21 [(Ty.look N p.nm).isSome]) 23 ((hp3).kept hGa) (by decide) w20.heap.size 3 [.func (.func F16) #[] q16, .func (.func F18) #[] q18, .func (.func F20) #[] q20] [((v.un : Int) == 2 && (v.tn : Int) == 1), (d.1.ins.map Ty.vT).all Ty.scal, (d.1.outs.map Ty.vT).all Ty.scal] rfl rfl (by decide) (heap_alloc_new _ _) (by have := gl (hp3); have := (((gdrew (World.grownBy.refl _ _)).trans ((hg16.trans hg18).trans hg20))).size; omega) (fun _ => dems3 ((hd16.kept (hg18.trans hg20)).kept hal) ((hd18.kept hg20).kept hal) ((hd20).kept hal))
 refine Wl.cs (R := fun u9 w' => u9 = .tuple #[] ∧ Pt w' b p (Ty.mst (Ty.mst 0 21 [(Ty.look N p.nm).isSome]) 23 [((v.un : Int) == 2 && (v.tn : Int) == 1), (d.1.ins.map Ty.vT).all Ty.scal, (d.1.outs.map Ty.vT).all Ty.scal]) ∧ (w20.alloc (.cells #[.func (.func F16) #[] q16, .func (.func F18) #[] q18, .func (.func F20) #[] q20] 125)).grownBy w' (some b)) 8 22 70 #[.pointer (some ⟨b, 0, none⟩), .int .i64 23, .slice (some ⟨w20.heap.size, 0, none⟩) 3 3] (hmu.mono (by rintro e w' ⟨rfl, h1, h2⟩; exact ⟨_, rfl, rfl, h1, h2⟩)) (fun v w' h => ⟨(grown_some hGa b).trans h.2.2, _, h.2.1⟩) ?_
 rintro v w4b ⟨rfl, hp4, hg9⟩
 have hgw4 := (grown_some hGa b).trans hg9
 clear hmu hal hGa hg9
 (try simp only [Act.put, sA, sB, sC])
 refine wpL_done (by kernel_rfl) ?_ _
 have hG4 := HGW2.out.trans hgw4
 have kp := hgw4.cell lp (by simp; exact HPB.out)
 have k6 := hgw4.cell l6 (by simp; exact HG4.out)
 have k7 := hgw4.cell l7 (by simp; exact HG5.out)
 have hc4 := H.out.on hG4 hp4
 have hv5 := HT5.out.keptB hgw4 HTB5.out
 have hv6 := HT6.out.keptB hgw4 HTB6.out
 have hal := ga w4b (.cells #[.func (.func 89) #[] #[.pointer (some ⟨g4, 0, none⟩), .pointer (some ⟨g5, 0, none⟩), .pointer (some ⟨w.heap.size, 0, none⟩)], .func (.func 90) #[] #[.pointer (some ⟨w.heap.size, 0, none⟩), .pointer (some ⟨g4, 0, none⟩)]] 125 (0, 0)) none
 have hmu := tmust_any (w4b.alloc (.cells #[.func (.func 89) #[] #[.pointer (some ⟨g4, 0, none⟩), .pointer (some ⟨g5, 0, none⟩), .pointer (some ⟨w.heap.size, 0, none⟩)], .func (.func 90) #[] #[.pointer (some ⟨w.heap.size, 0, none⟩), .pointer (some ⟨g4, 0, none⟩)]] 125)) b p (Ty.mst (Ty.mst 0 21 [(Ty.look N p.nm).isSome]) 23 [((v.un : Int) == 2 && (v.tn : Int) == 1), (d.1.ins.map Ty.vT).all Ty.scal, (d.1.outs.map Ty.vT).all Ty.scal]) 22 (hp4.kept hal) (by decide) w4b.heap.size 2 [.func (.func 89) #[] #[.pointer (some ⟨g4, 0, none⟩), .pointer (some ⟨g5, 0, none⟩), .pointer (some ⟨w.heap.size, 0, none⟩)], .func (.func 90) #[] #[.pointer (some ⟨w.heap.size, 0, none⟩), .pointer (some ⟨g4, 0, none⟩)]] [(Ty.k0 (d.1.ins.map Ty.vT) == Ty.k0 (d.1.outs.map Ty.vT) && Ty.k0 (d.1.ins.map Ty.vT) == z), (!Ty.scal y && (Ty.k1 (d.1.ins.map Ty.vT)).1 == y.1)] rfl rfl (by decide) (heap_alloc_new _ _) (by have := gl hp4; omega) (fun h0 => by
  have hb : ((v.un : Int) == 2 && (v.tn : Int) == 1) = true := by
   have h1 := (mst_all h0 (by decide)).2
   simp only [List.all_cons, id, Bool.and_eq_true] at h1 ⊢
   exact h1.1
  simp only [Bool.and_eq_true, beq_iff_eq] at hb
  have hi2 : d.1.ins.length = 2 := by rw [← HUN.out]; omega
  have ho1 : d.1.outs.length = 1 := by rw [← HTN.out]; omega
  have hu2 : v.un = 0 + 1 + 1 := by omega
  have hu1 : v.un = 1 + 1 := by omega
  have ht1 : v.tn = 0 + 1 := by omega
  obtain ⟨p1, p2, hps⟩ : ∃ p1 p2, d.1.ins = [p1, p2] := by
   match hd : d.1.ins, hi2 with
   | [p1, p2], _ => exact ⟨p1, p2, rfl⟩
  obtain ⟨o1, hos⟩ : ∃ o1, d.1.outs = [o1] := by
   match hd : d.1.outs, ho1 with
   | [o1], _ => exact ⟨o1, rfl⟩
  rw [hps] at hv5
  rw [hos] at hv6
  rw [hps, hos]
  have hkn : p.kn = zs.length + 1 + 1 := H.out.kn
  exact dems2 ((tfolded1 w4b g4 g5 w.heap.size b p _ hp4 a5 a6 1 c5 0 c6 (zs.length + 1) (Ty.vT p1) (Ty.vT o1) z [Ty.vT p2] [] (y :: zs) hv5 hv6 hc4.kl hkn (hu1 ▸ k6) (ht1 ▸ k7) kp).kept hal)
   ((tfolded2 w4b g4 w.heap.size b p _ hp4 a5 0 c5 zs.length (Ty.vT p1) (Ty.vT p2) z y [] zs hv5 hc4.kl hkn (hu2 ▸ k6) kp).kept hal))
 have HP4 := ld (And.intro hG4 hal)
 have HV6 := ld hv6
 have HW6 := ld (HTC6.out.keptB hgw4 HTB6.out)
 have HK7 := ld k7
 clear hal hG4 hv5 hv6 hc4 hp4 hgw4 hS hd16 hd18 hd20 hg16 hg18 hg20 k6 k7 l0 l1 l2 l3 l4 l5 l6 l7 lp hp3
 go_wp2_with (go_at_call 70; refine hmu.mono ?_; rintro e w8 ⟨rfl, hp8, hg8⟩; refine Hid.out ?_)
 have hgw8 := (grown_some HP4.out.2 b).trans hg8
 have j7 := hgw8.cell HK7.out (by simp; exact HG5.out)
 have HP8 := ld (And.intro hp8 (And.intro (HP4.out.1.trans hgw8) (And.intro (HV6.out.keptB hgw8 HTB6.out) (HW6.out.keptB hgw8 HTB6.out))))
 clear hmu hp8 hg8 hgw8
 refine ld ?_
 go_wp2
 go_ret
 exact ⟨a6, v.tn, c6, rfl, HP8.out.1, HP8.out.2.1, fun _ => ⟨by rw [List.length_map]; exact HTN.out, by have := HTN.out; have := HNV.out.bo; omega, HP8.out.2.2.1, HNV.out.wo, HP8.out.2.2.2⟩⟩
def ruleF (f : Int) : Nat :=
 if f = 1 then 42 else if f = 2 then 43 else if f = 3 then 44 else if f = 4 then 45 else if f = 5 then 46 else if f = 6 then 47 else if f = 7 then 47 else if f = 8 then 47 else if f = 9 then 48 else if f = 10 then 48 else if f = 11 then 49 else if f = 12 then 50 else if f = 13 then 51 else if f = 14 then 52 else if f = 15 then 53 else if f = 16 then 54 else if f = 17 then 55 else if f = 18 then 56 else if f = 19 then 57 else 41
def mostI (f : Int) : Int := if f = 13 ∨ f = 14 ∨ f = 15 ∨ f = 18 then many else (Ty.least f : Int)
theorem rulesAt : ∀ t < 20, rulesT[t * 3]? = some (.int .i64 (Ty.least (t : Int) : Int)) ∧ rulesT[t * 3 + 1]? = some (.int .i64 (mostI (t : Int))) ∧ rulesT[t * 3 + 2]? = some (.func (.func (ruleF (t : Int))) #[] #[]) := by
 intro t ht
 match t, ht with
 | 0, _ | 1, _ | 2, _ | 3, _ | 4, _ | 5, _ | 6, _ | 7, _ | 8, _ | 9, _ | 10, _ | 11, _ | 12, _ | 13, _ | 14, _ | 15, _ | 16, _ | 17, _ | 18, _ | 19, _ => exact ⟨by kernel_rfl, by kernel_rfl, by kernel_rfl⟩
 | _ + 20, h => omega
theorem ruleOut {f : Int} (h : f < 0 ∨ 20 ≤ f) : ruleF f = ruleF 0 ∧ mostI f = mostI 0 ∧ Ty.least f = Ty.least 0 := by
 have e : ∀ k : Int, 1 ≤ k → k ≤ 19 → f ≠ k := fun k h1 h2 e => by omega
 refine ⟨?_, ?_, ?_⟩
 ·unfold ruleF; simp [e]
 ·unfold mostI Ty.least; simp [e]
 ·unfold Ty.least; simp [e]
def stOf (N : List (List UInt8 × (Gram.Node × Nv))) (V : List (List UInt8 × Ty.T)) : Ty.St := ⟨N.map fun x => (x.1, x.2.1), V⟩
theorem mst1 (code : Int) (a : Bool) : Ty.mst 0 code [a] = Ty.must [(code, a)] := by cases a <;> simp [Ty.mst, Ty.must]
theorem mst2 (code : Int) (a b : Bool) : Ty.mst 0 code [a, b] = Ty.must [(code, a), (code, b)] := by cases a <;> cases b <;> simp [Ty.mst, Ty.must]
theorem mst3 (code : Int) (a b c : Bool) : Ty.mst 0 code [a, b, c] = Ty.must [(code, a), (code, b), (code, c)] := by cases a <;> cases b <;> cases c <;> simp [Ty.mst, Ty.must]
theorem mst11 (a b : Bool) : Ty.mst (Ty.mst 0 22 [a]) 23 [b] = Ty.must [(22, a), (23, b)] := by cases a <;> cases b <;> simp [Ty.mst, Ty.must]
theorem mst21 (a b c : Bool) : Ty.mst (Ty.mst 0 22 [a, b]) 23 [c] = Ty.must [(22, a), (22, b), (23, c)] := by cases a <;> cases b <;> cases c <;> simp [Ty.mst, Ty.must]
theorem mstA (a b : Bool) : Ty.mst (Ty.mst 0 23 [a]) 22 [b] = Ty.must [(23, a), (22, b)] := by cases a <;> cases b <;> simp [Ty.mst, Ty.must]
theorem mstB (a b c d e : Bool) : Ty.mst (Ty.mst 0 23 [a, b, c]) 22 [d, e] = Ty.must [(23, a), (23, b), (23, c), (22, d), (22, e)] := by cases a <;> cases b <;> cases c <;> cases d <;> cases e <;> simp [Ty.mst, Ty.must]
theorem mst21n (c : Int) (hc : c ≠ 0) (code : Int) (bs : List Bool) : Ty.mst c code bs = c := by unfold Ty.mst; rw [if_pos hc]
theorem c0_some : Ty.mst 0 21 [true] = 0 := rfl
theorem c0_none : Ty.mst 0 21 [false] = 21 := rfl
theorem cast_beq (a b : Nat) : ((a : Int) == (b : Int)) = (a == b) := by rw [Bool.eq_iff_iff]; simp only [beq_iff_eq]; omega
theorem cast_beq1 (a : Nat) : ((a : Int) == 1) = (a == 1) := cast_beq a 1
theorem cast_beq2 (a : Nat) : ((a : Int) == 2) = (a == 2) := cast_beq a 2
theorem cast_le (a : Nat) : (decide ((1 : Int) ≤ ((a + 1 : Nat) : Int) ∧ ((a + 1 : Nat) : Int) ≤ 16)) = decide (1 ≤ a + 1 ∧ a + 1 ≤ 16) := by rw [Bool.eq_iff_iff]; simp only [decide_eq_true_eq]; omega
theorem rule_all (w0 w : World) (A : Aa) (N : List (List UInt8 × (Gram.Node × Nv))) (V : List (List UInt8 × Ty.T)) (cnt b : Nat) (p : Pv) (kts : List Ty.T) (h : Pc w0 w A N V cnt b p kts 0) (hwt : wfT (p.tk, p.tl)) (hwn : (Lit.int .i64 p.n).wf = true) (hl : Ty.least p.f ≤ kts.length) :
  ∃ ts c, Calls Tryz.prog (ruleF p.f) #[.pointer (some ⟨b, 0, none⟩)] w (rPost w b p ts c) ∧ (Ty.part (stOf N V) p.f p.s p.nm (p.tk, p.tl) p.n p.m kts).2 = c ∧ (c = 0 → (Ty.part (stOf N V) p.f p.s p.nm (p.tk, p.tl) p.n p.m kts).1 = ts) := by
 have hlk : Ty.look (stOf N V).nodes p.nm = (Ty.look N p.nm).map (·.1) := look_map (fun y : Gram.Node × Nv => y.1) N p.nm
 have cons : 1 ≤ kts.length → ∃ z zs, kts = z :: zs := fun h1 => by cases kts with | nil => simp at h1 | cons z zs => exact ⟨z, zs, rfl⟩
 have cons2 : 2 ≤ kts.length → ∃ z y zs, kts = z :: y :: zs := fun h1 => by
  match kts, h1 with
  | z :: y :: zs, _ => exact ⟨z, y, zs, rfl⟩
 generalize hf : p.f = f at hl ⊢
 by_cases h1 : f = 1
 ·subst h1
  exact ⟨_, _, tr_literal w0 w A N V cnt b p kts hwt h, rfl, fun _ => rfl⟩
 by_cases h2 : f = 2
 ·subst h2
  refine ⟨_, _, tr_variable w0 w A N V cnt b p kts h, ?_, ?_⟩
  ·simp only [Ty.part, stOf]
   cases Ty.look V p.nm <;> rfl
  ·simp only [Ty.part, stOf]
   cases Ty.look V p.nm <;> simp
 by_cases h3 : f = 3
 ·subst h3
  obtain ⟨z, zs, rfl⟩ := cons hl
  exact ⟨_, _, tr_unary w0 w A N V cnt b p z zs h, (mst2 _ _ _).symm, fun _ => rfl⟩
 by_cases h4 : f = 4
 ·subst h4
  obtain ⟨z, zs, rfl⟩ := cons (Nat.le_trans (by decide) hl)
  exact ⟨_, _, tr_binary w0 w A N V cnt b p z zs h, (mst3 _ _ _ _).symm, fun _ => rfl⟩
 by_cases h5 : f = 5
 ·subst h5
  obtain ⟨x, y, zs, rfl⟩ := cons2 (Nat.le_trans (by decide) hl)
  refine ⟨_, _, tr_choice w0 w A N V cnt b p x y zs h, ?_, fun _ => rfl⟩
  rw [mst2]
  simp only [List.all_cons, List.all_nil, Bool.and_true]
  rfl
 by_cases h6 : f = 6
 ·subst h6
  obtain ⟨z, zs, rfl⟩ := cons hl
  exact ⟨_, _, tr_alike w0 w A N V cnt b p z zs h, (mst1 _ _).symm, fun _ => rfl⟩
 by_cases h7 : f = 7
 ·subst h7
  obtain ⟨z, zs, rfl⟩ := cons (Nat.le_trans (by decide) hl)
  exact ⟨_, _, tr_alike w0 w A N V cnt b p z zs h, (mst1 _ _).symm, fun _ => rfl⟩
 by_cases h8 : f = 8
 ·subst h8
  obtain ⟨z, zs, rfl⟩ := cons (Nat.le_trans (by decide) hl)
  exact ⟨_, _, tr_alike w0 w A N V cnt b p z zs h, (mst1 _ _).symm, fun _ => rfl⟩
 by_cases h9 : f = 9
 ·subst h9
  obtain ⟨z, zs, rfl⟩ := cons hl
  refine ⟨_, _, tr_sampled w0 w A N V cnt b p z zs h, ?_, fun _ => rfl⟩
  rw [mst2]
  simp only [List.all_cons, List.all_nil, Bool.and_true]
  rfl
 by_cases h10 : f = 10
 ·subst h10
  obtain ⟨z, zs, rfl⟩ := cons (Nat.le_trans (by decide) hl)
  refine ⟨_, _, tr_sampled w0 w A N V cnt b p z zs h, ?_, fun _ => rfl⟩
  rw [mst2]
  simp only [List.all_cons, List.all_nil, Bool.and_true]
  rfl
 by_cases h11 : f = 11
 ·subst h11
  obtain ⟨z, zs, rfl⟩ := cons hl
  exact ⟨_, _, tr_cast w0 w A N V cnt b p z zs hwt h, (mst1 _ _).symm, fun _ => rfl⟩
 by_cases h12 : f = 12
 ·subst h12
  exact ⟨_, _, tr_tick w0 w A N V cnt b p kts h, (mst2 _ _ _).symm, fun _ => rfl⟩
 by_cases h15 : f = 15
 ·subst h15
  obtain ⟨z, zs, rfl⟩ := cons hl
  refine ⟨_, _, tr_array w0 w A N V cnt b p z zs h, ?_, fun _ => rfl⟩
  rw [mst21, cast_le]
  rfl
 by_cases h16 : f = 16
 ·subst h16
  obtain ⟨z, zs, rfl⟩ := cons hl
  exact ⟨_, _, tr_index w0 w A N V cnt b p z zs h, (mst11 _ _).symm, fun _ => rfl⟩
 by_cases h17 : f = 17
 ·subst h17
  obtain ⟨z, zs, rfl⟩ := cons hl
  exact ⟨_, _, tr_rep w0 w A N V cnt b p z zs hwn h, (mst11 _ _).symm, fun _ => rfl⟩
 by_cases h13 : f = 13
 ·subst h13
  refine ⟨_, _, tr_call w0 w A N V cnt b p kts h, ?_, ?_⟩
  ·unfold nodeOf
   simp only [Ty.part, hlk]
   cases Ty.look N p.nm with
   | none => simp [c0_none, mst21n]
   | some d => simp [c0_some, mstA, List.length_map]
  ·unfold nodeOf
   simp only [Ty.part, hlk]
   cases Ty.look N p.nm with
   | none => simp [c0_none, mst21n]
   | some d => simp
 by_cases h14 : f = 14
 ·subst h14
  refine ⟨_, _, tr_reset w0 w A N V cnt b p kts h, ?_, ?_⟩
  ·unfold nodeOf
   simp only [Ty.part, hlk]
   cases Ty.look N p.nm with
   | none => simp [c0_none, mst21n]
   | some d => simp [c0_some, mstA, List.length_map]
  ·unfold nodeOf
   simp only [Ty.part, hlk]
   cases Ty.look N p.nm with
   | none => simp [c0_none, mst21n]
   | some d => simp
 by_cases h18 : f = 18
 ·subst h18
  obtain ⟨z, zs, rfl⟩ := cons hl
  refine ⟨_, _, tr_mapped w0 w A N V cnt b p z zs h, ?_, ?_⟩
  ·unfold nodeOf
   simp only [Ty.part, hlk]
   cases Ty.look N p.nm with
   | none => simp [c0_none, mst21n]
   | some d =>
    have e9 : ((d.1.ins.length : Int) == (zs.length : Int) + 1) = (d.1.ins.length == zs.length + 1) := cast_beq _ (zs.length + 1)
    simp [c0_some, mstB, List.length_map, e9, cast_beq1, Ty.k0]
  ·unfold nodeOf
   simp only [Ty.part, hlk]
   cases Ty.look N p.nm with
   | none => simp [c0_none, mst21n]
   | some d => simp [Ty.k0]
 by_cases h19 : f = 19
 ·subst h19
  obtain ⟨z, y, zs, rfl⟩ := cons2 hl
  refine ⟨_, _, tr_folded w0 w A N V cnt b p z y zs h, ?_, ?_⟩
  ·unfold nodeOf
   simp only [Ty.part, hlk]
   cases Ty.look N p.nm with
   | none => simp [c0_none, mst21n]
   | some d => simp [c0_some, mstB, List.length_map, cast_beq1, cast_beq2, Ty.k0, Ty.k1]
  ·unfold nodeOf
   simp only [Ty.part, hlk]
   cases Ty.look N p.nm with
   | none => simp [c0_none, mst21n]
   | some d => simp
 have e : ruleF f = 41 := by unfold ruleF; simp [h1, h2, h3, h4, h5, h6, h7, h8, h9, h10, h11, h12, h13, h14, h15, h16, h17, h18, h19]
 rw [e]
 refine ⟨_, _, tr_unknown w0 w A N V cnt b p kts h, ?_, fun e => by cases e⟩
 unfold Ty.part
 simp [h1, h2, h3, h4, h5, h6, h7, h8, h9, h10, h11, h12, h13, h14, h15, h16, h17, h18, h19]
def rule0 : Obj := .cells #[.int .i64 0, .int .i64 0, .nilFunc] 101
theorem truleOf {w0 w : World} {A : Aa} {N : List (List UInt8 × (Gram.Node × Nv))} {V : List (List UInt8 × Ty.T)} {cnt : Nat} (h : Ak w0 w A N V cnt) (f : Int) :
  Calls Tryz.prog 159 #[.pointer (some ⟨A.c, 0, none⟩), .int .i64 f] w fun e w' => e = .returned (.agg #[.int .i64 (Ty.least f : Int), .int .i64 (mostI f), .func (.func (ruleF f)) #[] #[]]) ∧ w.grownBy w' none := by
 have hga := ga w rule0 none
 have hra := heap_alloc_new w rule0
 have c0 := hga.cell (cell_of_row w _ 0 _ _ _ h.cc) (by simp)
 have row : ∀ t < 20, (w.alloc rule0).cell? ⟨A.rb, t * 3, none⟩ = some (.int .i64 (Ty.least (t : Int) : Int)) ∧ (w.alloc rule0).cell? ⟨A.rb, t * 3 + 1, none⟩ = some (.int .i64 (mostI (t : Int))) ∧ (w.alloc rule0).cell? ⟨A.rb, t * 3 + 2, none⟩ = some (.func (.func (ruleF (t : Int))) #[] #[]) := fun t ht => by
  obtain ⟨h1, h2, h3⟩ := rulesAt t ht
  exact ⟨hga.cell ((cell_of_row w _ _ _ _ _ h.rr).trans (by simpa using h1)) (by simp), hga.cell ((cell_of_row w _ _ _ _ _ h.rr).trans (by simpa using h2)) (by simp), hga.cell ((cell_of_row w _ _ _ _ _ h.rr).trans (by simpa using h3)) (by simp)⟩
 have HGA := ld hga
 have HRA := ld hra
 clear hga hra h
 by_cases hin : 0 ≤ f ∧ f < 20
 ·obtain ⟨t, rfl⟩ : ∃ t : Nat, f = (t : Int) := ⟨f.toNat, by omega⟩
  obtain ⟨r0, r1, r2⟩ := row t (by omega)
  have d1 : decide ((t : Int) < 0) = false := by rw [decide_eq_false_iff_not]; omega
  have d2 : decide ((t : Int) ≥ 20) = false := by rw [decide_eq_false_iff_not]; omega
  have d3 : decide ((20 : Int) ≤ (t : Int)) = false := by rw [decide_eq_false_iff_not]; omega
  have hlt : t < 20 := by omega
  clear row hin
  unfold rule0 at *
  go_enter Tryz.func159, Tryz.ntmps159
  go_wp2_with (with_reducible refine hold_st 4 ?_)
  refine ld ?_
  refine sg HRA.out ?_
  intro w7 hh7 hg7
  go_wp2
  (try simp only [Exit.inBlock, Exit.then])
  refine br hh7 Tryz.underlying101 ?_
  exact ⟨rfl, HGA.out.andThen hg7 (fun j e => .inl (by cases e; exact Nat.le_refl _))⟩
 ·obtain ⟨e1, e2, e3⟩ := ruleOut (f := f) (by omega)
  obtain ⟨r0, r1, r2⟩ := row 0 (by decide)
  rw [e1, e2, e3]
  simp only [Nat.zero_mul, Nat.zero_add] at r0 r1 r2
  have z9 : ((0 : Nat) : Int) = 0 := rfl
  rw [z9] at r0 r1 r2
  clear z9
  clear row e1 e2 e3
  unfold rule0 at *
  by_cases hneg : f < 0
  ·have d1 : decide (f < 0) = true := by simpa using hneg
   clear hin
   go_enter Tryz.func159, Tryz.ntmps159
   go_wp2_with (with_reducible refine hold_st 4 ?_)
   refine ld ?_
   refine sg HRA.out ?_
   intro w7 hh7 hg7
   go_wp2
   (try simp only [Exit.inBlock, Exit.then])
   refine br hh7 Tryz.underlying101 ?_
   exact ⟨rfl, HGA.out.andThen hg7 (fun j e => .inl (by cases e; exact Nat.le_refl _))⟩
  ·have d1 : decide (f < 0) = false := by simpa using hneg
   have d2 : decide (f ≥ 20) = true := by rw [decide_eq_true_iff]; omega
   have d3 : decide (20 ≤ f) = true := by rw [decide_eq_true_iff]; omega
   clear hin hneg
   go_enter Tryz.func159, Tryz.ntmps159
   go_wp2_with (with_reducible refine hold_st 4 ?_)
   refine ld ?_
   refine sg HRA.out ?_
   intro w7 hh7 hg7
   go_wp2
   (try simp only [Exit.inBlock, Exit.then])
   refine br hh7 Tryz.underlying101 ?_
   exact ⟨rfl, HGA.out.andThen hg7 (fun j e => .inl (by cases e; exact Nat.le_refl _))⟩
end Go.Proofs.YtbbamgjdnibldaaGreat
