/- show's printer: exp comes to what prints each form (written by mkshg.py). -/
import Derived.Test.YtachmiajldeakaaGreatDoorShF
namespace Go.Proofs.YtachmiajldeakaaGreatDoor
open Go.RowKit Go.Maps Go.WideMaps

theorem Pr.form {B b : Nat} {l : List UInt8} {w : World} (h : Pr B b l w) (f : Nat) {v : Value} (hf : formsV[f]? = some v) : w.cell? ⟨b, 2 + f, none⟩ = some v := by
  obtain ⟨p, _, _, u, hb, _⟩ := h.at_
  rw [Lib.cell_of_heap hb]
  simp only [List.getElem?_toArray]
  rw [show 2 + f = f + 1 + 1 by omega, List.getElem?_cons_succ, List.getElem?_cons_succ]
  exact hf

set_option maxHeartbeats 4000000 in
set_option maxRecDepth 100000 in
theorem exp_literal (B b : Nat) (l l' : List UInt8) (s tk tl n m at_ : Int) (nm : ByteArray) (ka : Option Addr) (kn kc : Nat) (w : World) (h : Pr B b l w) (hBw : B ≤ w.heap.size)
    (hc : ∀ W, w.grownBy W none → Calls Tryz.prog 44 #[.pointer (some ⟨b, 0, none⟩), .agg #[.int .i64 1, .int .i64 s, .string nm, .int .i64 tk, .int .i64 tl, .int .i64 n, .int .i64 m, .slice ka kn kc, .int .i64 at_]] W fun e w' => e = .returned (.tuple #[]) ∧ Pr B b l' w' ∧ Kb B b W w') :
    Calls Tryz.prog 13 #[.pointer (some ⟨b, 0, none⟩), .agg #[.int .i64 1, .int .i64 s, .string nm, .int .i64 tk, .int .i64 tl, .int .i64 n, .int .i64 m, .slice ka kn kc, .int .i64 at_]] w fun e w' => e = .returned (.tuple #[]) ∧ Pr B b l' w' ∧ Kb B b w w' := by
  have hbl : w.heap.size ≠ b := by have := h.lt; omega
  have hfm := h.form 1 (v := .func (.func 44) #[] #[]) rfl
  have HC := Lib.hid hc
  clear hc h
  go_enter Tryz.func13, Tryz.ntmps13
  go_wp2
  obtain ⟨W0, hW0⟩ : ∃ W0, W0 = w.alloc (.cells #[.int .i64 1, .int .i64 s, .string nm, .int .i64 tk, .int .i64 tl, .int .i64 n, .int .i64 m, .slice ka kn kc, .int .i64 at_] 28) := ⟨_, rfl⟩
  have hg0 : w.grownBy W0.drew none := by
    have := World.grownBy_alloc w (.cells #[.int .i64 1, .int .i64 s, .string nm, .int .i64 tk, .int .i64 tl, .int .i64 n, .int .i64 m, .slice ka kn kc, .int .i64 at_] 28) none
    rw [← hW0] at this
    exact ⟨this.os, this.tape, this.output, this.size, this.block⟩
  have hS0 : W0.drew.heap[w.heap.size]? = some (.cells #[.int .i64 1, .int .i64 s, .string nm, .int .i64 tk, .int .i64 tl, .int .i64 n, .int .i64 m, .slice ka kn kc, .int .i64 at_] 28 (0, 0)) ∧ W0.drew.cell? ⟨b, 3, none⟩ = some (.func (.func 44) #[] #[]) := ⟨by rw [hW0]; exact heap_alloc_new w _, hg0.cell hfm (by simp)⟩
  have HG := Lib.hid hg0
  rw [← hW0]
  clear hW0 hg0 hfm
  refine wp_region_L (S := fun V => V.heap[w.heap.size]? = some (.cells #[.int .i64 1, .int .i64 s, .string nm, .int .i64 tk, .int .i64 tl, .int .i64 n, .int .i64 m, .slice ka kn kc, .int .i64 at_] 28 (0, 0)) ∧ V.cell? ⟨b, 3, none⟩ = some (.func (.func 44) #[] #[])) (Z := []) (by kernel_rfl) ?_
  refine t1 0 15 (.pointer (some ⟨b, 0, none⟩)) hS0 ?_
  (try simp only [Act.put, sA, sB, sC])
  refine t1 1 16 (.pointer (some ⟨w.heap.size, 0, none⟩)) hS0 ?_
  (try simp only [Act.put, sA, sB, sC])
  refine t2 2 17 (.int .i64 1) (fun w' hw' => ?_) hS0 ?_
  · have hc0 := cell_of_row w' _ 0 _ _ _ hw'.1; clear hw'; go_simp
  (try simp only [Act.put, sA, sB, sC])
  refine t1 3 18 (.pointer (some ⟨b, 0, none⟩)) hS0 ?_
  (try simp only [Act.put, sA, sB, sC])
  refine t1 4 19 (.pointer (some ⟨b, 2, none⟩)) hS0 ?_
  (try simp only [Act.put, sA, sB, sC])
  refine t2 5 20 (.pointer (some ⟨b, 3, none⟩)) (fun w' hw' => ?_) hS0 ?_
  · clear hw'; go_simp
  (try simp only [Act.put, sA, sB, sC])
  refine t2 6 21 (.func (.func 44) #[] #[]) (fun w' hw' => ?_) hS0 ?_
  · have hc0 := hw'.2; clear hw'; go_simp
  (try simp only [Act.put, sA, sB, sC])
  refine t1 7 22 (.pointer (some ⟨b, 0, none⟩)) hS0 ?_
  (try simp only [Act.put, sA, sB, sC])
  refine t2 8 23 (.agg #[.int .i64 1, .int .i64 s, .string nm, .int .i64 tk, .int .i64 tl, .int .i64 n, .int .i64 m, .slice ka kn kc, .int .i64 at_]) (fun w' hw' => ?_) hS0 ?_
  · have hh := hw'.1
    have d0 := cell_of_row w' _ 0 _ _ _ hh
    have d1 := cell_of_row w' _ 1 _ _ _ hh
    have d2 := cell_of_row w' _ 2 _ _ _ hh
    have d3 := cell_of_row w' _ 3 _ _ _ hh
    have d4 := cell_of_row w' _ 4 _ _ _ hh
    have d5 := cell_of_row w' _ 5 _ _ _ hh
    have d6 := cell_of_row w' _ 6 _ _ _ hh
    have d7 := cell_of_row w' _ 7 _ _ _ hh
    have d8 := cell_of_row w' _ 8 _ _ _ hh
    clear hh hw'; go_simp
  (try simp only [Act.put, sA, sB, sC])
  refine wpL_call (i := 9) (d := 24) (R := fun v w' => v = .tuple #[] ∧ Pr B b l' w' ∧ Kb B b W0.drew w') (by kernel_rfl) rfl (by kernel_rfl) (by kernel_rfl) (by kernel_rfl) ((HC.out _ HG.out).mono fun e w' he => ⟨_, he.1, rfl, he.2⟩) (fun v w' hR => ⟨hR.2.2.row hS0.1 hbl (by decide), hR.2.1.form 1 rfl⟩) (fun v w5 hR => ?_)
  obtain ⟨rfl, HR⟩ := hR
  have HR := Lib.hid HR
  (try simp only [Act.put, sA, sB, sC])
  refine wpL_done (by kernel_rfl) ?_ _
  go_wp2
  go_end0
  exact ⟨rfl, HR.out.1, ((Kb.refl B b w).grown hBw HG.out).trans HR.out.2⟩

set_option maxHeartbeats 4000000 in
set_option maxRecDepth 100000 in
theorem exp_variable (B b : Nat) (l l' : List UInt8) (s tk tl n m at_ : Int) (nm : ByteArray) (ka : Option Addr) (kn kc : Nat) (w : World) (h : Pr B b l w) (hBw : B ≤ w.heap.size)
    (hc : ∀ W, w.grownBy W none → Calls Tryz.prog 45 #[.pointer (some ⟨b, 0, none⟩), .agg #[.int .i64 2, .int .i64 s, .string nm, .int .i64 tk, .int .i64 tl, .int .i64 n, .int .i64 m, .slice ka kn kc, .int .i64 at_]] W fun e w' => e = .returned (.tuple #[]) ∧ Pr B b l' w' ∧ Kb B b W w') :
    Calls Tryz.prog 13 #[.pointer (some ⟨b, 0, none⟩), .agg #[.int .i64 2, .int .i64 s, .string nm, .int .i64 tk, .int .i64 tl, .int .i64 n, .int .i64 m, .slice ka kn kc, .int .i64 at_]] w fun e w' => e = .returned (.tuple #[]) ∧ Pr B b l' w' ∧ Kb B b w w' := by
  have hbl : w.heap.size ≠ b := by have := h.lt; omega
  have hfm := h.form 2 (v := .func (.func 45) #[] #[]) rfl
  have HC := Lib.hid hc
  clear hc h
  go_enter Tryz.func13, Tryz.ntmps13
  go_wp2
  obtain ⟨W0, hW0⟩ : ∃ W0, W0 = w.alloc (.cells #[.int .i64 2, .int .i64 s, .string nm, .int .i64 tk, .int .i64 tl, .int .i64 n, .int .i64 m, .slice ka kn kc, .int .i64 at_] 28) := ⟨_, rfl⟩
  have hg0 : w.grownBy W0.drew none := by
    have := World.grownBy_alloc w (.cells #[.int .i64 2, .int .i64 s, .string nm, .int .i64 tk, .int .i64 tl, .int .i64 n, .int .i64 m, .slice ka kn kc, .int .i64 at_] 28) none
    rw [← hW0] at this
    exact ⟨this.os, this.tape, this.output, this.size, this.block⟩
  have hS0 : W0.drew.heap[w.heap.size]? = some (.cells #[.int .i64 2, .int .i64 s, .string nm, .int .i64 tk, .int .i64 tl, .int .i64 n, .int .i64 m, .slice ka kn kc, .int .i64 at_] 28 (0, 0)) ∧ W0.drew.cell? ⟨b, 4, none⟩ = some (.func (.func 45) #[] #[]) := ⟨by rw [hW0]; exact heap_alloc_new w _, hg0.cell hfm (by simp)⟩
  have HG := Lib.hid hg0
  rw [← hW0]
  clear hW0 hg0 hfm
  refine wp_region_L (S := fun V => V.heap[w.heap.size]? = some (.cells #[.int .i64 2, .int .i64 s, .string nm, .int .i64 tk, .int .i64 tl, .int .i64 n, .int .i64 m, .slice ka kn kc, .int .i64 at_] 28 (0, 0)) ∧ V.cell? ⟨b, 4, none⟩ = some (.func (.func 45) #[] #[])) (Z := []) (by kernel_rfl) ?_
  refine t1 0 15 (.pointer (some ⟨b, 0, none⟩)) hS0 ?_
  (try simp only [Act.put, sA, sB, sC])
  refine t1 1 16 (.pointer (some ⟨w.heap.size, 0, none⟩)) hS0 ?_
  (try simp only [Act.put, sA, sB, sC])
  refine t2 2 17 (.int .i64 2) (fun w' hw' => ?_) hS0 ?_
  · have hc0 := cell_of_row w' _ 0 _ _ _ hw'.1; clear hw'; go_simp
  (try simp only [Act.put, sA, sB, sC])
  refine t1 3 18 (.pointer (some ⟨b, 0, none⟩)) hS0 ?_
  (try simp only [Act.put, sA, sB, sC])
  refine t1 4 19 (.pointer (some ⟨b, 2, none⟩)) hS0 ?_
  (try simp only [Act.put, sA, sB, sC])
  refine t2 5 20 (.pointer (some ⟨b, 4, none⟩)) (fun w' hw' => ?_) hS0 ?_
  · clear hw'; go_simp
  (try simp only [Act.put, sA, sB, sC])
  refine t2 6 21 (.func (.func 45) #[] #[]) (fun w' hw' => ?_) hS0 ?_
  · have hc0 := hw'.2; clear hw'; go_simp
  (try simp only [Act.put, sA, sB, sC])
  refine t1 7 22 (.pointer (some ⟨b, 0, none⟩)) hS0 ?_
  (try simp only [Act.put, sA, sB, sC])
  refine t2 8 23 (.agg #[.int .i64 2, .int .i64 s, .string nm, .int .i64 tk, .int .i64 tl, .int .i64 n, .int .i64 m, .slice ka kn kc, .int .i64 at_]) (fun w' hw' => ?_) hS0 ?_
  · have hh := hw'.1
    have d0 := cell_of_row w' _ 0 _ _ _ hh
    have d1 := cell_of_row w' _ 1 _ _ _ hh
    have d2 := cell_of_row w' _ 2 _ _ _ hh
    have d3 := cell_of_row w' _ 3 _ _ _ hh
    have d4 := cell_of_row w' _ 4 _ _ _ hh
    have d5 := cell_of_row w' _ 5 _ _ _ hh
    have d6 := cell_of_row w' _ 6 _ _ _ hh
    have d7 := cell_of_row w' _ 7 _ _ _ hh
    have d8 := cell_of_row w' _ 8 _ _ _ hh
    clear hh hw'; go_simp
  (try simp only [Act.put, sA, sB, sC])
  refine wpL_call (i := 9) (d := 24) (R := fun v w' => v = .tuple #[] ∧ Pr B b l' w' ∧ Kb B b W0.drew w') (by kernel_rfl) rfl (by kernel_rfl) (by kernel_rfl) (by kernel_rfl) ((HC.out _ HG.out).mono fun e w' he => ⟨_, he.1, rfl, he.2⟩) (fun v w' hR => ⟨hR.2.2.row hS0.1 hbl (by decide), hR.2.1.form 2 rfl⟩) (fun v w5 hR => ?_)
  obtain ⟨rfl, HR⟩ := hR
  have HR := Lib.hid HR
  (try simp only [Act.put, sA, sB, sC])
  refine wpL_done (by kernel_rfl) ?_ _
  go_wp2
  go_end0
  exact ⟨rfl, HR.out.1, ((Kb.refl B b w).grown hBw HG.out).trans HR.out.2⟩

set_option maxHeartbeats 4000000 in
set_option maxRecDepth 100000 in
theorem exp_binary (B b : Nat) (l l' : List UInt8) (s tk tl n m at_ : Int) (nm : ByteArray) (ka : Option Addr) (kn kc : Nat) (w : World) (h : Pr B b l w) (hBw : B ≤ w.heap.size)
    (hc : ∀ W, w.grownBy W none → Calls Tryz.prog 47 #[.pointer (some ⟨b, 0, none⟩), .agg #[.int .i64 4, .int .i64 s, .string nm, .int .i64 tk, .int .i64 tl, .int .i64 n, .int .i64 m, .slice ka kn kc, .int .i64 at_]] W fun e w' => e = .returned (.tuple #[]) ∧ Pr B b l' w' ∧ Kb B b W w') :
    Calls Tryz.prog 13 #[.pointer (some ⟨b, 0, none⟩), .agg #[.int .i64 4, .int .i64 s, .string nm, .int .i64 tk, .int .i64 tl, .int .i64 n, .int .i64 m, .slice ka kn kc, .int .i64 at_]] w fun e w' => e = .returned (.tuple #[]) ∧ Pr B b l' w' ∧ Kb B b w w' := by
  have hbl : w.heap.size ≠ b := by have := h.lt; omega
  have hfm := h.form 4 (v := .func (.func 47) #[] #[]) rfl
  have HC := Lib.hid hc
  clear hc h
  go_enter Tryz.func13, Tryz.ntmps13
  go_wp2
  obtain ⟨W0, hW0⟩ : ∃ W0, W0 = w.alloc (.cells #[.int .i64 4, .int .i64 s, .string nm, .int .i64 tk, .int .i64 tl, .int .i64 n, .int .i64 m, .slice ka kn kc, .int .i64 at_] 28) := ⟨_, rfl⟩
  have hg0 : w.grownBy W0.drew none := by
    have := World.grownBy_alloc w (.cells #[.int .i64 4, .int .i64 s, .string nm, .int .i64 tk, .int .i64 tl, .int .i64 n, .int .i64 m, .slice ka kn kc, .int .i64 at_] 28) none
    rw [← hW0] at this
    exact ⟨this.os, this.tape, this.output, this.size, this.block⟩
  have hS0 : W0.drew.heap[w.heap.size]? = some (.cells #[.int .i64 4, .int .i64 s, .string nm, .int .i64 tk, .int .i64 tl, .int .i64 n, .int .i64 m, .slice ka kn kc, .int .i64 at_] 28 (0, 0)) ∧ W0.drew.cell? ⟨b, 6, none⟩ = some (.func (.func 47) #[] #[]) := ⟨by rw [hW0]; exact heap_alloc_new w _, hg0.cell hfm (by simp)⟩
  have HG := Lib.hid hg0
  rw [← hW0]
  clear hW0 hg0 hfm
  refine wp_region_L (S := fun V => V.heap[w.heap.size]? = some (.cells #[.int .i64 4, .int .i64 s, .string nm, .int .i64 tk, .int .i64 tl, .int .i64 n, .int .i64 m, .slice ka kn kc, .int .i64 at_] 28 (0, 0)) ∧ V.cell? ⟨b, 6, none⟩ = some (.func (.func 47) #[] #[])) (Z := []) (by kernel_rfl) ?_
  refine t1 0 15 (.pointer (some ⟨b, 0, none⟩)) hS0 ?_
  (try simp only [Act.put, sA, sB, sC])
  refine t1 1 16 (.pointer (some ⟨w.heap.size, 0, none⟩)) hS0 ?_
  (try simp only [Act.put, sA, sB, sC])
  refine t2 2 17 (.int .i64 4) (fun w' hw' => ?_) hS0 ?_
  · have hc0 := cell_of_row w' _ 0 _ _ _ hw'.1; clear hw'; go_simp
  (try simp only [Act.put, sA, sB, sC])
  refine t1 3 18 (.pointer (some ⟨b, 0, none⟩)) hS0 ?_
  (try simp only [Act.put, sA, sB, sC])
  refine t1 4 19 (.pointer (some ⟨b, 2, none⟩)) hS0 ?_
  (try simp only [Act.put, sA, sB, sC])
  refine t2 5 20 (.pointer (some ⟨b, 6, none⟩)) (fun w' hw' => ?_) hS0 ?_
  · clear hw'; go_simp
  (try simp only [Act.put, sA, sB, sC])
  refine t2 6 21 (.func (.func 47) #[] #[]) (fun w' hw' => ?_) hS0 ?_
  · have hc0 := hw'.2; clear hw'; go_simp
  (try simp only [Act.put, sA, sB, sC])
  refine t1 7 22 (.pointer (some ⟨b, 0, none⟩)) hS0 ?_
  (try simp only [Act.put, sA, sB, sC])
  refine t2 8 23 (.agg #[.int .i64 4, .int .i64 s, .string nm, .int .i64 tk, .int .i64 tl, .int .i64 n, .int .i64 m, .slice ka kn kc, .int .i64 at_]) (fun w' hw' => ?_) hS0 ?_
  · have hh := hw'.1
    have d0 := cell_of_row w' _ 0 _ _ _ hh
    have d1 := cell_of_row w' _ 1 _ _ _ hh
    have d2 := cell_of_row w' _ 2 _ _ _ hh
    have d3 := cell_of_row w' _ 3 _ _ _ hh
    have d4 := cell_of_row w' _ 4 _ _ _ hh
    have d5 := cell_of_row w' _ 5 _ _ _ hh
    have d6 := cell_of_row w' _ 6 _ _ _ hh
    have d7 := cell_of_row w' _ 7 _ _ _ hh
    have d8 := cell_of_row w' _ 8 _ _ _ hh
    clear hh hw'; go_simp
  (try simp only [Act.put, sA, sB, sC])
  refine wpL_call (i := 9) (d := 24) (R := fun v w' => v = .tuple #[] ∧ Pr B b l' w' ∧ Kb B b W0.drew w') (by kernel_rfl) rfl (by kernel_rfl) (by kernel_rfl) (by kernel_rfl) ((HC.out _ HG.out).mono fun e w' he => ⟨_, he.1, rfl, he.2⟩) (fun v w' hR => ⟨hR.2.2.row hS0.1 hbl (by decide), hR.2.1.form 4 rfl⟩) (fun v w5 hR => ?_)
  obtain ⟨rfl, HR⟩ := hR
  have HR := Lib.hid HR
  (try simp only [Act.put, sA, sB, sC])
  refine wpL_done (by kernel_rfl) ?_ _
  go_wp2
  go_end0
  exact ⟨rfl, HR.out.1, ((Kb.refl B b w).grown hBw HG.out).trans HR.out.2⟩

set_option maxHeartbeats 4000000 in
set_option maxRecDepth 100000 in
theorem exp_pre (B b : Nat) (l l' : List UInt8) (s tk tl n m at_ : Int) (nm : ByteArray) (ka : Option Addr) (kn kc : Nat) (w : World) (h : Pr B b l w) (hBw : B ≤ w.heap.size)
    (hc : ∀ W, w.grownBy W none → Calls Tryz.prog 49 #[.pointer (some ⟨b, 0, none⟩), .agg #[.int .i64 6, .int .i64 s, .string nm, .int .i64 tk, .int .i64 tl, .int .i64 n, .int .i64 m, .slice ka kn kc, .int .i64 at_]] W fun e w' => e = .returned (.tuple #[]) ∧ Pr B b l' w' ∧ Kb B b W w') :
    Calls Tryz.prog 13 #[.pointer (some ⟨b, 0, none⟩), .agg #[.int .i64 6, .int .i64 s, .string nm, .int .i64 tk, .int .i64 tl, .int .i64 n, .int .i64 m, .slice ka kn kc, .int .i64 at_]] w fun e w' => e = .returned (.tuple #[]) ∧ Pr B b l' w' ∧ Kb B b w w' := by
  have hbl : w.heap.size ≠ b := by have := h.lt; omega
  have hfm := h.form 6 (v := .func (.func 49) #[] #[]) rfl
  have HC := Lib.hid hc
  clear hc h
  go_enter Tryz.func13, Tryz.ntmps13
  go_wp2
  obtain ⟨W0, hW0⟩ : ∃ W0, W0 = w.alloc (.cells #[.int .i64 6, .int .i64 s, .string nm, .int .i64 tk, .int .i64 tl, .int .i64 n, .int .i64 m, .slice ka kn kc, .int .i64 at_] 28) := ⟨_, rfl⟩
  have hg0 : w.grownBy W0.drew none := by
    have := World.grownBy_alloc w (.cells #[.int .i64 6, .int .i64 s, .string nm, .int .i64 tk, .int .i64 tl, .int .i64 n, .int .i64 m, .slice ka kn kc, .int .i64 at_] 28) none
    rw [← hW0] at this
    exact ⟨this.os, this.tape, this.output, this.size, this.block⟩
  have hS0 : W0.drew.heap[w.heap.size]? = some (.cells #[.int .i64 6, .int .i64 s, .string nm, .int .i64 tk, .int .i64 tl, .int .i64 n, .int .i64 m, .slice ka kn kc, .int .i64 at_] 28 (0, 0)) ∧ W0.drew.cell? ⟨b, 8, none⟩ = some (.func (.func 49) #[] #[]) := ⟨by rw [hW0]; exact heap_alloc_new w _, hg0.cell hfm (by simp)⟩
  have HG := Lib.hid hg0
  rw [← hW0]
  clear hW0 hg0 hfm
  refine wp_region_L (S := fun V => V.heap[w.heap.size]? = some (.cells #[.int .i64 6, .int .i64 s, .string nm, .int .i64 tk, .int .i64 tl, .int .i64 n, .int .i64 m, .slice ka kn kc, .int .i64 at_] 28 (0, 0)) ∧ V.cell? ⟨b, 8, none⟩ = some (.func (.func 49) #[] #[])) (Z := []) (by kernel_rfl) ?_
  refine t1 0 15 (.pointer (some ⟨b, 0, none⟩)) hS0 ?_
  (try simp only [Act.put, sA, sB, sC])
  refine t1 1 16 (.pointer (some ⟨w.heap.size, 0, none⟩)) hS0 ?_
  (try simp only [Act.put, sA, sB, sC])
  refine t2 2 17 (.int .i64 6) (fun w' hw' => ?_) hS0 ?_
  · have hc0 := cell_of_row w' _ 0 _ _ _ hw'.1; clear hw'; go_simp
  (try simp only [Act.put, sA, sB, sC])
  refine t1 3 18 (.pointer (some ⟨b, 0, none⟩)) hS0 ?_
  (try simp only [Act.put, sA, sB, sC])
  refine t1 4 19 (.pointer (some ⟨b, 2, none⟩)) hS0 ?_
  (try simp only [Act.put, sA, sB, sC])
  refine t2 5 20 (.pointer (some ⟨b, 8, none⟩)) (fun w' hw' => ?_) hS0 ?_
  · clear hw'; go_simp
  (try simp only [Act.put, sA, sB, sC])
  refine t2 6 21 (.func (.func 49) #[] #[]) (fun w' hw' => ?_) hS0 ?_
  · have hc0 := hw'.2; clear hw'; go_simp
  (try simp only [Act.put, sA, sB, sC])
  refine t1 7 22 (.pointer (some ⟨b, 0, none⟩)) hS0 ?_
  (try simp only [Act.put, sA, sB, sC])
  refine t2 8 23 (.agg #[.int .i64 6, .int .i64 s, .string nm, .int .i64 tk, .int .i64 tl, .int .i64 n, .int .i64 m, .slice ka kn kc, .int .i64 at_]) (fun w' hw' => ?_) hS0 ?_
  · have hh := hw'.1
    have d0 := cell_of_row w' _ 0 _ _ _ hh
    have d1 := cell_of_row w' _ 1 _ _ _ hh
    have d2 := cell_of_row w' _ 2 _ _ _ hh
    have d3 := cell_of_row w' _ 3 _ _ _ hh
    have d4 := cell_of_row w' _ 4 _ _ _ hh
    have d5 := cell_of_row w' _ 5 _ _ _ hh
    have d6 := cell_of_row w' _ 6 _ _ _ hh
    have d7 := cell_of_row w' _ 7 _ _ _ hh
    have d8 := cell_of_row w' _ 8 _ _ _ hh
    clear hh hw'; go_simp
  (try simp only [Act.put, sA, sB, sC])
  refine wpL_call (i := 9) (d := 24) (R := fun v w' => v = .tuple #[] ∧ Pr B b l' w' ∧ Kb B b W0.drew w') (by kernel_rfl) rfl (by kernel_rfl) (by kernel_rfl) (by kernel_rfl) ((HC.out _ HG.out).mono fun e w' he => ⟨_, he.1, rfl, he.2⟩) (fun v w' hR => ⟨hR.2.2.row hS0.1 hbl (by decide), hR.2.1.form 6 rfl⟩) (fun v w5 hR => ?_)
  obtain ⟨rfl, HR⟩ := hR
  have HR := Lib.hid HR
  (try simp only [Act.put, sA, sB, sC])
  refine wpL_done (by kernel_rfl) ?_ _
  go_wp2
  go_end0
  exact ⟨rfl, HR.out.1, ((Kb.refl B b w).grown hBw HG.out).trans HR.out.2⟩

set_option maxHeartbeats 4000000 in
set_option maxRecDepth 100000 in
theorem exp_arrow (B b : Nat) (l l' : List UInt8) (s tk tl n m at_ : Int) (nm : ByteArray) (ka : Option Addr) (kn kc : Nat) (w : World) (h : Pr B b l w) (hBw : B ≤ w.heap.size)
    (hc : ∀ W, w.grownBy W none → Calls Tryz.prog 50 #[.pointer (some ⟨b, 0, none⟩), .agg #[.int .i64 7, .int .i64 s, .string nm, .int .i64 tk, .int .i64 tl, .int .i64 n, .int .i64 m, .slice ka kn kc, .int .i64 at_]] W fun e w' => e = .returned (.tuple #[]) ∧ Pr B b l' w' ∧ Kb B b W w') :
    Calls Tryz.prog 13 #[.pointer (some ⟨b, 0, none⟩), .agg #[.int .i64 7, .int .i64 s, .string nm, .int .i64 tk, .int .i64 tl, .int .i64 n, .int .i64 m, .slice ka kn kc, .int .i64 at_]] w fun e w' => e = .returned (.tuple #[]) ∧ Pr B b l' w' ∧ Kb B b w w' := by
  have hbl : w.heap.size ≠ b := by have := h.lt; omega
  have hfm := h.form 7 (v := .func (.func 50) #[] #[]) rfl
  have HC := Lib.hid hc
  clear hc h
  go_enter Tryz.func13, Tryz.ntmps13
  go_wp2
  obtain ⟨W0, hW0⟩ : ∃ W0, W0 = w.alloc (.cells #[.int .i64 7, .int .i64 s, .string nm, .int .i64 tk, .int .i64 tl, .int .i64 n, .int .i64 m, .slice ka kn kc, .int .i64 at_] 28) := ⟨_, rfl⟩
  have hg0 : w.grownBy W0.drew none := by
    have := World.grownBy_alloc w (.cells #[.int .i64 7, .int .i64 s, .string nm, .int .i64 tk, .int .i64 tl, .int .i64 n, .int .i64 m, .slice ka kn kc, .int .i64 at_] 28) none
    rw [← hW0] at this
    exact ⟨this.os, this.tape, this.output, this.size, this.block⟩
  have hS0 : W0.drew.heap[w.heap.size]? = some (.cells #[.int .i64 7, .int .i64 s, .string nm, .int .i64 tk, .int .i64 tl, .int .i64 n, .int .i64 m, .slice ka kn kc, .int .i64 at_] 28 (0, 0)) ∧ W0.drew.cell? ⟨b, 9, none⟩ = some (.func (.func 50) #[] #[]) := ⟨by rw [hW0]; exact heap_alloc_new w _, hg0.cell hfm (by simp)⟩
  have HG := Lib.hid hg0
  rw [← hW0]
  clear hW0 hg0 hfm
  refine wp_region_L (S := fun V => V.heap[w.heap.size]? = some (.cells #[.int .i64 7, .int .i64 s, .string nm, .int .i64 tk, .int .i64 tl, .int .i64 n, .int .i64 m, .slice ka kn kc, .int .i64 at_] 28 (0, 0)) ∧ V.cell? ⟨b, 9, none⟩ = some (.func (.func 50) #[] #[])) (Z := []) (by kernel_rfl) ?_
  refine t1 0 15 (.pointer (some ⟨b, 0, none⟩)) hS0 ?_
  (try simp only [Act.put, sA, sB, sC])
  refine t1 1 16 (.pointer (some ⟨w.heap.size, 0, none⟩)) hS0 ?_
  (try simp only [Act.put, sA, sB, sC])
  refine t2 2 17 (.int .i64 7) (fun w' hw' => ?_) hS0 ?_
  · have hc0 := cell_of_row w' _ 0 _ _ _ hw'.1; clear hw'; go_simp
  (try simp only [Act.put, sA, sB, sC])
  refine t1 3 18 (.pointer (some ⟨b, 0, none⟩)) hS0 ?_
  (try simp only [Act.put, sA, sB, sC])
  refine t1 4 19 (.pointer (some ⟨b, 2, none⟩)) hS0 ?_
  (try simp only [Act.put, sA, sB, sC])
  refine t2 5 20 (.pointer (some ⟨b, 9, none⟩)) (fun w' hw' => ?_) hS0 ?_
  · clear hw'; go_simp
  (try simp only [Act.put, sA, sB, sC])
  refine t2 6 21 (.func (.func 50) #[] #[]) (fun w' hw' => ?_) hS0 ?_
  · have hc0 := hw'.2; clear hw'; go_simp
  (try simp only [Act.put, sA, sB, sC])
  refine t1 7 22 (.pointer (some ⟨b, 0, none⟩)) hS0 ?_
  (try simp only [Act.put, sA, sB, sC])
  refine t2 8 23 (.agg #[.int .i64 7, .int .i64 s, .string nm, .int .i64 tk, .int .i64 tl, .int .i64 n, .int .i64 m, .slice ka kn kc, .int .i64 at_]) (fun w' hw' => ?_) hS0 ?_
  · have hh := hw'.1
    have d0 := cell_of_row w' _ 0 _ _ _ hh
    have d1 := cell_of_row w' _ 1 _ _ _ hh
    have d2 := cell_of_row w' _ 2 _ _ _ hh
    have d3 := cell_of_row w' _ 3 _ _ _ hh
    have d4 := cell_of_row w' _ 4 _ _ _ hh
    have d5 := cell_of_row w' _ 5 _ _ _ hh
    have d6 := cell_of_row w' _ 6 _ _ _ hh
    have d7 := cell_of_row w' _ 7 _ _ _ hh
    have d8 := cell_of_row w' _ 8 _ _ _ hh
    clear hh hw'; go_simp
  (try simp only [Act.put, sA, sB, sC])
  refine wpL_call (i := 9) (d := 24) (R := fun v w' => v = .tuple #[] ∧ Pr B b l' w' ∧ Kb B b W0.drew w') (by kernel_rfl) rfl (by kernel_rfl) (by kernel_rfl) (by kernel_rfl) ((HC.out _ HG.out).mono fun e w' he => ⟨_, he.1, rfl, he.2⟩) (fun v w' hR => ⟨hR.2.2.row hS0.1 hbl (by decide), hR.2.1.form 7 rfl⟩) (fun v w5 hR => ?_)
  obtain ⟨rfl, HR⟩ := hR
  have HR := Lib.hid HR
  (try simp only [Act.put, sA, sB, sC])
  refine wpL_done (by kernel_rfl) ?_ _
  go_wp2
  go_end0
  exact ⟨rfl, HR.out.1, ((Kb.refl B b w).grown hBw HG.out).trans HR.out.2⟩

end Go.Proofs.YtachmiajldeakaaGreatDoor
