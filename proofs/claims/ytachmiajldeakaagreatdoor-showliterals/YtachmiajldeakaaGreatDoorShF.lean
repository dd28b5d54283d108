/- show's printer: the walk of literal, numbers (written by mkshe.py). -/
import Derived.Test.YtachmiajldeakaaGreatDoorShE
import Derived.Test.YtachmiajldeakaaGreatDoorShW
namespace Go.Proofs.YtachmiajldeakaaGreatDoor
open Go.RowKit Go.Maps Go.WideMaps

/-- put at a row that was just laid -/
theorem putN (B b : Nat) (l : List UInt8) (ts : List ByteArray) (w w3 : World) (h : Pr B b l w) (hBw : B ≤ w.heap.size) (hg : w.grownBy w3 none) (hn : ts.length ≤ 100) (hlen : l.length + (tx ts).length ≤ 140737488355328) :
    Calls Tryz.prog 27 #[.pointer (some ⟨b, 0, none⟩), .slice (some ⟨w3.heap.size, 0, none⟩) ts.length ts.length] (w3.alloc (.cells (ts.map Value.string).toArray 9)) fun e w' => e = .returned (.tuple #[]) ∧ Pr B b (l ++ tx ts) w' ∧ Kb B b w w' ∧
      ∀ i, i < w3.heap.size → i ≠ b → ∀ {c : Array Value} {T : TypeId} {fz : Nat × Nat}, T ≠ 5 → w3.heap[i]? = some (.cells c T fz) → w'.heap[i]? = some (.cells c T fz) := by
  have hs := hg.size
  refine (put_any B b l ts w3.heap.size ts.length _ ((h.grown hg).alloc _) (by rw [World.size_alloc]; omega) (Tx.new w3 ts) hn hlen).mono ?_
  rintro e w' ⟨rfl, h1, k1⟩
  refine ⟨rfl, h1, (((Kb.refl B b w).grown hBw hg).alloc (by omega) _).trans k1, fun i hi hb c T fz hT hc => ?_⟩
  exact k1.row (((World.grownBy_alloc w3 _ none).block _ hi (by simp)).trans hc) hb hT
set_option maxHeartbeats 4000000 in
set_option maxRecDepth 100000 in
theorem literal_bare (B b : Nat) (l : List UInt8) (k n a : Int) (ka : Option Addr) (kn kc : Nat) (w : World) (h : Pr B b l w) (hBw : B ≤ w.heap.size) (ht : Tab w) (h2 : 2 ≤ k) (h9 : k ≤ 9) (i1 : -9223372036854775808 ≤ n) (i2 : n ≤ 9223372036854775807) (hb : 0 ≤ n ∨ k = 9) (hlen : l.length ≤ 90000) :
    Calls Tryz.prog 44 #[.pointer (some ⟨b, 0, none⟩), litV k n a ka kn kc] w fun e w' => e = .returned (.tuple #[]) ∧ Pr B b (l ++ Lex.litL k n) w' ∧ Kb B b w w' := by
  have e1 : (k == 1) = false := by rw [beq_eq_false_iff_ne]; omega
  have hbare := fun wx => isBare_lit k n a ka kn kc wx
  rw [decide_eq_true (show k ≠ 1 ∧ (0 ≤ n ∨ k = 9) from ⟨by omega, hb⟩)] at hbare
  have hN := litL_len k n h2 h9 i1 i2 hb
  have hput := fun (w3 : World) (hg : w.grownBy w3 none) => putN B b l [⟨(digL k n).toArray⟩, ⟨(Lex.kindS k).toArray⟩] w w3 h hBw hg (by simp) (by
    rw [← hN.1]; have := hN.2; omega)
  rw [← hN.1] at hput
  have hdig := fun (w3 : World) (hg : w.grownBy w3 none) => digits_any k n i1 i2 w3 (ht.grown hg)
  have hkt := fun (w3 : World) => kindText_any k h2 h9 w3
  have hbl : w.heap.size ≠ b := by have := h.lt; omega
  have HP := Lib.hid hput
  have HD := Lib.hid hdig
  have HK := Lib.hid hkt
  clear hput hdig hkt ht hb hN h
  unfold litV at hbare ⊢
  go_enter Tryz.func44, Tryz.ntmps44
  go_wp2_with (go_at_call 89; refine (hbare _).mono ?_; rintro e w1 ⟨rfl, hg1⟩; refine Hid.out ?_)
  have hgw : w.grownBy w1 none := (World.grownBy_alloc w _ none).trans hg1
  have hS1 : w1.heap[w.heap.size]? = some (litC k n a ka kn kc) := (hg1.block _ (by simp) (by simp)).trans (heap_alloc_new w _)
  clear hg1 hbare
  have HG := Lib.hid hgw
  clear hgw
  refine Lib.hid ?_
  go_wp2
  have hS0 : w1.drew.heap[w.heap.size]? = some (litC k n a ka kn kc) := hS1
  have hG0 : w.grownBy w1.drew none := ⟨HG.out.os, HG.out.tape, HG.out.output, HG.out.size, HG.out.block⟩
  have HG0 := Lib.hid hG0
  clear hG0 HG hS1
  obtain ⟨W, hW⟩ : ∃ W, W = w1.drew := ⟨_, rfl⟩
  refine wp_region_L (S := fun V => V.heap[w.heap.size]? = some (litC k n a ka kn kc)) (Z := []) (by kernel_rfl) ?_
  rw [← hW] at hS0 HG0 ⊢
  clear hW
  refine t1 0 41 (.pointer (some ⟨b, 0, none⟩)) hS0 ?_
  (try simp only [Act.put, sA, sB, sC])
  refine t1 1 42 (.pointer (some ⟨w.heap.size, 3, none⟩)) hS0 ?_
  (try simp only [Act.put, sA, sB, sC])
  refine t1 2 43 (.pointer (some ⟨w.heap.size, 3, none⟩)) hS0 ?_
  (try simp only [Act.put, sA, sB, sC])
  refine t2 3 44 (.int .i64 k) (fun w' hw' => ?_) hS0 ?_
  · have hc0 := cell_of_row w' _ 3 _ _ _ hw'; clear hw'; go_simp
  (try simp only [Act.put, sA, sB, sC])
  refine t1 4 45 (.pointer (some ⟨w.heap.size, 5, none⟩)) hS0 ?_
  (try simp only [Act.put, sA, sB, sC])
  refine t2 5 46 (.int .i64 n) (fun w' hw' => ?_) hS0 ?_
  · have hc0 := cell_of_row w' _ 5 _ _ _ hw'; clear hw'; go_simp
  (try simp only [Act.put, sA, sB, sC])
  refine t1 7 48 (.pointer (some ⟨w.heap.size, 3, none⟩)) hS0 ?_
  (try simp only [Act.put, sA, sB, sC])
  refine t1 8 49 (.pointer (some ⟨w.heap.size, 3, none⟩)) hS0 ?_
  (try simp only [Act.put, sA, sB, sC])
  refine t2 9 50 (.int .i64 k) (fun w' hw' => ?_) hS0 ?_
  · have hc0 := cell_of_row w' _ 3 _ _ _ hw'; clear hw'; go_simp
  (try simp only [Act.put, sA, sB, sC])
  refine wpL_call (i := 6) (d := 47) (R := fun v w' => v = .string ⟨(digL k n).toArray⟩ ∧ W.grownBy w' none) (by kernel_rfl) rfl (by kernel_rfl) (by kernel_rfl) (by kernel_rfl) ((HD.out _ HG0.out).mono fun e w' he => ⟨_, he.1, rfl, he.2⟩) (fun v w' hR => (hR.2.block _ (Array.getElem?_eq_some_iff.1 hS0).1 (by simp)).trans hS0) (fun v w2 hR => ?_)
  obtain ⟨rfl, hg2⟩ := hR
  have hS2 : w2.heap[w.heap.size]? = some (litC k n a ka kn kc) := (hg2.block _ (Array.getElem?_eq_some_iff.1 hS0).1 (by simp)).trans hS0
  (try simp only [Act.put, sA, sB, sC])
  refine wpL_call (i := 10) (d := 51) (R := fun v w' => v = .string ⟨(Lex.kindS k).toArray⟩ ∧ w2.grownBy w' none) (by kernel_rfl) rfl (by kernel_rfl) (by kernel_rfl) (by kernel_rfl) ((HK.out w2).mono fun e w' he => ⟨_, he.1, rfl, he.2⟩) (fun v w' hR => (hR.2.block _ (Array.getElem?_eq_some_iff.1 hS2).1 (by simp)).trans hS2) (fun v w3 hR => ?_)
  obtain ⟨rfl, hg3⟩ := hR
  have hS3 : w3.heap[w.heap.size]? = some (litC k n a ka kn kc) := (hg3.block _ (Array.getElem?_eq_some_iff.1 hS2).1 (by simp)).trans hS2
  (try simp only [Act.put, sA, sB, sC])
  refine wpL_val (i := 11) (d := 52) (v := .slice (some ⟨w3.heap.size, 0, none⟩) 2 2) (w' := w3.alloc (.cells ([⟨(digL k n).toArray⟩, ⟨(Lex.kindS k).toArray⟩].map Value.string).toArray 9)) (by kernel_rfl) rfl (by kernel_rfl) (by kernel_rfl) (by kernel_rfl) (((World.grownBy_alloc w3 _ none).block _ (Array.getElem?_eq_some_iff.1 hS3).1 (by simp)).trans hS3) ?_
  (try simp only [Act.put, sA, sB, sC])
  refine wpL_call (i := 12) (d := 53) (R := fun v w' => v = .tuple #[] ∧ (Pr B b (l ++ Lex.litL k n) w' ∧ Kb B b w w') ∧ w'.heap[w.heap.size]? = some (litC k n a ka kn kc)) (by kernel_rfl) rfl (by kernel_rfl) (by kernel_rfl) (by kernel_rfl) ((HP.out w3 (HG0.out.trans (hg2.trans hg3))).mono fun e w' he => ⟨_, he.1, rfl, ⟨he.2.1, he.2.2.1⟩, he.2.2.2 _ (Array.getElem?_eq_some_iff.1 hS3).1 hbl (by decide) hS3⟩) (fun v w' hR => hR.2.2) (fun v w5 hR => ?_)
  obtain ⟨rfl, HR, -⟩ := hR
  have HR := Lib.hid HR
  (try simp only [Act.put, sA, sB, sC])
  refine wpL_done (by kernel_rfl) ?_ _
  go_wp2
  go_end0
  exact ⟨rfl, HR.out⟩

set_option maxHeartbeats 4000000 in
set_option maxRecDepth 100000 in
theorem literal_neg (B b : Nat) (l : List UInt8) (k n a : Int) (ka : Option Addr) (kn kc : Nat) (w : World) (h : Pr B b l w) (hBw : B ≤ w.heap.size) (ht : Tab w) (h2 : 2 ≤ k) (h9 : k ≤ 9) (i1 : -9223372036854775808 ≤ n) (i2 : n ≤ 9223372036854775807) (hb : ¬ (0 ≤ n ∨ k = 9)) (hlen : l.length ≤ 90000) :
    Calls Tryz.prog 44 #[.pointer (some ⟨b, 0, none⟩), litV k n a ka kn kc] w fun e w' => e = .returned (.tuple #[]) ∧ Pr B b (l ++ Lex.litL k n) w' ∧ Kb B b w w' := by
  have e1 : (k == 1) = false := by rw [beq_eq_false_iff_ne]; omega
  have hbare := fun wx => isBare_lit k n a ka kn kc wx
  rw [decide_eq_false (fun h : k ≠ 1 ∧ (0 ≤ n ∨ k = 9) => hb h.2)] at hbare
  have hN := litL_lenN k n h2 h9 i1 i2 hb
  have hput := fun (w3 : World) (hg : w.grownBy w3 none) => putN B b l [⟨#[40]⟩, ⟨(digL k n).toArray⟩, ⟨(Lex.kindS k).toArray⟩, ⟨#[41]⟩] w w3 h hBw hg (by simp) (by
    rw [← hN.1]; have := hN.2; omega)
  rw [← hN.1] at hput
  have hdig := fun (w3 : World) (hg : w.grownBy w3 none) => digits_any k n i1 i2 w3 (ht.grown hg)
  have hkt := fun (w3 : World) => kindText_any k h2 h9 w3
  have hbl : w.heap.size ≠ b := by have := h.lt; omega
  have HP := Lib.hid hput
  have HD := Lib.hid hdig
  have HK := Lib.hid hkt
  clear hput hdig hkt ht hb hN h
  unfold litV at hbare ⊢
  go_enter Tryz.func44, Tryz.ntmps44
  go_wp2_with (go_at_call 89; refine (hbare _).mono ?_; rintro e w1 ⟨rfl, hg1⟩; refine Hid.out ?_)
  have hgw : w.grownBy w1 none := (World.grownBy_alloc w _ none).trans hg1
  have hS1 : w1.heap[w.heap.size]? = some (litC k n a ka kn kc) := (hg1.block _ (by simp) (by simp)).trans (heap_alloc_new w _)
  clear hg1 hbare
  have HG := Lib.hid hgw
  clear hgw
  refine Lib.hid ?_
  go_wp2
  have hS0 : w1.drew.heap[w.heap.size]? = some (litC k n a ka kn kc) := hS1
  have hG0 : w.grownBy w1.drew none := ⟨HG.out.os, HG.out.tape, HG.out.output, HG.out.size, HG.out.block⟩
  have HG0 := Lib.hid hG0
  clear hG0 HG hS1
  obtain ⟨W, hW⟩ : ∃ W, W = w1.drew := ⟨_, rfl⟩
  refine wp_region_L (S := fun V => V.heap[w.heap.size]? = some (litC k n a ka kn kc)) (Z := []) (by kernel_rfl) ?_
  rw [← hW] at hS0 HG0 ⊢
  clear hW
  refine t1 0 4 (.pointer (some ⟨b, 0, none⟩)) hS0 ?_
  (try simp only [Act.put, sA, sB, sC])
  refine t1 1 5 (.pointer (some ⟨w.heap.size, 3, none⟩)) hS0 ?_
  (try simp only [Act.put, sA, sB, sC])
  refine t1 2 6 (.pointer (some ⟨w.heap.size, 3, none⟩)) hS0 ?_
  (try simp only [Act.put, sA, sB, sC])
  refine t2 3 7 (.int .i64 k) (fun w' hw' => ?_) hS0 ?_
  · have hc0 := cell_of_row w' _ 3 _ _ _ hw'; clear hw'; go_simp
  (try simp only [Act.put, sA, sB, sC])
  refine t1 4 8 (.pointer (some ⟨w.heap.size, 5, none⟩)) hS0 ?_
  (try simp only [Act.put, sA, sB, sC])
  refine t2 5 9 (.int .i64 n) (fun w' hw' => ?_) hS0 ?_
  · have hc0 := cell_of_row w' _ 5 _ _ _ hw'; clear hw'; go_simp
  (try simp only [Act.put, sA, sB, sC])
  refine t1 7 11 (.pointer (some ⟨w.heap.size, 3, none⟩)) hS0 ?_
  (try simp only [Act.put, sA, sB, sC])
  refine t1 8 12 (.pointer (some ⟨w.heap.size, 3, none⟩)) hS0 ?_
  (try simp only [Act.put, sA, sB, sC])
  refine t2 9 13 (.int .i64 k) (fun w' hw' => ?_) hS0 ?_
  · have hc0 := cell_of_row w' _ 3 _ _ _ hw'; clear hw'; go_simp
  (try simp only [Act.put, sA, sB, sC])
  refine wpL_call (i := 6) (d := 10) (R := fun v w' => v = .string ⟨(digL k n).toArray⟩ ∧ W.grownBy w' none) (by kernel_rfl) rfl (by kernel_rfl) (by kernel_rfl) (by kernel_rfl) ((HD.out _ HG0.out).mono fun e w' he => ⟨_, he.1, rfl, he.2⟩) (fun v w' hR => (hR.2.block _ (Array.getElem?_eq_some_iff.1 hS0).1 (by simp)).trans hS0) (fun v w2 hR => ?_)
  obtain ⟨rfl, hg2⟩ := hR
  have hS2 : w2.heap[w.heap.size]? = some (litC k n a ka kn kc) := (hg2.block _ (Array.getElem?_eq_some_iff.1 hS0).1 (by simp)).trans hS0
  (try simp only [Act.put, sA, sB, sC])
  refine wpL_call (i := 10) (d := 14) (R := fun v w' => v = .string ⟨(Lex.kindS k).toArray⟩ ∧ w2.grownBy w' none) (by kernel_rfl) rfl (by kernel_rfl) (by kernel_rfl) (by kernel_rfl) ((HK.out w2).mono fun e w' he => ⟨_, he.1, rfl, he.2⟩) (fun v w' hR => (hR.2.block _ (Array.getElem?_eq_some_iff.1 hS2).1 (by simp)).trans hS2) (fun v w3 hR => ?_)
  obtain ⟨rfl, hg3⟩ := hR
  have hS3 : w3.heap[w.heap.size]? = some (litC k n a ka kn kc) := (hg3.block _ (Array.getElem?_eq_some_iff.1 hS2).1 (by simp)).trans hS2
  (try simp only [Act.put, sA, sB, sC])
  refine wpL_val (i := 11) (d := 15) (v := .slice (some ⟨w3.heap.size, 0, none⟩) 4 4) (w' := w3.alloc (.cells ([⟨#[40]⟩, ⟨(digL k n).toArray⟩, ⟨(Lex.kindS k).toArray⟩, ⟨#[41]⟩].map Value.string).toArray 9)) (by kernel_rfl) rfl (by kernel_rfl) (by kernel_rfl) (by kernel_rfl) (((World.grownBy_alloc w3 _ none).block _ (Array.getElem?_eq_some_iff.1 hS3).1 (by simp)).trans hS3) ?_
  (try simp only [Act.put, sA, sB, sC])
  refine wpL_call (i := 12) (d := 16) (R := fun v w' => v = .tuple #[] ∧ (Pr B b (l ++ Lex.litL k n) w' ∧ Kb B b w w') ∧ w'.heap[w.heap.size]? = some (litC k n a ka kn kc)) (by kernel_rfl) rfl (by kernel_rfl) (by kernel_rfl) (by kernel_rfl) ((HP.out w3 (HG0.out.trans (hg2.trans hg3))).mono fun e w' he => ⟨_, he.1, rfl, ⟨he.2.1, he.2.2.1⟩, he.2.2.2 _ (Array.getElem?_eq_some_iff.1 hS3).1 hbl (by decide) hS3⟩) (fun v w' hR => hR.2.2) (fun v w5 hR => ?_)
  obtain ⟨rfl, HR, -⟩ := hR
  have HR := Lib.hid HR
  (try simp only [Act.put, sA, sB, sC])
  refine wpL_done (by kernel_rfl) ?_ _
  go_wp2
  go_end0
  exact ⟨rfl, HR.out⟩

end Go.Proofs.YtachmiajldeakaaGreatDoor
