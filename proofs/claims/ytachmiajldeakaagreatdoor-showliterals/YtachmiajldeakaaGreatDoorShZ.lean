/- The walk of ShowLiterals (written by mkshz.py). -/
import Derived.Test.YtachmiajldeakaaGreatDoorShY
namespace Go.Proofs.YtachmiajldeakaaGreatDoor
open Go.RowKit Go.Maps Go.WideMaps

/-- the cells that the statement looks at -/
structure LitAt (w : World) (p6 p8 g1 c1 gt ct : Nat) (k n a : Int) (ka : Option Addr) (kc : Nat) : Prop where
  x : w.heap[p6]? = some (.cells #[.int .i64 1, .int .i64 0, .string ⟨#[]⟩, .int .i64 k, .int .i64 0, .int .i64 n, .int .i64 0, .slice none 0 0, .int .i64 0] 28 (0, 0))
  p : w.cell? ⟨p8, 0, none⟩ = some (.slice (some ⟨g1, 0, none⟩) 1 c1)
  i : w.cell? ⟨g1, 4, none⟩ = some (.slice (some ⟨gt, 0, none⟩) 1 ct)
  e0 : w.cell? ⟨gt, 1, none⟩ = some (.int .i64 1)
  e1 : w.cell? ⟨gt, 2, none⟩ = some (.int .i64 0)
  e2 : w.cell? ⟨gt, 3, none⟩ = some (.string ⟨#[]⟩)
  e3 : w.cell? ⟨gt, 4, none⟩ = some (.int .i64 k)
  e4 : w.cell? ⟨gt, 5, none⟩ = some (.int .i64 0)
  e5 : w.cell? ⟨gt, 6, none⟩ = some (.int .i64 n)
  e6 : w.cell? ⟨gt, 7, none⟩ = some (.int .i64 0)
  e7 : w.cell? ⟨gt, 8, none⟩ = some (.slice ka 0 kc)
  e8 : w.cell? ⟨gt, 9, none⟩ = some (.int .i64 a)
theorem LitAt.on {w w' : World} {p6 p8 g1 c1 gt ct : Nat} {k n a : Int} {ka : Option Addr} {kc : Nat} (h : LitAt w p6 p8 g1 c1 gt ct k n a ka kc) (hg : w.grownBy w' none) : LitAt w' p6 p8 g1 c1 gt ct k n a ka kc :=
  ⟨(hg.block _ (Array.getElem?_eq_some_iff.1 h.x).1 (by simp)).trans h.x, hg.cell h.p (by simp), hg.cell h.i (by simp), hg.cell h.e0 (by simp), hg.cell h.e1 (by simp), hg.cell h.e2 (by simp), hg.cell h.e3 (by simp), hg.cell h.e4 (by simp), hg.cell h.e5 (by simp), hg.cell h.e6 (by simp), hg.cell h.e7 (by simp), hg.cell h.e8 (by simp)⟩

theorem lit_cells {w : World} {B0 : Nat} {v : Value} {k n a : Int} (h : RepC w B0 [] (.l 45 6 ([Gram.litN k n a].map nodeD)) v) :
    ∃ g1 c1 gt ct ka kc, v = .slice (some ⟨g1, 0, none⟩) 1 c1 ∧ w.cell? ⟨g1, 4, none⟩ = some (.slice (some ⟨gt, 0, none⟩) 1 ct) ∧ w.cell? ⟨gt, 1, none⟩ = some (.int .i64 1) ∧ w.cell? ⟨gt, 2, none⟩ = some (.int .i64 0) ∧ w.cell? ⟨gt, 3, none⟩ = some (.string ⟨#[]⟩) ∧ w.cell? ⟨gt, 4, none⟩ = some (.int .i64 k) ∧ w.cell? ⟨gt, 5, none⟩ = some (.int .i64 0) ∧ w.cell? ⟨gt, 6, none⟩ = some (.int .i64 n) ∧ w.cell? ⟨gt, 7, none⟩ = some (.int .i64 0) ∧ w.cell? ⟨gt, 8, none⟩ = some (.slice ka 0 kc) ∧ w.cell? ⟨gt, 9, none⟩ = some (.int .i64 a) := by
  obtain ⟨g1, c1, rfl⟩ := h.lies (by simp)
  obtain ⟨vs, hv, hc⟩ := h.rowAt (rows_map nodeD_len _) 0 rfl
  obtain ⟨u1, rfl, h_1⟩ := RepRow.cInv hv
  obtain ⟨b1, m1, k1, u2, rfl, _, h_2⟩ := h_1.lInv
  obtain ⟨b2, m2, k2, u3, rfl, _, h_3⟩ := h_2.lInv
  obtain ⟨b3, m3, k3, u4, rfl, _, h_4⟩ := h_3.lInv
  obtain ⟨b4, m4, k4, u5, rfl, hT, h_5⟩ := h_4.lInv
  have hI2 : RepC w B0 [] (.l 41 12 ((Gram.litN k n a).items.map itemD)) (.slice b4 m4 k4) := by rw [← itemsD_map]; exact hT
  obtain ⟨gt, ct, e⟩ := hI2.lies (by simp [Gram.litN])
  cases e
  obtain ⟨vt, hvt, rt⟩ := hI2.rowAt (rows_map itemD_len _) 0 rfl
  simp only [itemD] at hvt
  obtain ⟨a1, n1, d1, u1, rfl, _, h_1⟩ := hvt.lInv
  obtain ⟨u, t, rfl, h1, h_2⟩ := RepRow.appInv h_1
  obtain ⟨ka, kn, kc, rfl, hk⟩ := expInv h1
  obtain ⟨_, _, e⟩ := RepC.len hk
  cases e
  exact ⟨g1, c1, gt, _, ka, kc, rfl, hc 4 _ rfl, (Nat.zero_add (1) ▸ Nat.zero_mul 12 ▸ rt 1 _ rfl : _), (Nat.zero_add (2) ▸ Nat.zero_mul 12 ▸ rt 2 _ rfl : _), (Nat.zero_add (3) ▸ Nat.zero_mul 12 ▸ rt 3 _ rfl : _), (Nat.zero_add (4) ▸ Nat.zero_mul 12 ▸ rt 4 _ rfl : _), (Nat.zero_add (5) ▸ Nat.zero_mul 12 ▸ rt 5 _ rfl : _), (Nat.zero_add (6) ▸ Nat.zero_mul 12 ▸ rt 6 _ rfl : _), (Nat.zero_add (7) ▸ Nat.zero_mul 12 ▸ rt 7 _ rfl : _), (Nat.zero_add (8) ▸ Nat.zero_mul 12 ▸ rt 8 _ rfl : _), (Nat.zero_add (9) ▸ Nat.zero_mul 12 ▸ rt 9 _ rfl : _)⟩

theorem showLit_out (k n : Int) (w : World) (hl : LaidS w) (hk : k < 1 ∨ 9 < k) : Calls Tryz.prog 3 #[.int .i64 k, .int .i64 n] w fun e w' => e = .returned (.bool true) ∧ w.grownBy w' none := by
  have hal := alive4_any w hl
  rcases hk with h | h
  · have d1 : decide (k < 1) = true := by rw [decide_eq_true_iff]; exact h
    go_enter Tryz.func3, Tryz.ntmps3
    go_wp2_with (go_at_call 4; refine hal.mono ?_; rintro e w1 ⟨rfl, hg1⟩)
    go_ret
    exact ⟨rfl, hg1⟩
  · have d1 : decide (k < 1) = false := by rw [decide_eq_false_iff_not]; omega
    have d9 : decide (9 < k) = true := by rw [decide_eq_true_iff]; exact h
    go_enter Tryz.func3, Tryz.ntmps3
    go_wp2_with (go_at_call 4; refine hal.mono ?_; rintro e w1 ⟨rfl, hg1⟩)
    go_ret
    exact ⟨rfl, hg1⟩

set_option maxHeartbeats 8000000 in
set_option maxRecDepth 100000 in
theorem showLit_in (k n0 : Int) (h1 : 1 ≤ k) (h9 : k ≤ 9) (j1 : -9223372036854775808 ≤ n0) (j2 : n0 ≤ 9223372036854775807) (w : World) (hl : LaidS w) : Calls Tryz.prog 3 #[.int .i64 k, .int .i64 n0] w fun e w' => e = .returned (.bool true) ∧ w.grownBy w' none := by
  have hal := alive4_any w hl
  have hwr := fun wx => lwrap_any k n0 h1 h9 wx
  have hlit := wrp_lit k n0 h1 h9
  obtain ⟨i1, i2⟩ := wrp_in k n0 h1 h9 j1 j2
  have hv : Bv.wrp k (Bv.wrp k n0) = Bv.wrp k n0 := by
    rcases (show k = 1 ∨ k = 2 ∨ k = 3 ∨ k = 4 ∨ k = 5 ∨ k = 6 ∨ k = 7 ∨ k = 8 ∨ k = 9 by omega) with rfl | rfl | rfl | rfl | rfl | rfl | rfl | rfl | rfl <;> simp [Bv.wrp] <;> omega
  generalize Bv.wrp k n0 = n at hwr hlit i1 i2 hv
  obtain ⟨a, hpar⟩ := lit_parse k n h1 h9 i1 i2 hv
  have hlen := litL_le k n hlit i1 i2
  have hsh := fun (W : World) (hW : w.grownBy W none) => showExp_lit k n hlit i1 i2 W (hl.on hW).2
  have hre := fun (W : World) => rexpLit_any k n hlit i1 i2 W
  have hsz := ba_size (Lex.litL k n)
  have hwh : (⟨(wholeL k n).toArray⟩ : ByteArray) = ⟨#[110, 111, 100, 101, 32, 102, 40, 41, 32, 114, 101, 116, 117, 114, 110, 115, 32, 40, 122, 58, 32, 105, 56, 41, 32, 108, 101, 116, 32, 122, 32, 61, 32]⟩ ++ ⟨(Lex.litL k n).toArray⟩ ++ ⟨#[59, 32, 116, 101, 108]⟩ := by
    unfold wholeL
    rw [← ba_app, ← ba_app]
    rfl
  have hpa := fun (W : World) (hW : w.grownBy W none) => gparse_ok (s := ⟨(wholeL k n).toArray⟩) (by simpa using hpar) W (hl.on hW).1
  rw [hwh] at hpa
  clear hpar hwh hv hlit
  generalize (⟨(Lex.litL k n).toArray⟩ : ByteArray) = T at hsh hre hsz hpa
  have d1 : decide (k < 1) = false := by rw [decide_eq_false_iff_not]; omega
  have d9 : decide (9 < k) = false := by rw [decide_eq_false_iff_not]; omega
  have HSH := Lib.hid hsh
  have HPA := Lib.hid hpa
  have HRE := Lib.hid hre
  clear hsh hpa hre hl i1 i2 j1 j2 h1 h9
  unfold litV at HSH HRE
  go_enter Tryz.func3, Tryz.ntmps3
  go_wp2_with (first
    | (go_at_call 4; refine hal.mono ?_; rintro e w1 ⟨rfl, hg1⟩)
    | (go_at_call 5; refine (hwr _).mono ?_; rintro e w' ⟨rfl, hw'⟩; obtain rfl := hw'.symm)
    | (go_at_call 6; refine (HSH.out _ (hg1.trans (World.grownBy_alloc w1 _ none))).mono ?_; rintro e w2 ⟨rfl, hg2⟩; refine Hid.out ?_))
  have HG2 := Lib.hid (And.intro hg1 hg2)
  have hx2 := (hg2.block w1.heap.size (by simp) (by simp)).trans (heap_alloc_new w1 _)
  have hs2 := hg2.size
  rw [World.size_alloc] at hs2
  have HX2 := Lib.hid (And.intro hx2 hs2)
  clear hg1 hg2 hx2 hs2 hal hwr
  refine Lib.hid ?_
  go_wp2_with (go_at_call 7; refine (HPA.out _ (HG2.out.1.trans ((World.grownBy_alloc w1 _ none).trans HG2.out.2))).mono ?_; rintro e w3 ⟨v, rfl, hv3, hg3⟩; refine Hid.out ?_)
  obtain ⟨g1, c1, gt, ct, ka, kc, rfl, hi, q0, q1, q2, q3, q4, q5, q6, q7, q8⟩ := lit_cells hv3
  have hga := World.grownBy_alloc w3 (.cells #[.slice (some ⟨g1, 0, none⟩) 1 c1] 32) none
  have hLA : LitAt (w3.alloc (.cells #[.slice (some ⟨g1, 0, none⟩) 1 c1] 32)) w1.heap.size w3.heap.size g1 c1 gt ct k n a ka kc :=
    ⟨(((hg3.trans hga).block _ (Array.getElem?_eq_some_iff.1 HX2.out.1).1 (by simp))).trans HX2.out.1, by simp, hga.cell hi (by simp), hga.cell q0 (by simp), hga.cell q1 (by simp), hga.cell q2 (by simp), hga.cell q3 (by simp), hga.cell q4 (by simp), hga.cell q5 (by simp), hga.cell q6 (by simp), hga.cell q7 (by simp), hga.cell q8 (by simp)⟩
  have HG3 := Lib.hid (HG2.out.1.trans ((World.grownBy_alloc w1 _ none).trans (HG2.out.2.trans (hg3.trans hga))))
  clear hv3 hg3 hi hga HG2 HX2 q0 q1 q2 q3 q4 q5 q6 q7 q8
  refine Lib.hid ?_
  go_wp2
  obtain ⟨W, hW⟩ : ∃ W, W = (w3.alloc (.cells #[.slice (some ⟨g1, 0, none⟩) 1 c1] 32)).drew := ⟨_, rfl⟩
  have hS0 : LitAt W w1.heap.size w3.heap.size g1 c1 gt ct k n a ka kc := by
    rw [hW]
    exact hLA.on ⟨rfl, rfl, rfl, Nat.le_refl _, fun _ _ _ => rfl⟩
  have HG4 : Hid (w.grownBy W none) := by
    rw [hW]
    exact ⟨HG3.out.os, HG3.out.tape, HG3.out.output, HG3.out.size, HG3.out.block⟩
  refine wp_region_L (S := fun V => LitAt V w1.heap.size w3.heap.size g1 c1 gt ct k n a ka kc) (Z := []) (by kernel_rfl) ?_
  rw [← hW]
  clear hW hLA HG3
  refine t1 0 40 (.int .i64 0) hS0 ?_
  (try simp only [Act.put, sA, sB, sC])
  refine wpL_call (i := 1) (d := 41) (R := fun v w' => v = .int .i64 0 ∧ w' = W) (by kernel_rfl) rfl (by kernel_rfl) (by kernel_rfl) (by kernel_rfl) ((num4_any 0 W).mono fun e w' he => ⟨_, he.1, rfl, he.2⟩) (fun v w' hR => by rw [hR.2]; exact hS0) (fun v w4 hR => ?_)
  obtain ⟨rfl, hw4⟩ := hR
  obtain rfl := hw4.symm
  (try simp only [Act.put, sA, sB, sC])
  refine t1 2 42 (.bool true) hS0 ?_
  (try simp only [Act.put, sA, sB, sC])
  refine t1 3 43 (.bool true) hS0 ?_
  (try simp only [Act.put, sA, sB, sC])
  refine t1 4 44 (.string T) hS0 ?_
  (try simp only [Act.put, sA, sB, sC])
  refine t2 5 45 (.agg #[.int .i64 1, .int .i64 0, .string ⟨#[]⟩, .int .i64 k, .int .i64 0, .int .i64 n, .int .i64 0, .slice none 0 0, .int .i64 0]) (fun w' hw' => ?_) hS0 ?_
  · have f0 := cell_of_row w' _ 0 _ _ _ hw'.x; have f1 := cell_of_row w' _ 1 _ _ _ hw'.x; have f2 := cell_of_row w' _ 2 _ _ _ hw'.x; have f3 := cell_of_row w' _ 3 _ _ _ hw'.x; have f4 := cell_of_row w' _ 4 _ _ _ hw'.x; have f5 := cell_of_row w' _ 5 _ _ _ hw'.x; have f6 := cell_of_row w' _ 6 _ _ _ hw'.x; have f7 := cell_of_row w' _ 7 _ _ _ hw'.x; have f8 := cell_of_row w' _ 8 _ _ _ hw'.x; clear hw'; go_simp
  (try simp only [Act.put, sA, sB, sC])
  refine wpL_call (i := 6) (d := 46) (R := fun v w' => v = .string T ∧ W.grownBy w' none) (by kernel_rfl) rfl (by kernel_rfl) (by kernel_rfl) (by kernel_rfl) ((HRE.out W).mono fun e w' he => ⟨_, he.1, rfl, he.2⟩) (fun v w' hR => hS0.on hR.2) (fun v w5 hR => ?_)
  obtain ⟨rfl, hg5⟩ := hR
  have hS5 := hS0.on hg5
  (try simp only [Act.put, sA, sB, sC])
  refine t2 7 47 (.bool true) (fun w' hw' => ?_) hS5 ?_
  · clear hw'; go_simp
  (try simp only [Act.put, sA, sB, sC])
  refine t1 8 48 (.bool true) hS5 ?_
  (try simp only [Act.put, sA, sB, sC])
  refine t1 9 49 (.bool true) hS5 ?_
  (try simp only [Act.put, sA, sB, sC])
  refine t2 10 50 (.agg #[.int .i64 1, .int .i64 0, .string ⟨#[]⟩, .int .i64 k, .int .i64 0, .int .i64 n, .int .i64 0, .slice none 0 0, .int .i64 0]) (fun w' hw' => ?_) hS5 ?_
  · have f0 := cell_of_row w' _ 0 _ _ _ hw'.x; have f1 := cell_of_row w' _ 1 _ _ _ hw'.x; have f2 := cell_of_row w' _ 2 _ _ _ hw'.x; have f3 := cell_of_row w' _ 3 _ _ _ hw'.x; have f4 := cell_of_row w' _ 4 _ _ _ hw'.x; have f5 := cell_of_row w' _ 5 _ _ _ hw'.x; have f6 := cell_of_row w' _ 6 _ _ _ hw'.x; have f7 := cell_of_row w' _ 7 _ _ _ hw'.x; have f8 := cell_of_row w' _ 8 _ _ _ hw'.x; clear hw'; go_simp
  (try simp only [Act.put, sA, sB, sC])
  refine t1 11 51 (.pointer (some ⟨w3.heap.size, 0, none⟩)) hS5 ?_
  (try simp only [Act.put, sA, sB, sC])
  refine t2 12 52 (.slice (some ⟨g1, 0, none⟩) 1 c1) (fun w' hw' => ?_) hS5 ?_
  · have f0 := hw'.p; clear hw'; go_simp
  (try simp only [Act.put, sA, sB, sC])
  refine t2 13 53 (.pointer (some ⟨g1, 0, none⟩)) (fun w' hw' => ?_) hS5 ?_
  · clear hw'; go_simp
  (try simp only [Act.put, sA, sB, sC])
  refine t1 14 54 (.pointer (some ⟨g1, 4, none⟩)) hS5 ?_
  (try simp only [Act.put, sA, sB, sC])
  refine t2 15 55 (.slice (some ⟨gt, 0, none⟩) 1 ct) (fun w' hw' => ?_) hS5 ?_
  · have f0 := hw'.i; clear hw'; go_simp
  (try simp only [Act.put, sA, sB, sC])
  refine t2 16 56 (.pointer (some ⟨gt, 0, none⟩)) (fun w' hw' => ?_) hS5 ?_
  · clear hw'; go_simp
  (try simp only [Act.put, sA, sB, sC])
  refine t1 17 57 (.pointer (some ⟨gt, 1, none⟩)) hS5 ?_
  (try simp only [Act.put, sA, sB, sC])
  refine t2 18 58 (.agg #[.int .i64 1, .int .i64 0, .string ⟨#[]⟩, .int .i64 k, .int .i64 0, .int .i64 n, .int .i64 0, .slice ka 0 kc, .int .i64 a]) (fun w' hw' => ?_) hS5 ?_
  · have f0 := hw'.e0; have f1 := hw'.e1; have f2 := hw'.e2; have f3 := hw'.e3; have f4 := hw'.e4; have f5 := hw'.e5; have f6 := hw'.e6; have f7 := hw'.e7; have f8 := hw'.e8; clear hw'; go_simp
  (try simp only [Act.put, sA, sB, sC])
  refine wpL_call (i := 19) (d := 59) (R := fun v w' => v = .bool true ∧ w5.grownBy w' none) (by kernel_rfl) rfl (by kernel_rfl) (by kernel_rfl) (by kernel_rfl) ((sameLit k n a ka kc w5).mono fun e w' he => ⟨_, he.1, rfl, he.2⟩) (fun v w' hR => hS5.on hR.2) (fun v w6 hR => ?_)
  obtain ⟨rfl, hg6⟩ := hR
  have hS6 := hS5.on hg6
  (try simp only [Act.put, sA, sB, sC])
  refine t1 20 60 (.bool true) hS6 ?_
  (try simp only [Act.put, sA, sB, sC])
  refine t1 21 4 (.bool true) hS6 ?_
  (try simp only [Act.put, sA, sB, sC])
  refine wpL_done (by kernel_rfl) ?_ _
  have HF := Lib.hid (HG4.out.trans (hg5.trans hg6))
  clear hg5 hg6 hS5 hS6 hS0 HG4 HRE
  go_wp2
  go_ret
  exact ⟨rfl, HF.out⟩

theorem showLit_walk (k n : Int) (j1 : -9223372036854775808 ≤ n) (j2 : n ≤ 9223372036854775807) (w : World) (hl : LaidS w) : Calls Tryz.prog 3 #[.int .i64 k, .int .i64 n] w fun e w' => e = .returned (.bool true) ∧ w.grownBy w' none := by
  by_cases h : k < 1 ∨ 9 < k
  · exact showLit_out k n w hl h
  · exact showLit_in k n (by omega) (by omega) j1 j2 w hl

end Go.Proofs.YtachmiajldeakaaGreatDoor
