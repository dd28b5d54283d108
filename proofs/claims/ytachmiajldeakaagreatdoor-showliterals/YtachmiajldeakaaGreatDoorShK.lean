/- show's printer: a sum; what the expressions of the document's example are printed as. -/
import Derived.Test.YtachmiajldeakaaGreatDoorShJ
namespace Go.Proofs.YtachmiajldeakaaGreatDoor
open Go.RowKit Go.Maps Go.WideMaps

theorem aroundN (w0 : World) (B0 b : Nat) (l : List UInt8) (ts : List ByteArray) (xs : List Gram.Exp) (ks : List (List UInt8)) (ka : Option Addr) (kn kc : Nat) (cs : Array Value) (n : Nat) (w w3 : World) (hk : RepC w0 B0 [] (.l 28 9 (expsD xs)) (.slice ka kn kc)) (h : Pr w0.heap.size b l w) (hw : w0.grownBy w none) (h3 : w.grownBy w3 none) (hcs : cs = (ts.map Value.string).toArray) (hn : n = ts.length) (hL : ts.length = xs.length + 1) (hks : ks.length = xs.length) (hn2 : xs.length ≤ 20)
    (hlen : l.length + (arL ts ks xs.length).length ≤ 80000) (hpr : ∀ (i : Nat) (x : Gram.Exp) (t : List UInt8), xs[i]? = some x → ks[i]? = some t → Prints w0 B0 b x t) :
    Calls Tryz.prog 94 #[.pointer (some ⟨b, 0, none⟩), .slice ka kn kc, .slice (some ⟨w3.heap.size, 0, none⟩) n n] (w3.alloc (.cells cs 9)) fun e w' => e = .returned (.tuple #[]) ∧ (Pr w0.heap.size b (l ++ arL ts ks xs.length) w' ∧ Kb w0.heap.size b w w') ∧ Kb w0.heap.size b (w3.alloc (.cells cs 9)) w' := by
  subst hcs hn
  have hg2 : w.grownBy (w3.alloc (.cells (ts.map Value.string).toArray 9)) none := h3.trans (World.grownBy_alloc _ _ none)
  refine (around_any w0 B0 b l ts xs ks ka kn kc w3.heap.size ts.length _ hk (h.grown hg2) (hw.trans hg2) (Tx.new w3 ts) hL hks hn2 hlen hpr).mono ?_
  rintro e w' ⟨rfl, h1, k1⟩
  exact ⟨rfl, ⟨h1, ((Kb.refl _ b w).grown hw.size hg2).trans k1⟩, k1⟩

set_option maxHeartbeats 4000000 in
set_option maxRecDepth 100000 in
theorem sum_any (w0 : World) (B0 b : Nat) (l : List UInt8) (tk tl n m at_ : Int) (nm : ByteArray) (ka : Option Addr) (kn kc : Nat) (x y : Gram.Exp) (t u : List UInt8) (w : World) (hk : RepC w0 B0 [] (.l 28 9 (expsD [x, y])) (.slice ka kn kc)) (h : Pr w0.heap.size b l w) (hw : w0.grownBy w none) (hlen : l.length + (40 :: (t ++ [32, 43, 32] ++ u ++ [41])).length ≤ 80000) (p : Prints w0 B0 b x t) (q : Prints w0 B0 b y u) :
    Calls Tryz.prog 47 #[.pointer (some ⟨b, 0, none⟩), .agg #[.int .i64 4, .int .i64 3, .string nm, .int .i64 tk, .int .i64 tl, .int .i64 n, .int .i64 m, .slice ka kn kc, .int .i64 at_]] w fun e w' => e = .returned (.tuple #[]) ∧ Pr w0.heap.size b (l ++ 40 :: (t ++ [32, 43, 32] ++ u ++ [41])) w' ∧ Kb w0.heap.size b w w' := by
  have e : arL [⟨#[40]⟩, ⟨#[32, 43, 32]⟩, ⟨#[41]⟩] [t, u] 2 = 40 :: (t ++ [32, 43, 32] ++ u ++ [41]) := by simp [arL, ar]
  have hp := fun w3 h3 => aroundN w0 B0 b l [⟨#[40]⟩, ⟨#[32, 43, 32]⟩, ⟨#[41]⟩] [x, y] [t, u] ka kn kc #[.string ⟨#[40]⟩, .string ⟨#[32, 43, 32]⟩, .string ⟨#[41]⟩] 3 w w3 hk h hw h3 rfl rfl rfl rfl (by simp) (by rw [show [x, y].length = 2 from rfl, e]; exact hlen) (pr_two p q)
  rw [show [x, y].length = 2 from rfl, e] at hp
  clear e
  have hbl : w.heap.size ≠ b := by have := h.lt; omega
  have HP := Lib.hid hp
  clear hp hk hlen p q h hw
  go_enter Tryz.func47, Tryz.ntmps47
  go_wp2
  obtain ⟨W, hW⟩ : ∃ W, W = (w.alloc (.cells #[.int .i64 4, .int .i64 3, .string nm, .int .i64 tk, .int .i64 tl, .int .i64 n, .int .i64 m, .slice ka kn kc, .int .i64 at_] 28)).drew := ⟨_, rfl⟩
  have hg0 : w.grownBy W none := by
    have := World.grownBy_alloc w (.cells #[.int .i64 4, .int .i64 3, .string nm, .int .i64 tk, .int .i64 tl, .int .i64 n, .int .i64 m, .slice ka kn kc, .int .i64 at_] 28) none
    rw [hW]
    exact ⟨this.os, this.tape, this.output, this.size, this.block⟩
  have hS0 : W.heap[w.heap.size]? = some (.cells #[.int .i64 4, .int .i64 3, .string nm, .int .i64 tk, .int .i64 tl, .int .i64 n, .int .i64 m, .slice ka kn kc, .int .i64 at_] 28 (0, 0)) := by rw [hW]; exact heap_alloc_new w _
  have HG := Lib.hid hg0
  refine wp_region_L (S := fun V => V.heap[w.heap.size]? = some (.cells #[.int .i64 4, .int .i64 3, .string nm, .int .i64 tk, .int .i64 tl, .int .i64 n, .int .i64 m, .slice ka kn kc, .int .i64 at_] 28 (0, 0))) (Z := []) (by kernel_rfl) ?_
  rw [← hW]
  clear hW hg0
  refine t1 0 4 (.pointer (some ⟨b, 0, none⟩)) hS0 ?_
  (try simp only [Act.put, sA, sB, sC])
  refine t1 1 5 (.pointer (some ⟨w.heap.size, 7, none⟩)) hS0 ?_
  (try simp only [Act.put, sA, sB, sC])
  refine t2 2 6 (.slice ka kn kc) (fun w' hw' => ?_) hS0 ?_
  · have hc0 := cell_of_row w' _ 7 _ _ _ hw'; clear hw'; go_simp
  (try simp only [Act.put, sA, sB, sC])
  refine t1 3 7 (.pointer (some ⟨w.heap.size, 1, none⟩)) hS0 ?_
  (try simp only [Act.put, sA, sB, sC])
  refine t2 4 8 (.int .i64 3) (fun w' hw' => ?_) hS0 ?_
  · have hc0 := cell_of_row w' _ 1 _ _ _ hw'; clear hw'; go_simp
  (try simp only [Act.put, sA, sB, sC])
  refine wpL_call (i := 5) (d := 9) (R := fun v w' => v = .string ⟨#[43]⟩ ∧ w' = W) (by kernel_rfl) rfl (by kernel_rfl) (by kernel_rfl) (by kernel_rfl) ((opAdd W).mono fun e w' he => ⟨_, he.1, rfl, he.2⟩) (fun v w' hR => by rw [hR.2]; exact hS0) (fun v w2 hR => ?_)
  obtain ⟨rfl, h2⟩ := hR
  obtain rfl := h2.symm
  (try simp only [Act.put, sA, sB, sC])
  refine t1 6 10 (.string ⟨#[32, 43]⟩) hS0 ?_
  (try simp only [Act.put, sA, sB, sC])
  refine t1 7 11 (.string ⟨#[32, 43, 32]⟩) hS0 ?_
  (try simp only [Act.put, sA, sB, sC])
  have hS3 : (W.alloc (.cells #[.string ⟨#[40]⟩, .string ⟨#[32, 43, 32]⟩, .string ⟨#[41]⟩] 9)).heap[w.heap.size]? = some (.cells #[.int .i64 4, .int .i64 3, .string nm, .int .i64 tk, .int .i64 tl, .int .i64 n, .int .i64 m, .slice ka kn kc, .int .i64 at_] 28 (0, 0)) := ((World.grownBy_alloc W _ none).block _ (Array.getElem?_eq_some_iff.1 hS0).1 (by simp)).trans hS0
  refine wpL_val (i := 8) (d := 12) (v := .slice (some ⟨W.heap.size, 0, none⟩) 3 3) (w' := W.alloc (.cells #[.string ⟨#[40]⟩, .string ⟨#[32, 43, 32]⟩, .string ⟨#[41]⟩] 9)) (by kernel_rfl) rfl (by kernel_rfl) (by kernel_rfl) (by kernel_rfl) hS3 ?_
  (try simp only [Act.put, sA, sB, sC])
  refine wpL_call (i := 9) (d := 13) (R := fun v w' => v = .tuple #[] ∧ (Pr w0.heap.size b (l ++ 40 :: (t ++ [32, 43, 32] ++ u ++ [41])) w' ∧ Kb w0.heap.size b w w') ∧ Kb w0.heap.size b (W.alloc (.cells #[.string ⟨#[40]⟩, .string ⟨#[32, 43, 32]⟩, .string ⟨#[41]⟩] 9)) w') (by kernel_rfl) rfl (by kernel_rfl) (by kernel_rfl) (by kernel_rfl) ((HP.out W HG.out).mono fun e w' he => ⟨_, he.1, rfl, he.2⟩) (fun v w' hR => hR.2.2.row hS3 hbl (by decide)) (fun v w5 hR => ?_)
  obtain ⟨rfl, HR, -⟩ := hR
  have HR := Lib.hid HR
  (try simp only [Act.put, sA, sB, sC])
  refine wpL_done (by kernel_rfl) ?_ _
  go_wp2
  go_end0
  exact ⟨rfl, by simpa using HR.out.1, HR.out.2⟩

/-! what is printed -/
theorem prints_lit (w0 : World) (B0 b : Nat) (k n a : Int) (hk : isLit k n) (i1 : -9223372036854775808 ≤ n) (i2 : n ≤ 9223372036854775807) (ht : Tab w0) : Prints w0 B0 b (.mk 1 0 [] k 0 n 0 [] a) (Lex.litL k n) := by
  intro l W vs hW hP hlen hr
  obtain ⟨ka, kn, kc, rfl, -⟩ := expInv hr
  simp only [expCells]
  exact exp_literal w0.heap.size b l _ 0 k 0 n 0 a ⟨#[]⟩ ka kn kc W hP hW.size (fun W' hg => literal_any w0.heap.size b l k n a hk i1 i2 ka kn kc W' (hP.grown hg) (Nat.le_trans hW.size hg.size) (ht.grown (hW.trans hg)) (by omega))
theorem prints_var (w0 : World) (B0 b : Nat) (nm : List UInt8) (a : Int) : Prints w0 B0 b (.mk 2 0 nm 0 0 0 0 [] a) nm := by
  intro l W vs hW hP hlen hr
  obtain ⟨ka, kn, kc, rfl, -⟩ := expInv hr
  simp only [expCells]
  have e : (⟨nm.toArray⟩ : ByteArray).size = nm.length := by simp [ByteArray.size]
  exact exp_variable w0.heap.size b l _ 0 0 0 0 0 a ⟨nm.toArray⟩ ka kn kc W hP hW.size (fun W' hg => variable_any w0.heap.size b l 0 0 0 0 0 a ⟨nm.toArray⟩ ka kn kc W' (hP.grown hg) (Nat.le_trans hW.size hg.size) (by rw [e]; omega))
theorem prints_pre {w0 : World} {B0 b : Nat} {x : Gram.Exp} {t : List UInt8} (p : Prints w0 B0 b x t) (a : Int) : Prints w0 B0 b (.mk 6 0 [] 0 0 0 0 [x] a) ([40, 112, 114, 101, 32] ++ t ++ [41]) := by
  intro l W vs hW hP hlen hr
  obtain ⟨ka, kn, kc, rfl, hk⟩ := expInv hr
  simp only [expCells]
  exact exp_pre w0.heap.size b l _ 0 0 0 0 0 a ⟨#[]⟩ ka kn kc W hP hW.size (fun W' hg => pre_any w0 B0 b l 0 0 0 0 0 a ⟨#[]⟩ ka kn kc x t W' hk (hP.grown hg) (hW.trans hg) hlen p)
theorem prints_arrow {w0 : World} {B0 b : Nat} {x y : Gram.Exp} {t u : List UInt8} (p : Prints w0 B0 b x t) (q : Prints w0 B0 b y u) (a : Int) : Prints w0 B0 b (.mk 7 0 [] 0 0 0 0 [x, y] a) (40 :: (t ++ [32, 45, 62, 32] ++ u ++ [41])) := by
  intro l W vs hW hP hlen hr
  obtain ⟨ka, kn, kc, rfl, hk⟩ := expInv hr
  simp only [expCells]
  exact exp_arrow w0.heap.size b l _ 0 0 0 0 0 a ⟨#[]⟩ ka kn kc W hP hW.size (fun W' hg => arrow_any w0 B0 b l 0 0 0 0 0 a ⟨#[]⟩ ka kn kc x y t u W' hk (hP.grown hg) (hW.trans hg) hlen p q)
theorem prints_sum {w0 : World} {B0 b : Nat} {x y : Gram.Exp} {t u : List UInt8} (p : Prints w0 B0 b x t) (q : Prints w0 B0 b y u) (a : Int) : Prints w0 B0 b (.mk 4 3 [] 0 0 0 0 [x, y] a) (40 :: (t ++ [32, 43, 32] ++ u ++ [41])) := by
  intro l W vs hW hP hlen hr
  obtain ⟨ka, kn, kc, rfl, hk⟩ := expInv hr
  simp only [expCells]
  exact exp_binary w0.heap.size b l _ 3 0 0 0 0 a ⟨#[]⟩ ka kn kc W hP hW.size (fun W' hg => sum_any w0 B0 b l 0 0 0 0 a ⟨#[]⟩ ka kn kc x y t u W' hk (hP.grown hg) (hW.trans hg) hlen p q)

end Go.Proofs.YtachmiajldeakaaGreatDoor
