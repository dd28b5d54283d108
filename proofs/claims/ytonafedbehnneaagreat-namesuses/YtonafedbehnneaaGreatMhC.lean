/- My texts RpA RpB GrB GrC GrD GrE GrF RpC GrG GrH GrI GrJ GrK GrO GrL0 GrP RpD RpE RpF RpG GrQ GrR GrS, joined. -/
import Derived.Test.YtonafedbehnneaaGreatMhB
import Derived.Deep.RegionHeld3
import Derived.Deep.LoopGhost
import Derived.Maps.AppendAt
set_option linter.unusedVariables false
set_option linter.unusedSimpArgs false
set_option linter.unnecessarySimpa false
set_option linter.unusedSectionVars false
set_option maxHeartbeats 12800000
set_option maxRecDepth 20000
namespace Go.Proofs.YtonafedbehnneaaGreat
open Go.RowKit Go.Maps Go.WideMaps
open Gram (Rf.St)
abbrev tO (yk : Int) (yt : List UInt8) (yn yu : Int) (ya : Nat) : Obj := .cells #[.int .i64 yk, .string ⟨yt.toArray⟩, .int .i64 yn, .int .i64 yu, .int .i64 0, .int .i64 (ya : Int)] 84
def Rst (w : World) (b : Nat) (tv : Value) (s : Gram.Rf.St) : Prop := w.heap[b]? = some (.cells #[tv, .int .i64 (s.i : Int), .int .i64 s.e, .int .i64 s.bad, .int .i64 s.n] 70 (0, 0))
section
variable {w : World} {b : Nat} {tv : Value} {s : Gram.Rf.St}
theorem Rst.c0 (h : Rst w b tv s) : w.cell? ⟨b, 0, none⟩ = some tv := cell_of_row w b 0 _ _ _ h
theorem Rst.c1 (h : Rst w b tv s) : w.cell? ⟨b, 1, none⟩ = some (.int .i64 (s.i : Int)) := cell_of_row w b 1 _ _ _ h
theorem Rst.c2 (h : Rst w b tv s) : w.cell? ⟨b, 2, none⟩ = some (.int .i64 s.e) := cell_of_row w b 2 _ _ _ h
theorem Rst.c3 (h : Rst w b tv s) : w.cell? ⟨b, 3, none⟩ = some (.int .i64 s.bad) := cell_of_row w b 3 _ _ _ h
theorem Rst.c4 (h : Rst w b tv s) : w.cell? ⟨b, 4, none⟩ = some (.int .i64 s.n) := cell_of_row w b 4 _ _ _ h
theorem Rst.fr (h : Rst w b tv s) (j : Nat) : w.frozen? ⟨b, j, none⟩ = false := by
 unfold Rst at h; simp [World.frozen?, h]
theorem Rst.lt (h : Rst w b tv s) : b < w.heap.size := (Array.getElem?_eq_some_iff.1 h).1
theorem Rst.setAt (h : Rst w b tv s) (j : Nat) : Rst (w.setCell ⟨b, 1, none⟩ (.int .i64 (j : Int))) b tv { s with i := j } := by
 unfold Rst at h ⊢
 simp only [World.setCell, Array.getElem?_modify, if_true, h, Option.map_some]
 rfl
theorem Rst.setE (h : Rst w b tv s) (e : Int) : Rst (w.setCell ⟨b, 2, none⟩ (.int .i64 e)) b tv { s with e := e } := by
 unfold Rst at h ⊢
 simp only [World.setCell, Array.getElem?_modify, if_true, h, Option.map_some]
 rfl
theorem Rst.setBad (h : Rst w b tv s) (e : Int) : Rst (w.setCell ⟨b, 3, none⟩ (.int .i64 e)) b tv { s with bad := e } := by
 unfold Rst at h ⊢
 simp only [World.setCell, Array.getElem?_modify, if_true, h, Option.map_some]
 rfl
theorem Rst.setN (h : Rst w b tv s) (e : Int) : Rst (w.setCell ⟨b, 4, none⟩ (.int .i64 e)) b tv { s with n := e } := by
 unfold Rst at h ⊢
 simp only [World.setCell, Array.getElem?_modify, if_true, h, Option.map_some]
 rfl
theorem Rst.kept {w' : World} {row : Option Nat} (h : Rst w b tv s) (hg : w.grownBy w' row) (hne : some b ≠ row) : Rst w' b tv s :=
 (hg.block b h.lt hne).trans h
end
structure Rp (w : World) (b g cap : Nat) (T : List Lex.Tk) (s : Gram.Rf.St) : Prop where
 toks : Toks w b T g cap
 st : Rst w b (.slice (some ⟨g, 0, none⟩) T.length cap) s
 lt : s.i < T.length
section
variable {w w' : World} {b g cap : Nat} {T : List Lex.Tk} {s : Gram.Rf.St}
theorem Rp.kept (h : Rp w b g cap T s) (hg : w.grownBy w' none) : Rp w' b g cap T s :=
 ⟨h.toks.kept0 hg, h.st.kept hg (by simp), h.lt⟩
theorem Rp.alloc (h : Rp w b g cap T s) (o : Obj) : Rp (w.alloc o) b g cap T s := h.kept (ga w o none)
theorem Rp.drew (h : Rp w b g cap T s) : Rp w.drew b g cap T s := h.kept (gdrew (World.grownBy.refl w none))
theorem Rp.bl (h : Rp w b g cap T s) : b < w.heap.size := h.st.lt
theorem Rp.to {s' : Gram.Rf.St} (h : Rp w b g cap T s) (hg : w.grownBy w' (some b)) (hs : Rst w' b (.slice (some ⟨g, 0, none⟩) T.length cap) s') (hj : s'.i < T.length) : Rp w' b g cap T s' :=
 ⟨h.toks.kept hg, hs, hj⟩
theorem Rp.next (h : Rp w b g cap T s) (hk : (Gram.tk T s.i).kind ≠ 5 ∨ (Gram.tk T s.i).text ≠ []) : s.i + 1 < T.length := h.toks.last s.i h.lt hk
theorem is_kind {x : Gram.B} (h : Gram.Rf.is T x s = true) : s.e = 0 ∧ ((Gram.tk T s.i).kind = 3 ∨ (Gram.tk T s.i).kind = 4) ∧ (Gram.tk T s.i).text = x := by
 unfold Gram.Rf.is at h
 simp only [Bool.and_eq_true, Bool.or_eq_true, beq_iff_eq] at h
 exact ⟨h.1.1, h.1.2, h.2⟩
theorem Rp.nextIs (h : Rp w b g cap T s) {x : Gram.B} (hs : Gram.Rf.is T x s = true) : s.i + 1 < T.length :=
 h.next (.inl (by rcases (is_kind hs).2.1 with e | e <;> rw [e] <;> decide))
end
section
variable (b g cap : Nat) (T : List Lex.Tk) (s : Gram.Rf.St)
theorem rtok_any (w : World) (h : Rp w b g cap T s) :
  Calls Tryz.prog 45 #[.pointer (some ⟨b, 0, none⟩)] w fun e w' => e = .returned (tokV (Gram.tk T s.i)) ∧ w.grownBy w' none := by
 obtain ⟨c0, c1, c2, c3, c4, c5⟩ := h.toks.cells h.lt
 have p0 := h.st.c0
 have p1 := h.st.c1
 have hm := h.toks.most
 have hi := h.lt
 have hlt : b < w.heap.size := h.bl
 have hlg : g < w.heap.size := World.block_lt_of_cell? w _ c0
 have n1 : ¬ b = w.heap.size := by omega
 have n2 : ¬ g = w.heap.size := by omega
 unfold tokV
 generalize s.i = i at *
 generalize Gram.tk T i = x at c0 c1 c2 c3 c4 c5
 clear h
 go_enter Tryz.func45, Tryz.ntmps45
 go_wp2
 go_region
 go_wp2
 (try simp only [Exit.inBlock, Exit.then])
 exact bodyPost_ret (results_cell_row rfl _ _ w.heap.size 84 _ (0, 0) _ rfl (heap_alloc_new w _) Tryz.underlying84 rfl (by kernel_rfl)) rfl ⟨rfl, gdrew (ga w _ none)⟩
theorem rset {w W : World} {b : Nat} (h : w.grownBy W (some b)) (j : Nat) (v : Value) : w.grownBy (W.setCell ⟨b, j, none⟩ v) (some b) := gset h (.inr rfl) v
theorem rfail_w0 {w : World} {b g cap : Nat} {T : List Lex.Tk} {s : Gram.Rf.St} (h : Rp w b g cap T s) (er : Int) (h0 : s.e = 0) :
  Rp (((w.setCell ⟨b, 2, none⟩ (.int .i64 er)).setCell ⟨b, 3, none⟩ (.int .i64 ((Gram.tk T s.i).at_ : Int))).setCell ⟨b, 1, none⟩ (.int .i64 ((T.length : Int) - 1))) b g cap T (Gram.Rf.fail T er s) ∧ w.grownBy (((w.setCell ⟨b, 2, none⟩ (.int .i64 er)).setCell ⟨b, 3, none⟩ (.int .i64 ((Gram.tk T s.i).at_ : Int))).setCell ⟨b, 1, none⟩ (.int .i64 ((T.length : Int) - 1))) (some b) := by
 have hi := h.lt
 have g1 := rset (World.grownBy.refl w (some b)) 2 (.int .i64 er)
 have g2 := rset g1 3 (.int .i64 ((Gram.tk T s.i).at_ : Int))
 have g3 := rset g2 1 (.int .i64 ((T.length : Int) - 1))
 have e : ((T.length : Int) - 1) = ((T.length - 1 : Nat) : Int) := by omega
 refine ⟨?_, g3⟩
 rw [e] at g3 ⊢
 have s1 := h.st.setE er
 have s2 := s1.setBad ((Gram.tk T s.i).at_ : Int)
 have s3 := s2.setAt (T.length - 1)
 unfold Gram.Rf.fail
 rw [if_pos h0]
 exact h.to g3 s3 (by show T.length - 1 < T.length; omega)
theorem rfail_w1 {w : World} {b g cap : Nat} {T : List Lex.Tk} {s : Gram.Rf.St} (h : Rp w b g cap T s) (er : Int) (h0 : ¬ s.e = 0) :
  Rp (w.setCell ⟨b, 1, none⟩ (.int .i64 ((T.length : Int) - 1))) b g cap T (Gram.Rf.fail T er s) ∧ w.grownBy (w.setCell ⟨b, 1, none⟩ (.int .i64 ((T.length : Int) - 1))) (some b) := by
 have hi := h.lt
 have g3 := rset (World.grownBy.refl w (some b)) 1 (.int .i64 ((T.length : Int) - 1))
 have e : ((T.length : Int) - 1) = ((T.length - 1 : Nat) : Int) := by omega
 refine ⟨?_, g3⟩
 rw [e] at g3 ⊢
 have s3 := h.st.setAt (T.length - 1)
 unfold Gram.Rf.fail
 rw [if_neg h0]
 exact h.to g3 s3 (by show T.length - 1 < T.length; omega)
theorem rfail_any (er : Int) (w : World) (h : Rp w b g cap T s) :
  Calls Tryz.prog 47 #[.pointer (some ⟨b, 0, none⟩), .int .i64 er] w fun e w' => e = .returned (.tuple #[]) ∧ Rp w' b g cap T (Gram.Rf.fail T er s) ∧ w.grownBy w' (some b) := by
 obtain ⟨c0, c1, c2, c3, c4, c5⟩ := h.toks.cells h.lt
 have p0 := h.st.c0
 have p1 := h.st.c1
 have p2 := h.st.c2
 have p3 := h.st.c3
 have f1 := h.st.fr 1
 have f2 := h.st.fr 2
 have f3 := h.st.fr 3
 have hm := h.toks.most
 have hi := h.lt
 have hne : ¬ g = b := h.toks.ne
 by_cases h0 : s.e = 0
 ·have b0 : (s.e == 0) = true := by rw [beq_iff_eq]; exact h0
  have HK := ld (rfail_w0 h er h0)
  generalize hR : Gram.Rf.fail T er s = s' at HK
  generalize Gram.tk T s.i = x at c0 c1 c2 c3 c4 c5 HK
  generalize s.i = i at *
  generalize s.e = e0 at *
  generalize s.bad = b0' at *
  clear h h0 hR
  go_enter Tryz.func47, Tryz.ntmps47
  go_wp2
  go_region
  go_wp2
  go_end0
  exact ⟨rfl, HK.out.1.drew, gdrew HK.out.2⟩
 ·have b0 : (s.e == 0) = false := by rw [beq_eq_false_iff_ne]; exact h0
  have HK := ld (rfail_w1 h er h0)
  generalize hR : Gram.Rf.fail T er s = s' at HK
  generalize s.i = i at *
  generalize s.e = e0 at *
  clear h h0 hR c0 c1 c2 c3 c4 c5
  go_enter Tryz.func47, Tryz.ntmps47
  go_wp2
  go_end0
  exact ⟨rfl, HK.out⟩
theorem ris_any (x : ByteArray) (w : World) (h : Rp w b g cap T s) :
  Calls Tryz.prog 46 #[.pointer (some ⟨b, 0, none⟩), .string x] w fun e w' => e = .returned (.bool (Gram.Rf.is T x.data.toList s)) ∧ w.grownBy w' none := by
 have hn := rtok_any b g cap T s w h
 have HH := ld h
 have hx : tokV (Gram.tk T s.i) = .agg #[.int .i64 (Gram.tk T s.i).kind, .string ⟨(Gram.tk T s.i).text.toArray⟩, .int .i64 (Gram.tk T s.i).n, .int .i64 (Gram.tk T s.i).t, .int .i64 0, .int .i64 ((Gram.tk T s.i).at_ : Int)] := rfl
 rw [hx] at hn
 obtain ⟨R, hR⟩ : ∃ R, R = Gram.Rf.is T x.data.toList s := ⟨_, rfl⟩
 rw [← hR]
 unfold Gram.Rf.is at hR
 generalize Gram.tk T s.i = y at hn hR
 clear hx h
 have hb := HH.out.bl
 by_cases h0 : s.e = 0
 ·have b0 : (s.e == 0) = true := by rw [beq_iff_eq]; exact h0
  by_cases h3 : y.kind = 3
  ·have b3 : (y.kind == 3) = true := by rw [beq_iff_eq]; exact h3
   clear h3
   have HR : Hid (R = (y.text == x.data.toList)) := ld (by rw [hR, b0, b3]; simp)
   clear hR h0
   go_enter Tryz.func46, Tryz.ntmps46
   go_wp2_with (go_at_call 45; refine hn.mono ?_; rintro e w1 ⟨rfl, hg1⟩; refine Hid.out ?_)
   have p2 := (HH.out.kept hg1).st.c2
   have hb1 := (HH.out.kept hg1).bl
   have n1 : ¬ b = w1.heap.size := by omega
   have HG : Hid (∀ o, w.grownBy (w1.alloc o) none) := ld (fun o => galloc hg1 o)
   clear hg1
   refine ld ?_
   go_wp2
   go_ret
   rw [HR.out]
   exact ⟨ret_bool (by simp [ByteArray.toList_eq]), HG.out _⟩
  ·have b3 : (y.kind == 3) = false := by rw [beq_eq_false_iff_ne]; exact h3
   clear h3
   by_cases h4 : y.kind = 4
   ·have b4 : (y.kind == 4) = true := by rw [beq_iff_eq]; exact h4
    clear h4
    have HR : Hid (R = (y.text == x.data.toList)) := ld (by rw [hR, b0, b3, b4]; simp)
    clear hR h0
    go_enter Tryz.func46, Tryz.ntmps46
    go_wp2_with (go_at_call 45; refine hn.mono ?_; rintro e w1 ⟨rfl, hg1⟩; refine Hid.out ?_)
    have p2 := (HH.out.kept hg1).st.c2
    have hb1 := (HH.out.kept hg1).bl
    have n1 : ¬ b = w1.heap.size := by omega
    have HG : Hid (∀ o, w.grownBy (w1.alloc o) none) := ld (fun o => galloc hg1 o)
    clear hg1
    refine ld ?_
    go_wp2
    go_ret
    rw [HR.out]
    exact ⟨ret_bool (by simp [ByteArray.toList_eq]), HG.out _⟩
   ·have b4 : (y.kind == 4) = false := by rw [beq_eq_false_iff_ne]; exact h4
    clear h4
    have HR : Hid (R = false) := ld (by rw [hR, b0, b3, b4]; simp)
    clear hR h0
    go_enter Tryz.func46, Tryz.ntmps46
    go_wp2_with (go_at_call 45; refine hn.mono ?_; rintro e w1 ⟨rfl, hg1⟩; refine Hid.out ?_)
    have p2 := (HH.out.kept hg1).st.c2
    have hb1 := (HH.out.kept hg1).bl
    have n1 : ¬ b = w1.heap.size := by omega
    have HG : Hid (∀ o, w.grownBy (w1.alloc o) none) := ld (fun o => galloc hg1 o)
    clear hg1
    refine ld ?_
    go_wp2
    go_ret
    rw [HR.out]
    exact ⟨ret_bool (by simp [ByteArray.toList_eq]), HG.out _⟩
 ·have b0 : (s.e == 0) = false := by rw [beq_eq_false_iff_ne]; exact h0
  have HR : Hid (R = false) := ld (by rw [hR, b0]; simp)
  clear hR h0
  go_enter Tryz.func46, Tryz.ntmps46
  go_wp2_with (go_at_call 45; refine hn.mono ?_; rintro e w1 ⟨rfl, hg1⟩; refine Hid.out ?_)
  have p2 := (HH.out.kept hg1).st.c2
  have hb1 := (HH.out.kept hg1).bl
  have n1 : ¬ b = w1.heap.size := by omega
  have HG : Hid (∀ o, w.grownBy (w1.alloc o) none) := ld (fun o => galloc hg1 o)
  clear hg1
  refine ld ?_
  go_wp2
  go_ret
  rw [HR.out]
  exact ⟨ret_bool (by simp [ByteArray.toList_eq]), HG.out _⟩
theorem radv_w {w : World} {b g cap : Nat} {T : List Lex.Tk} {s : Gram.Rf.St} (h : Rp w b g cap T s) (hi : s.i + 1 < T.length) :
  Rp (w.setCell ⟨b, 1, none⟩ (.int .i64 ((s.i : Int) + 1))) b g cap T (Gram.Rf.adv s) ∧ w.grownBy (w.setCell ⟨b, 1, none⟩ (.int .i64 ((s.i : Int) + 1))) (some b) := by
 have g3 := rset (World.grownBy.refl w (some b)) 1 (.int .i64 ((s.i : Int) + 1))
 exact ⟨h.to g3 (h.st.setAt (s.i + 1)) hi, g3⟩
theorem rtake_any (x : ByteArray) (w : World) (h : Rp w b g cap T s) :
  Calls Tryz.prog 64 #[.pointer (some ⟨b, 0, none⟩), .string x] w fun e w' => e = .returned (.tuple #[]) ∧ Rp w' b g cap T (Gram.Rf.take T x.data.toList s) ∧ w.grownBy w' (some b) := by
 have hn := ris_any b g cap T s x w h
 have HH := ld h
 have hm := h.toks.most
 have hlt := h.lt
 unfold Gram.Rf.take
 cases hq : Gram.Rf.is T x.data.toList s with
 | true =>
  rw [hq] at hn
  rw [if_pos rfl]
  have hi := h.nextIs hq
  clear h
  go_enter Tryz.func64, Tryz.ntmps64
  go_wp2_with (go_at_call 46; refine hn.mono ?_; rintro e w1 ⟨rfl, hg1⟩; refine Hid.out ?_)
  have p1 := (HH.out.kept hg1).st.c1
  have f1 := (HH.out.kept hg1).st.fr 1
  have HK := ld (radv_w (HH.out.kept hg1) hi)
  have HG := ld hg1
  clear hg1 hn
  generalize s.i = i at *
  refine ld ?_
  go_wp2
  go_end0
  exact ⟨by first | rfl | trivial, HK.out.1, (grown_some HG.out b).trans HK.out.2⟩
 | false =>
  rw [hq] at hn
  rw [if_neg (by decide)]
  have HF := ld (fun w1 (hg1 : w.grownBy w1 none) => rfail_any b g cap T s 12 w1 (h.kept hg1))
  generalize hR : Gram.Rf.fail T 12 s = s' at HF
  clear h
  go_enter Tryz.func64, Tryz.ntmps64
  go_wp2_with (first | (go_at_call 46; refine hn.mono ?_; rintro e w1 ⟨rfl, hg1⟩) | (go_at_call 47; refine (HF.out _ hg1).mono ?_; rintro e w2 ⟨rfl, hP2, hg2⟩))
  (try simp only [Exit.inBlock, Exit.then])
  refine bodyPost_ret (results_none rfl _ _ _) rfl ?_
  exact ⟨by first | rfl | trivial, hP2, (grown_some hg1 b).trans hg2⟩
theorem rmaybe_any (x : ByteArray) (w : World) (h : Rp w b g cap T s) :
  Calls Tryz.prog 67 #[.pointer (some ⟨b, 0, none⟩), .string x] w fun e w' => e = .returned (.bool (Gram.Rf.is T x.data.toList s)) ∧ Rp w' b g cap T (Gram.Rf.maybe T x.data.toList s) ∧ w.grownBy w' (some b) := by
 have hn := ris_any b g cap T s x w h
 have HH := ld h
 have hm := h.toks.most
 have hlt := h.lt
 unfold Gram.Rf.maybe
 cases hq : Gram.Rf.is T x.data.toList s with
 | true =>
  rw [hq] at hn
  rw [if_pos rfl]
  have hi := h.nextIs hq
  clear h
  go_enter Tryz.func67, Tryz.ntmps67
  go_wp2_with (go_at_call 46; refine hn.mono ?_; rintro e w1 ⟨rfl, hg1⟩; refine Hid.out ?_)
  have p1 := (HH.out.kept hg1).st.c1
  have f1 := (HH.out.kept hg1).st.fr 1
  have HK := ld (radv_w (HH.out.kept hg1) hi)
  have HG := ld hg1
  clear hg1 hn
  generalize s.i = i at *
  refine ld ?_
  go_wp2
  go_ret
  exact ⟨by first | rfl | trivial, HK.out.1, (grown_some HG.out b).trans HK.out.2⟩
 | false =>
  rw [hq] at hn
  rw [if_neg (by decide)]
  clear h
  go_enter Tryz.func67, Tryz.ntmps67
  go_wp2_with (go_at_call 46; refine hn.mono ?_; rintro e w1 ⟨rfl, hg1⟩)
  go_ret
  exact ⟨by first | rfl | trivial, HH.out.kept hg1, grown_some hg1 b⟩
theorem radv_t {w : World} {b g cap : Nat} {T : List Lex.Tk} {s : Gram.Rf.St} (h : Rp w b g cap T s) (hi : s.i + 1 < T.length) (o : Obj) :
  Rp ((w.setCell ⟨b, 1, none⟩ (.int .i64 ((s.i : Int) + 1))).alloc o) b g cap T (Gram.Rf.adv s) ∧ w.grownBy ((w.setCell ⟨b, 1, none⟩ (.int .i64 ((s.i : Int) + 1))).alloc o) (some b) := by
 have h1 := radv_w h hi
 exact ⟨h1.1.alloc o, galloc h1.2 o⟩
end
open Go.RowKit Go.Maps Go.WideMaps
section
variable (b g cap : Nat) (T : List Lex.Tk) (s : Gram.Rf.St)
theorem bne_t {a c : Int} (h : (a == c) = true) : (a != c) = false := by simp [bne, h]
theorem bne_f {a c : Int} (h : (a == c) = false) : (a != c) = true := by simp [bne, h]
theorem rname_any (w : World) (h : Rp w b g cap T s) :
  Calls Tryz.prog 65 #[.pointer (some ⟨b, 0, none⟩)] w fun e w' => e = .returned (.string ⟨(Gram.Rf.name T s).1.toArray⟩) ∧ Rp w' b g cap T (Gram.Rf.name T s).2 ∧ w.grownBy w' (some b) := by
 have hn := rtok_any b g cap T s w h
 have HH := ld h
 have hm := h.toks.most
 have hlt := h.lt
 have hx : tokV (Gram.tk T s.i) = .agg #[.int .i64 (Gram.tk T s.i).kind, .string ⟨(Gram.tk T s.i).text.toArray⟩, .int .i64 (Gram.tk T s.i).n, .int .i64 (Gram.tk T s.i).t, .int .i64 0, .int .i64 ((Gram.tk T s.i).at_ : Int)] := rfl
 rw [hx] at hn
 unfold Gram.Rf.name
 cases hq : Gram.Rf.nameOk T s with
 | true =>
  rw [if_pos rfl]
  unfold Gram.Rf.nameOk at hq
  simp only [Bool.and_eq_true, beq_iff_eq] at hq
  obtain ⟨h0, h1⟩ := hq
  have hi := h.next (.inl (by rw [h1]; decide))
  have b0 : (s.e != 0) = false := bne_t (by rw [beq_iff_eq]; exact h0)
  have b1 : ((Gram.tk T s.i).kind != 1) = false := bne_t (by rw [beq_iff_eq]; exact h1)
  clear h h0 h1 hx
  generalize Gram.tk T s.i = y at *
  go_enter Tryz.func65, Tryz.ntmps65
  go_wp2_with (go_at_call 45; refine hn.mono ?_; rintro e w1 ⟨rfl, hg1⟩; refine Hid.out ?_)
  have hP := HH.out.kept hg1
  have p1 := hP.st.c1
  have p2 := hP.st.c2
  have f1 := hP.st.fr 1
  have hb1 := hP.bl
  have n1 : ¬ b = w1.heap.size := by omega
  have HK := ld (radv_t hP hi)
  have HG := ld hg1
  clear hg1 hn hP
  generalize s.i = i at *
  generalize s.e = e0 at *
  refine ld ?_
  go_wp2
  go_ret
  exact ⟨by first | rfl | trivial, (HK.out _).1, (grown_some HG.out b).trans (HK.out _).2⟩
 | false =>
  rw [if_neg (by decide)]
  have HF := ld (fun w1 (hg1 : w.grownBy w1 none) => rfail_any b g cap T s 12 w1 (h.kept hg1))
  unfold Gram.Rf.nameOk at hq
  clear h hx
  generalize Gram.tk T s.i = y at *
  cases h0 : (s.e == 0) with
  | true =>
   have b0 := bne_t h0
   have b1 : (y.kind != 1) = true := bne_f (by rw [h0] at hq; simpa using hq)
   clear hq h0
   go_enter Tryz.func65, Tryz.ntmps65
   go_wp2_with (go_at_call 45; refine hn.mono ?_; rintro e w1 ⟨rfl, hg1⟩; refine Hid.out ?_)
   have hP := HH.out.kept hg1
   have p2 := hP.st.c2
   have hb1 := hP.bl
   have n1 : ¬ b = w1.heap.size := by omega
   clear hn hP
   generalize s.e = e0 at *
   refine ld ?_
   go_wp2_with ((go_at_call 47; refine (HF.out _ (galloc hg1 _)).mono ?_; rintro e w2 ⟨rfl, hP2, hg2⟩))
   go_ret
   exact ⟨by first | rfl | trivial, hP2, (grown_some (galloc hg1 _) b).trans hg2⟩
  | false =>
   have b0 := bne_f h0
   clear hq h0
   go_enter Tryz.func65, Tryz.ntmps65
   go_wp2_with (go_at_call 45; refine hn.mono ?_; rintro e w1 ⟨rfl, hg1⟩; refine Hid.out ?_)
   have hP := HH.out.kept hg1
   have p2 := hP.st.c2
   have hb1 := hP.bl
   have n1 : ¬ b = w1.heap.size := by omega
   clear hn hP
   generalize s.e = e0 at *
   refine ld ?_
   go_wp2_with ((go_at_call 47; refine (HF.out _ (galloc hg1 _)).mono ?_; rintro e w2 ⟨rfl, hP2, hg2⟩))
   go_ret
   exact ⟨by first | rfl | trivial, hP2, (grown_some (galloc hg1 _) b).trans hg2⟩
theorem rsize_any (w : World) (h : Rp w b g cap T s) :
  Calls Tryz.prog 85 #[.pointer (some ⟨b, 0, none⟩)] w fun e w' => e = .returned (.int .i64 (Gram.Rf.size T s).1) ∧ Rp w' b g cap T (Gram.Rf.size T s).2 ∧ w.grownBy w' (some b) := by
 have hn := rtok_any b g cap T s w h
 have HH := ld h
 have hm := h.toks.most
 have hlt := h.lt
 have hx : tokV (Gram.tk T s.i) = .agg #[.int .i64 (Gram.tk T s.i).kind, .string ⟨(Gram.tk T s.i).text.toArray⟩, .int .i64 (Gram.tk T s.i).n, .int .i64 (Gram.tk T s.i).t, .int .i64 0, .int .i64 ((Gram.tk T s.i).at_ : Int)] := rfl
 rw [hx] at hn
 unfold Gram.Rf.size
 cases hq : Gram.Rf.sizeOk T s with
 | true =>
  rw [if_pos rfl]
  unfold Gram.Rf.sizeOk at hq
  simp only [Bool.and_eq_true, beq_iff_eq] at hq
  obtain ⟨⟨h0, h1⟩, h2⟩ := hq
  have hi := h.next (.inl (by rw [h1]; decide))
  have b0 : (s.e != 0) = false := bne_t (by rw [beq_iff_eq]; exact h0)
  have b1 : ((Gram.tk T s.i).kind != 2) = false := bne_t (by rw [beq_iff_eq]; exact h1)
  have b2 : ((Gram.tk T s.i).t != 0) = false := bne_t (by rw [beq_iff_eq]; exact h2)
  clear h h0 h1 h2 hx
  generalize Gram.tk T s.i = y at *
  go_enter Tryz.func85, Tryz.ntmps85
  go_wp2_with (go_at_call 45; refine hn.mono ?_; rintro e w1 ⟨rfl, hg1⟩; refine Hid.out ?_)
  have hP := HH.out.kept hg1
  have p1 := hP.st.c1
  have p2 := hP.st.c2
  have f1 := hP.st.fr 1
  have hb1 := hP.bl
  have n1 : ¬ b = w1.heap.size := by omega
  have HK := ld (radv_t hP hi)
  have HG := ld hg1
  clear hg1 hn hP
  generalize s.i = i at *
  generalize s.e = e0 at *
  refine ld ?_
  go_wp2
  go_ret
  exact ⟨by first | rfl | trivial, (HK.out _).1, (grown_some HG.out b).trans (HK.out _).2⟩
 | false =>
  rw [if_neg (by decide)]
  have HF := ld (fun w1 (hg1 : w.grownBy w1 none) => rfail_any b g cap T s 12 w1 (h.kept hg1))
  unfold Gram.Rf.sizeOk at hq
  clear h hx
  generalize Gram.tk T s.i = y at *
  cases h0 : (s.e == 0) with
  | true =>
   have b0 := bne_t h0
   cases h1 : (y.kind == 2) with
   | true =>
    have b1 := bne_t h1
    have b2 : (y.t != 0) = true := bne_f (by rw [h0, h1] at hq; simpa using hq)
    clear hq h0 h1
    go_enter Tryz.func85, Tryz.ntmps85
    go_wp2_with (go_at_call 45; refine hn.mono ?_; rintro e w1 ⟨rfl, hg1⟩; refine Hid.out ?_)
    have hP := HH.out.kept hg1
    have p2 := hP.st.c2
    have hb1 := hP.bl
    have n1 : ¬ b = w1.heap.size := by omega
    clear hn hP
    generalize s.e = e0 at *
    refine ld ?_
    go_wp2_with ((go_at_call 47; refine (HF.out _ (galloc hg1 _)).mono ?_; rintro e w2 ⟨rfl, hP2, hg2⟩))
    go_ret
    exact ⟨by first | rfl | trivial, hP2, (grown_some (galloc hg1 _) b).trans hg2⟩
   | false =>
    have b1 := bne_f h1
    clear hq h0 h1
    go_enter Tryz.func85, Tryz.ntmps85
    go_wp2_with (go_at_call 45; refine hn.mono ?_; rintro e w1 ⟨rfl, hg1⟩; refine Hid.out ?_)
    have hP := HH.out.kept hg1
    have p2 := hP.st.c2
    have hb1 := hP.bl
    have n1 : ¬ b = w1.heap.size := by omega
    clear hn hP
    generalize s.e = e0 at *
    refine ld ?_
    go_wp2_with ((go_at_call 47; refine (HF.out _ (galloc hg1 _)).mono ?_; rintro e w2 ⟨rfl, hP2, hg2⟩))
    go_ret
    exact ⟨by first | rfl | trivial, hP2, (grown_some (galloc hg1 _) b).trans hg2⟩
  | false =>
   have b0 := bne_f h0
   clear hq h0
   go_enter Tryz.func85, Tryz.ntmps85
   go_wp2_with (go_at_call 45; refine hn.mono ?_; rintro e w1 ⟨rfl, hg1⟩; refine Hid.out ?_)
   have hP := HH.out.kept hg1
   have p2 := hP.st.c2
   have hb1 := hP.bl
   have n1 : ¬ b = w1.heap.size := by omega
   clear hn hP
   generalize s.e = e0 at *
   refine ld ?_
   go_wp2_with ((go_at_call 47; refine (HF.out _ (galloc hg1 _)).mono ?_; rintro e w2 ⟨rfl, hP2, hg2⟩))
   go_ret
   exact ⟨by first | rfl | trivial, hP2, (grown_some (galloc hg1 _) b).trans hg2⟩
theorem rkindm_any (w : World) (h : Rp w b g cap T s) :
  Calls Tryz.prog 84 #[.pointer (some ⟨b, 0, none⟩)] w fun e w' => e = .returned (.int .i64 (Gram.Rf.kind T s).1) ∧ Rp w' b g cap T (Gram.Rf.kind T s).2 ∧ w.grownBy w' (some b) := by
 have hn := rtok_any b g cap T s w h
 have HH := ld h
 have hm := h.toks.most
 have hlt := h.lt
 have hx : tokV (Gram.tk T s.i) = .agg #[.int .i64 (Gram.tk T s.i).kind, .string ⟨(Gram.tk T s.i).text.toArray⟩, .int .i64 (Gram.tk T s.i).n, .int .i64 (Gram.tk T s.i).t, .int .i64 0, .int .i64 ((Gram.tk T s.i).at_ : Int)] := rfl
 rw [hx] at hn
 have HKd := fun W => rkind_any ⟨(Gram.tk T s.i).text.toArray⟩ W
 unfold Gram.Rf.kind
 cases hq : Gram.Rf.kindOk T s with
 | true =>
  rw [if_pos rfl]
  unfold Gram.Rf.kindOk at hq
  simp only [Bool.and_eq_true, beq_iff_eq, bne_iff_ne, ne_eq] at hq
  obtain ⟨⟨h0, h1⟩, h2⟩ := hq
  have hi := h.next (.inl (by rw [h1]; decide))
  have b0 : (s.e != 0) = false := bne_t (by rw [beq_iff_eq]; exact h0)
  have b1 : ((Gram.tk T s.i).kind != 3) = false := bne_t (by rw [beq_iff_eq]; exact h1)
  have b2 : (Lex.kindOf (Gram.tk T s.i).text == 0) = false := by rw [beq_eq_false_iff_ne]; exact h2
  simp only [List.toList_toArray] at HKd
  generalize hK0 : Lex.kindOf (Gram.tk T s.i).text = kk at *
  clear h h0 h1 h2 hx hK0
  generalize Gram.tk T s.i = y at *
  go_enter Tryz.func84, Tryz.ntmps84
  go_wp2_with (go_at_call 45; refine hn.mono ?_; rintro e w1 ⟨rfl, hg1⟩; refine Hid.out ?_)
  have hP := HH.out.kept hg1
  have p2 := hP.st.c2
  have hb1 := hP.bl
  have n1 : ¬ b = w1.heap.size := by omega
  have hP := hP.alloc (.cells #[.int .i64 y.kind, .string ⟨y.text.toArray⟩, .int .i64 y.n, .int .i64 y.t, .int .i64 0, .int .i64 (y.at_ : Int)] 84)
  have hg1 := galloc hg1 (.cells #[.int .i64 y.kind, .string ⟨y.text.toArray⟩, .int .i64 y.n, .int .i64 y.t, .int .i64 0, .int .i64 (y.at_ : Int)] 84)
  have t1 : (w1.alloc (.cells #[.int .i64 y.kind, .string ⟨y.text.toArray⟩, .int .i64 y.n, .int .i64 y.t, .int .i64 0, .int .i64 (y.at_ : Int)] 84)).cell? ⟨w1.heap.size, 1, none⟩ = some (.string ⟨y.text.toArray⟩) := by simp
  clear hn
  refine ld ?_
  go_wp2_with (go_at_call 61; refine (HKd _).mono ?_; rintro e w2 ⟨rfl, hg2⟩; refine Hid.out ?_)
  have hP := hP.kept hg2
  have p1 := hP.st.c1
  have f1 := hP.st.fr 1
  have t2 := hg2.cell t1 (by simp)
  have hb2 := hP.bl
  have n2 : ¬ b = w1.heap.size := n1
  have n3 : ¬ w1.heap.size = b := fun e => n1 e.symm
  have HK := ld (radv_w hP hi)
  have HG := ld (hg1.trans hg2)
  clear hg1 hg2 hP t1 p2
  generalize s.i = i at *
  refine ld ?_
  go_wp2_with (go_at_call 61; refine (HKd _).mono ?_; rintro e w3 ⟨rfl, hg3⟩)
  go_ret
  exact ⟨by first | rfl | trivial, HK.out.1.kept hg3, ((grown_some HG.out b).trans HK.out.2).trans (grown_some hg3 b)⟩
 | false =>
  rw [if_neg (by decide)]
  have HF := ld (fun w1 (hg1 : w.grownBy w1 none) => rfail_any b g cap T s 12 w1 (h.kept hg1))
  unfold Gram.Rf.kindOk at hq
  simp only [List.toList_toArray] at HKd
  generalize hK0 : Lex.kindOf (Gram.tk T s.i).text = kk at *
  clear h hx hK0
  generalize Gram.tk T s.i = y at *
  cases h0 : (s.e == 0) with
  | true =>
   have b0 := bne_t h0
   cases h1 : (y.kind == 3) with
   | true =>
    have b1 := bne_t h1
    have b2 : (kk == 0) = true := by rw [h0, h1] at hq; simpa using hq
    clear hq h0 h1
    go_enter Tryz.func84, Tryz.ntmps84
    go_wp2_with (go_at_call 45; refine hn.mono ?_; rintro e w1 ⟨rfl, hg1⟩; refine Hid.out ?_)
    have hP := HH.out.kept hg1
    have p2 := hP.st.c2
    have hb1 := hP.bl
    have n1 : ¬ b = w1.heap.size := by omega
    clear hn hP
    generalize s.e = e0 at *
    refine ld ?_
    go_wp2_with (go_at_call 61; refine (HKd _).mono ?_; rintro e w3 ⟨rfl, hg3⟩; refine Hid.out ?_)
    refine ld ?_
    go_wp2_with (go_at_call 47; refine (HF.out _ ((galloc hg1 _).trans hg3)).mono ?_; rintro e w2 ⟨rfl, hP2, hg2⟩)
    go_ret
    exact ⟨by first | rfl | trivial, hP2, (grown_some ((galloc hg1 _).trans hg3) b).trans hg2⟩
   | false =>
    have b1 := bne_f h1
    clear hq h0 h1
    go_enter Tryz.func84, Tryz.ntmps84
    go_wp2_with (go_at_call 45; refine hn.mono ?_; rintro e w1 ⟨rfl, hg1⟩; refine Hid.out ?_)
    have hP := HH.out.kept hg1
    have p2 := hP.st.c2
    have hb1 := hP.bl
    have n1 : ¬ b = w1.heap.size := by omega
    clear hn hP
    generalize s.e = e0 at *
    refine ld ?_
    go_wp2_with ((go_at_call 47; refine (HF.out _ (galloc hg1 _)).mono ?_; rintro e w2 ⟨rfl, hP2, hg2⟩))
    go_ret
    exact ⟨by first | rfl | trivial, hP2, (grown_some (galloc hg1 _) b).trans hg2⟩
  | false =>
   have b0 := bne_f h0
   clear hq h0
   go_enter Tryz.func84, Tryz.ntmps84
   go_wp2_with (go_at_call 45; refine hn.mono ?_; rintro e w1 ⟨rfl, hg1⟩; refine Hid.out ?_)
   have hP := HH.out.kept hg1
   have p2 := hP.st.c2
   have hb1 := hP.bl
   have n1 : ¬ b = w1.heap.size := by omega
   clear hn hP
   generalize s.e = e0 at *
   refine ld ?_
   go_wp2_with ((go_at_call 47; refine (HF.out _ (galloc hg1 _)).mono ?_; rintro e w2 ⟨rfl, hP2, hg2⟩))
   go_ret
   exact ⟨by first | rfl | trivial, hP2, (grown_some (galloc hg1 _) b).trans hg2⟩
theorem rfull_no (n most : Int) (hn : n < most) (w : World) : Calls Tryz.prog 48 #[.pointer (some ⟨b, 0, none⟩), .int .i64 n, .int .i64 most] w fun e w' => e = .returned (.bool false) ∧ w' = w := by
 go_enter Tryz.func48, Tryz.ntmps48
 go_wp2
 go_ret
 exact ⟨rfl, rfl⟩
theorem rfull_yes (n most : Int) (hn : most ≤ n) (w : World) (h : Rp w b g cap T s) : Calls Tryz.prog 48 #[.pointer (some ⟨b, 0, none⟩), .int .i64 n, .int .i64 most] w fun e w' => e = .returned (.bool true) ∧ Rp w' b g cap T (Gram.Rf.fail T 2 s) ∧ w.grownBy w' (some b) := by
 have HF := ld (rfail_any b g cap T s 2 w h)
 clear h
 go_enter Tryz.func48, Tryz.ntmps48
 go_wp2_with (go_at_call 47; refine HF.out.mono ?_; rintro e w2 ⟨rfl, hP2, hg2⟩)
 go_ret
 exact ⟨by first | rfl | trivial, hP2, hg2⟩
theorem ropened_w {w : World} {b g cap : Nat} {T : List Lex.Tk} {s : Gram.Rf.St} (h : Rp w b g cap T s) (v : Int) :
  Rp (w.setCell ⟨b, 4, none⟩ (.int .i64 v)) b g cap T { s with n := v } ∧ w.grownBy (w.setCell ⟨b, 4, none⟩ (.int .i64 v)) (some b) := by
 have g3 := rset (World.grownBy.refl w (some b)) 4 (.int .i64 v)
 exact ⟨h.to g3 (h.st.setN v) h.lt, g3⟩
theorem ropen_yes (hn : ¬ 40 < (Gram.Rf.opened s).n) (w : World) (h : Rp w b g cap T s) : Calls Tryz.prog 92 #[.pointer (some ⟨b, 0, none⟩)] w fun e w' => e = .returned (.bool true) ∧ Rp w' b g cap T (Gram.Rf.opened s) ∧ w.grownBy w' (some b) := by
 have p4 := h.st.c4
 have f4 := h.st.fr 4
 have HK := ld (ropened_w h (wrap64 (s.n + 1)))
 have hd : decide (40 < wrap64 (s.n + 1)) = false := by rw [decide_eq_false_iff_not]; exact hn
 have HE : Hid (Gram.Rf.opened s = { s with n := wrap64 (s.n + 1) }) := ld rfl
 rw [HE.out]
 clear h hn HE
 generalize s.n = n at p4 hd HK
 generalize hv : wrap64 (n + 1) = v at hd HK
 go_enter Tryz.func92, Tryz.ntmps92
 go_wp2
 go_ret
 exact ⟨by first | rfl | trivial, HK.out.1, HK.out.2⟩
theorem ropen_no (hn : 40 < (Gram.Rf.opened s).n) (w : World) (h : Rp w b g cap T s) : Calls Tryz.prog 92 #[.pointer (some ⟨b, 0, none⟩)] w fun e w' => e = .returned (.bool false) ∧ Rp w' b g cap T (Gram.Rf.fail T 2 (Gram.Rf.opened s)) ∧ w.grownBy w' (some b) := by
 have p4 := h.st.c4
 have f4 := h.st.fr 4
 have HK := ropened_w h (wrap64 (s.n + 1))
 have HF := ld (rfail_any b g cap T (Gram.Rf.opened s) 2 _ HK.1)
 have HG := ld HK.2
 have hd : decide (40 < wrap64 (s.n + 1)) = true := by rw [decide_eq_true_iff]; exact hn
 clear h hn HK
 generalize Gram.Rf.fail T 2 (Gram.Rf.opened s) = s' at *
 generalize s.n = n at *
 generalize hv : wrap64 (n + 1) = v at *
 go_enter Tryz.func92, Tryz.ntmps92
 go_wp2_with (go_at_call 47; refine HF.out.mono ?_; rintro e w2 ⟨rfl, hP2, hg2⟩)
 go_ret
 exact ⟨by first | rfl | trivial, hP2, HG.out.trans hg2⟩
end
open Go.RowKit Go.Maps Go.WideMaps
inductive D where
 | c (v : Value)
 | l (e : TypeId) (sz : Nat) (rows : List (List D))
mutual
inductive RepC (w : World) (B : Nat) (E : List Nat) : D → Value → Prop
 | c (v : Value) : RepC w B E (.c v) v
 | l {e : TypeId} {sz : Nat} {rows : List (List D)} {v : Value} {xs : List Value} : w.ownsRow B e sz v rows.length xs → (∀ k ∈ E, v.ownBlock ≠ some k) → RepRow w B E rows.flatten xs → RepC w B E (.l e sz rows) v
inductive RepRow (w : World) (B : Nat) (E : List Nat) : List D → List Value → Prop
 | nil : RepRow w B E [] []
 | cons {d : D} {v : Value} {ds : List D} {vs : List Value} : RepC w B E d v → RepRow w B E ds vs → RepRow w B E (d :: ds) (v :: vs)
end
mutual
theorem RepC.keptX {w w' : World} {B : Nat} {E : List Nat} {row : Option Nat} (hg : w.grownBy w' row) (hr : ∀ k, row = some k → k < B ∨ k ∈ E) : ∀ {d : D} {v : Value}, RepC w B E d v → RepC w' B E d v
 | _, _, .c v => .c v
 | _, v, .l ho hE h => .l (ho.kept hg (by
  cases hv : v.ownBlock with
  | none => exact .inl rfl
  | some k => exact .inr (fun e => by
   rcases hr k e.symm with h2 | h2
   ·have h1 := (ho.lt k hv).1; omega
   ·exact hE k h2 hv))) hE (RepRow.keptX hg hr h)
theorem RepRow.keptX {w w' : World} {B : Nat} {E : List Nat} {row : Option Nat} (hg : w.grownBy w' row) (hr : ∀ k, row = some k → k < B ∨ k ∈ E) : ∀ {ds : List D} {vs : List Value}, RepRow w B E ds vs → RepRow w' B E ds vs
 | _, _, .nil => .nil
 | _, _, .cons h t => .cons (RepC.keptX hg hr h) (RepRow.keptX hg hr t)
end
theorem RepC.kept {w w' : World} {B : Nat} {E : List Nat} {row : Option Nat} (hg : w.grownBy w' row) (hr : ∀ k, row = some k → k < B) {d : D} {v : Value} (h : RepC w B E d v) : RepC w' B E d v := RepC.keptX hg (fun k e => .inl (hr k e)) h
mutual
theorem RepC.mono {w : World} {B B' : Nat} {E : List Nat} (hB : B' ≤ B) : ∀ {d : D} {v : Value}, RepC w B E d v → RepC w B' E d v
 | _, _, .c v => .c v
 | _, _, .l ho hE h => .l (ho.mono hB) hE (RepRow.mono hB h)
theorem RepRow.mono {w : World} {B B' : Nat} {E : List Nat} (hB : B' ≤ B) : ∀ {ds : List D} {vs : List Value}, RepRow w B E ds vs → RepRow w B' E ds vs
 | _, _, .nil => .nil
 | _, _, .cons h t => .cons (RepC.mono hB h) (RepRow.mono hB t)
end
mutual
theorem RepC.noX {w : World} {B : Nat} {E : List Nat} : ∀ {d : D} {v : Value}, RepC w B E d v → RepC w B [] d v
 | _, _, .c v => .c v
 | _, _, .l ho _ h => .l ho (fun _ e => by cases e) (RepRow.noX h)
theorem RepRow.noX {w : World} {B : Nat} {E : List Nat} : ∀ {ds : List D} {vs : List Value}, RepRow w B E ds vs → RepRow w B [] ds vs
 | _, _, .nil => .nil
 | _, _, .cons h t => .cons (RepC.noX h) (RepRow.noX t)
end
mutual
theorem RepC.toX {w : World} {B : Nat} (E : List Nat) (hE : ∀ k ∈ E, w.heap.size ≤ k ∨ k < B) : ∀ {d : D} {v : Value}, RepC w B [] d v → RepC w B E d v
 | _, _, .c v => .c v
 | _, _, .l ho _ h => .l ho (fun k e hv => by have h1 := hE k e; have h2 := ho.lt _ hv; omega) (RepRow.toX E hE h)
theorem RepRow.toX {w : World} {B : Nat} (E : List Nat) (hE : ∀ k ∈ E, w.heap.size ≤ k ∨ k < B) : ∀ {ds : List D} {vs : List Value}, RepRow w B [] ds vs → RepRow w B E ds vs
 | _, _, .nil => .nil
 | _, _, .cons h t => .cons (RepC.toX E hE h) (RepRow.toX E hE t)
end
theorem RepRow.append {w : World} {B : Nat} {E : List Nat} : ∀ {ds : List D} {vs : List Value} {es : List D} {us : List Value}, RepRow w B E ds vs → RepRow w B E es us → RepRow w B E (ds ++ es) (vs ++ us)
 | _, _, _, _, .nil, h => h
 | _, _, _, _, .cons a t, h => .cons a (RepRow.append t h)
theorem RepC.nil (w : World) (B : Nat) (E : List Nat) (e : TypeId) (sz : Nat) : RepC w B E (.l e sz []) (.slice none 0 0) := .l (World.ownsRow_nil w B e sz) (fun _ _ h => by simp [Value.ownBlock] at h) .nil
theorem owns_new {w : World} {B : Nat} (e : TypeId) (sz n : Nat) (cs : List Value) (hB : B ≤ w.heap.size) (hl : cs.length = n * sz) (hn : n ≤ maxLen) : (w.alloc (.cells cs.toArray e)).ownsRow B e sz (.slice (some ⟨w.heap.size, 0, none⟩) n n) n cs :=
 ⟨hl, .inr ⟨w.heap.size, n, cs.toArray, rfl, hB, heap_alloc_new w _, Nat.le_refl _, hn, by simpa using hl, by rw [← hl]; simp⟩⟩
mutual
def expD : Gram.Exp → List D
 | .mk f s nm tk tl n m ks a => [.c (.int .i64 f), .c (.int .i64 s), .c (.string ⟨nm.toArray⟩), .c (.int .i64 tk), .c (.int .i64 tl), .c (.int .i64 n), .c (.int .i64 m), .l 37 9 (expsD ks), .c (.int .i64 a)]
def expsD : List Gram.Exp → List (List D)
 | [] => []
 | e :: r => expD e :: expsD r
end
theorem expsD_append : ∀ (l m : List Gram.Exp), expsD (l ++ m) = expsD l ++ expsD m
 | [], _ => by simp [expsD]
 | e :: r, m => by simp [expsD, expsD_append r m]
theorem expsD_len : ∀ l : List Gram.Exp, (expsD l).length = l.length
 | [] => rfl
 | e :: r => by simp [expsD, expsD_len r]
def expV (x : Gram.Exp) (k : Value) : Value :=
 match x with
 | .mk f s nm tk tl n m _ a => .agg #[.int .i64 f, .int .i64 s, .string ⟨nm.toArray⟩, .int .i64 tk, .int .i64 tl, .int .i64 n, .int .i64 m, k, .int .i64 a]
def Kids (w : World) (B : Nat) (l : List Gram.Exp) (k : Value) : Prop := RepC w B [] (.l 37 9 (expsD l)) k
def KidsX (w : World) (B : Nat) (E : List Nat) (l : List Gram.Exp) (k : Value) : Prop := RepC w B E (.l 37 9 (expsD l)) k
theorem Kids.kept {w w' : World} {B : Nat} {l : List Gram.Exp} {k : Value} {b : Nat} (h : Kids w B l k) (hg : w.grownBy w' (some b)) (hb : b < B) : Kids w' B l k := RepC.kept hg (fun k e => by cases e; exact hb) h
theorem Kids.kept0 {w w' : World} {B : Nat} {l : List Gram.Exp} {k : Value} (h : Kids w B l k) (hg : w.grownBy w' none) : Kids w' B l k := RepC.kept hg (fun k e => by cases e) h
theorem Kids.mono {w : World} {B B' : Nat} {l : List Gram.Exp} {k : Value} (h : Kids w B l k) (hB : B' ≤ B) : Kids w B' l k := RepC.mono hB h
theorem Kids.nil (w : World) (B : Nat) : Kids w B [] (.slice none 0 0) := RepC.nil w B _ _ _
def expCells (x : Gram.Exp) (k : Value) : List Value :=
 match x with
 | .mk f s nm tk tl n m _ a => [.int .i64 f, .int .i64 s, .string ⟨nm.toArray⟩, .int .i64 tk, .int .i64 tl, .int .i64 n, .int .i64 m, k, .int .i64 a]
theorem exp_row {w : World} {B : Nat} {E : List Nat} {x : Gram.Exp} {k : Value} (h : KidsX w B E x.kids k) : RepRow w B E (expD x) (expCells x k) := by
 cases x with
 | mk f s nm tk tl n m ks a =>
  simp only [expD, expCells]
  exact .cons (.c _) (.cons (.c _) (.cons (.c _) (.cons (.c _) (.cons (.c _) (.cons (.c _) (.cons (.c _) (.cons h (.cons (.c _) .nil))))))))
theorem KidsX.two {w : World} {B : Nat} {E : List Nat} {x y : Gram.Exp} {k l v : Value} (ho : w.ownsRow B 37 9 v 2 (expCells x k ++ expCells y l)) (hE : ∀ k ∈ E, v.ownBlock ≠ some k) (h : KidsX w B E x.kids k) (h2 : KidsX w B E y.kids l) : KidsX w B E [x, y] v := by
 refine .l (xs := expCells x k ++ expCells y l) (by simpa [expsD] using ho) hE ?_
 simpa [expsD] using (exp_row h).append (exp_row h2)
def exp0 : Obj := .cells #[.int .i64 0, .int .i64 0, .string ⟨#[]⟩, .int .i64 0, .int .i64 0, .int .i64 0, .int .i64 0, .slice none 0 0, .int .i64 0] 37
open Go.RowKit Go.Maps Go.WideMaps
structure Nc (w : World) (g : Nat) (x0 x1 x2 x3 x4 x5 x6 x7 x8 : Value) : Prop where
 c0 : w.cell? ⟨g, 0, none⟩ = some x0
 c1 : w.cell? ⟨g, 1, none⟩ = some x1
 c2 : w.cell? ⟨g, 2, none⟩ = some x2
 c3 : w.cell? ⟨g, 3, none⟩ = some x3
 c4 : w.cell? ⟨g, 4, none⟩ = some x4
 c5 : w.cell? ⟨g, 5, none⟩ = some x5
 c6 : w.cell? ⟨g, 6, none⟩ = some x6
 c7 : w.cell? ⟨g, 7, none⟩ = some x7
 c8 : w.cell? ⟨g, 8, none⟩ = some x8
 f : ∀ j, w.frozen? ⟨g, j, none⟩ = false
theorem Nc.of {w : World} {g : Nat} {x0 x1 x2 x3 x4 x5 x6 x7 x8 : Value} (h : w.heap[g]? = some (.cells #[x0, x1, x2, x3, x4, x5, x6, x7, x8] 37 (0, 0))) : Nc w g x0 x1 x2 x3 x4 x5 x6 x7 x8 := by
 constructor
 case f => exact fun j => frozen_of_row w g j _ _ h
 all_goals (rw [cell_of_row w g _ _ _ _ h]; simp)
theorem Kids.form {w : World} {B : Nat} {l : List Gram.Exp} {k : Value} (h : Kids w B l k) : ∃ a n c, k = .slice a n c := by
 unfold Kids at h
 cases h with
 | l ho _ _ =>
  rcases ho.2 with ⟨rfl, _⟩ | ⟨g, cap, cur, rfl, _⟩
  ·exact ⟨_, _, _, rfl⟩
  ·exact ⟨_, _, _, rfl⟩
section
variable (b g cap : Nat) (rv : Value) (T : List Lex.Tk)
end
open Go.RowKit Go.Maps Go.WideMaps
theorem heap_at2 (w : World) (A X R S : Obj) : ((((w.alloc A).alloc X).alloc R).alloc S).heap[w.heap.size + 1 + 1]? = some R := by
 have h := heap_alloc2_old ((w.alloc A).alloc X) R S
 rw [World.size_alloc, World.size_alloc] at h
 exact h
theorem owns_at3 (w : World) (A X R : Obj) {B : Nat} (e : TypeId) (sz n : Nat) (cs : List Value) (hB : B ≤ w.heap.size) (hl : cs.length = n * sz) (hn : n ≤ maxLen) :
  ((((w.alloc A).alloc X).alloc R).alloc (.cells cs.toArray e)).ownsRow B e sz (.slice (some ⟨w.heap.size + 1 + 1 + 1, 0, none⟩) n n) n cs := by
 have h := owns_new (w := ((w.alloc A).alloc X).alloc R) (B := B) e sz n cs (by simp only [World.size_alloc]; omega) hl hn
 rw [World.size_alloc, World.size_alloc, World.size_alloc] at h
 exact h
theorem rtwoX_any (fm sb : Int) (x y : Gram.Exp) (k l : Value) (B : Nat) (E : List Nat) (w : World) (hB : B ≤ w.heap.size) (hE : ∀ k ∈ E, k < w.heap.size) (hx : KidsX w B E x.kids k) (hy : KidsX w B E y.kids l) :
  Calls Tryz.prog 99 #[.int .i64 fm, .int .i64 sb, expV x k, expV y l] w fun e w' => (∃ v, e = .returned (expV (Gram.Rf.two fm sb x y) v) ∧ KidsX w' B E [x, y] v) ∧ w.grownBy w' none := by
 have hx0 := hx
 have hy0 := hy
 clear hx hy
 unfold Gram.Rf.two
 cases x with
 | mk f1 s1 nm1 tk1 tl1 n1 m1 ks1 a1 =>
 cases y with
 | mk f2 s2 nm2 tk2 tl2 n2 m2 ks2 a2 =>
 have HX := ld hx0
 have HY := ld hy0
 clear hx0 hy0
 unfold expV
 simp only [Gram.Exp.at_]
 go_enter Tryz.func99, Tryz.ntmps99
 go_wp2
 refine bodyPost_ret (results_cell_row rfl _ _ (w.heap.size + 1 + 1) 37 _ (0, 0) _ rfl (heap_at2 _ _ _ _ _) Tryz.underlying37 rfl (by kernel_rfl)) rfl ?_
 have hg := fun A X R S => galloc (galloc (galloc (ga w A none) X) R) S
 refine ⟨⟨_, rfl, KidsX.two (owns_at3 w _ _ _ 37 9 2 (expCells (.mk f1 s1 nm1 tk1 tl1 n1 m1 ks1 a1) k ++ expCells (.mk f2 s2 nm2 tk2 tl2 n2 m2 ks2 a2) l) hB rfl (by unfold maxLen; omega)) (fun k e hv => by have := hE k e; simp [Value.ownBlock] at hv; omega) (RepC.kept (hg _ _ _ _) (fun k e => by cases e) HX.out) (RepC.kept (hg _ _ _ _) (fun k e => by cases e) HY.out)⟩, hg _ _ _ _⟩
theorem rtwo_any (fm sb : Int) (x y : Gram.Exp) (k l : Value) (B : Nat) (w : World) (hB : B ≤ w.heap.size) (hx : Kids w B x.kids k) (hy : Kids w B y.kids l) :
  Calls Tryz.prog 99 #[.int .i64 fm, .int .i64 sb, expV x k, expV y l] w fun e w' => (∃ v, e = .returned (expV (Gram.Rf.two fm sb x y) v) ∧ Kids w' B [x, y] v) ∧ w.grownBy w' none :=
 rtwoX_any fm sb x y k l B [] w hB (fun _ e => by cases e) hx hy
def rePost (w : World) (b g cap : Nat) (T : List Lex.Tk) (r : Option (Gram.Exp × Gram.Rf.St)) (e : Ending) (w' : World) : Prop :=
 match r with
 | some x => ∃ k, e = .returned (expV x.1 k) ∧ Kids w' w.heap.size x.1.kids k ∧ Rp w' b g cap T x.2 ∧ w.grownBy w' (some b)
 | none => False
def CRex (b g cap : Nat) (T : List Lex.Tk) (m : Nat) (F : Gram.Rf.St → Option (Gram.Exp × Gram.Rf.St)) : Prop :=
 ∀ (s : Gram.Rf.St) (w : World), Rp w b g cap T s → (F s).isSome = true → Calls Tryz.prog m #[.pointer (some ⟨b, 0, none⟩)] w fun e w' => rePost w b g cap T (F s) e w'
def CLev (b g cap : Nat) (T : List Lex.Tk) (f : Nat) : Prop :=
 ∀ (n : Nat) (s : Gram.Rf.St) (w : World), n ≤ 8 → Rp w b g cap T s → (Gram.Rf.level T f n s).isSome = true → Calls Tryz.prog 110 #[.pointer (some ⟨b, 0, none⟩), .int .i64 (n : Int)] w fun e w' => rePost w b g cap T (Gram.Rf.level T f n s) e w'
section
variable (b g cap : Nat) (T : List Lex.Tk)
theorem rarrow_step (f : Nat) (h1 : CRex b g cap T 98 (Gram.Rf.fby T f)) (h2 : CRex b g cap T 93 (Gram.Rf.arrow T f)) : CRex b g cap T 93 (Gram.Rf.arrow T (f + 1)) := by
 intro s w h hf
 have hP0 := h.alloc exp0
 have hbw := h.bl
 rw [Gram.Rf.arrow] at hf ⊢
 have hc := h1 s _ hP0
 cases hr1 : (Gram.Rf.fby T f) s with
 | none => rw [hr1] at hf; cases hf
 | some r =>
  obtain ⟨x, s1⟩ := r
  rw [hr1] at hf hc
  have hc2 := hc rfl
  simp only [Gram.Rf.bindS] at hf ⊢
  clear hc hr1
  simp only [rePost] at hc2
  cases x with
  | mk f1 s1' nm1 tk1 tl1 n1 m1 ks1 a1 =>
  simp only [expV] at hc2
  have HH := ld h
  clear h hP0
  cases hsg : Gram.Rf.is T [45, 62] s1 with
  | false =>
   rw [if_neg (by decide)]
   go_enter Tryz.func93, Tryz.ntmps93
   go_wp2_with (go_at_call 98; refine hc2.mono ?_; rintro e w1 ⟨k1, rfl, hk1, hP1, hg1⟩; refine Hid.out ?_)
   obtain ⟨ka, kn, kc, rfl⟩ := hk1.form
   have hPs := hP1.alloc (.cells #[.int .i64 f1, .int .i64 s1', .string ⟨nm1.toArray⟩, .int .i64 tk1, .int .i64 tl1, .int .i64 n1, .int .i64 m1, .slice ka kn kc, .int .i64 a1] 37)
   have hS := rmaybe_any b g cap T s1 ⟨#[45, 62]⟩ _ hPs
   have hs1 := hg1.size
   rw [World.size_alloc] at hs1
   have hbl : b < w1.heap.size := hP1.bl
   unfold Gram.Rf.maybe at hS
   rw [show ((⟨#[45, 62]⟩ : ByteArray)).data.toList = [45, 62] from rfl] at hS
   rw [hsg, if_neg (by decide)] at hS
   clear hf
   refine ld ?_
   go_wp2_with (go_at_call 67; refine hS.mono ?_; rintro e w2 ⟨rfl, hP2, hg2⟩; refine Hid.out ?_)
   have hgW : (w.alloc exp0).grownBy w2 (some b) := (galloc hg1 _).trans hg2
   obtain ⟨c0, c1, c2, c3, c4, c5, c6, c7, c8, cf⟩ := Nc.of ((hg2.block w1.heap.size (by simp) (by simp; omega)).trans (heap_alloc_new w1 _))
   have hlt2 : w1.heap.size < w2.heap.size := by have := hg2.size; rw [World.size_alloc] at this; omega
   refine ld ?_
   go_wp2_with (with_reducible refine hold_st 2 ?_)
   refine sg ((hgW.block w.heap.size (by simp) (by simp; omega)).trans (heap_alloc_new w exp0)) ?_
   intro w4 hh4 hg4
   go_wp2
   (try simp only [Exit.inBlock, Exit.then])
   refine br hh4 Tryz.underlying37 ?_
   have hgA : w1.grownBy w2 (some b) := (grown_some (ga w1 _ none) b).trans hg2
   have hG : w.grownBy w4 (some b) := ((grown_some (ga w exp0 none) b).trans hgW).andThen hg4 (fun j e => .inl (by cases e; exact Nat.le_refl _))
   exact ⟨_, rfl, ((hk1.kept hgA (by simp; omega)).kept hg4 (by simp)).mono (by simp), HH.out.to hG (hP2.st.kept hg4 (by simp; omega)) hP2.lt, hG⟩
  | true =>
   rw [hsg] at hf
   rw [if_pos rfl] at hf ⊢
   cases hr2 : Gram.Rf.arrow T f (Gram.Rf.adv s1) with
   | none => rw [hr2] at hf; cases hf
   | some r2 =>
    obtain ⟨y, s2⟩ := r2
    simp only
    cases y with
    | mk f2 s2' nm2 tk2 tl2 n2 m2 ks2 a2 =>
    clear hf
    go_enter Tryz.func93, Tryz.ntmps93
    go_wp2_with (go_at_call 98; refine hc2.mono ?_; rintro e w1 ⟨k1, rfl, hk1, hP1, hg1⟩; refine Hid.out ?_)
    obtain ⟨ka, kn, kc, rfl⟩ := hk1.form
    have hPs := hP1.alloc (.cells #[.int .i64 f1, .int .i64 s1', .string ⟨nm1.toArray⟩, .int .i64 tk1, .int .i64 tl1, .int .i64 n1, .int .i64 m1, .slice ka kn kc, .int .i64 a1] 37)
    have hS := rmaybe_any b g cap T s1 ⟨#[45, 62]⟩ _ hPs
    have hs1 := hg1.size
    rw [World.size_alloc] at hs1
    have hbl : b < w1.heap.size := hP1.bl
    unfold Gram.Rf.maybe at hS
    rw [show ((⟨#[45, 62]⟩ : ByteArray)).data.toList = [45, 62] from rfl] at hS
    rw [hsg, if_pos rfl] at hS
    refine ld ?_
    go_wp2_with (go_at_call 67; refine hS.mono ?_; rintro e w2 ⟨rfl, hP2, hg2⟩; refine Hid.out ?_)
    have hgW : (w.alloc exp0).grownBy w2 (some b) := (galloc hg1 _).trans hg2
    have hgA : w1.grownBy w2 (some b) := (grown_some (ga w1 _ none) b).trans hg2
    have hlt2 : w1.heap.size < w2.heap.size := by have := hg2.size; rw [World.size_alloc] at this; omega
    have hc3 := h2 _ w2 hP2
    rw [hr2] at hc3
    have hc4 := hc3 rfl
    simp only [rePost, expV] at hc4
    clear hc3
    have hb1 := (hg2.block w1.heap.size (by simp) (by simp; omega)).trans (heap_alloc_new w1 _)
    refine ld ?_
    go_wp2_with (go_at_call 93; refine hc4.mono ?_; rintro e w3 ⟨k2, rfl, hk2, hP3, hg3⟩; refine Hid.out ?_)
    obtain ⟨la, ln, lc, rfl⟩ := hk2.form
    have hs3 := hg3.size
    obtain ⟨c0, c1, c2, c3, c4, c5, c6, c7, c8, cf⟩ := Nc.of (((ga w3 (.cells #[.int .i64 f2, .int .i64 s2', .string ⟨nm2.toArray⟩, .int .i64 tk2, .int .i64 tl2, .int .i64 n2, .int .i64 m2, .slice la ln lc, .int .i64 a2] 37) none).block w1.heap.size (by omega) (by simp)).trans ((hg3.block w1.heap.size (by omega) (by simp; omega)).trans hb1))
    have n13 : ¬ w1.heap.size = w3.heap.size := by omega
    have hgB : w1.grownBy (w3.alloc (.cells #[.int .i64 f2, .int .i64 s2', .string ⟨nm2.toArray⟩, .int .i64 tk2, .int .i64 tl2, .int .i64 n2, .int .i64 m2, .slice la ln lc, .int .i64 a2] 37)) (some b) := galloc (hgA.trans hg3) _
    have hkx : Kids (w3.alloc (.cells #[.int .i64 f2, .int .i64 s2', .string ⟨nm2.toArray⟩, .int .i64 tk2, .int .i64 tl2, .int .i64 n2, .int .i64 m2, .slice la ln lc, .int .i64 a2] 37)) (w.alloc exp0).heap.size (Gram.Exp.mk f1 s1' nm1 tk1 tl1 n1 m1 ks1 a1).kids (.slice ka kn kc) := hk1.kept hgB (by simp; omega)
    have hky : Kids (w3.alloc (.cells #[.int .i64 f2, .int .i64 s2', .string ⟨nm2.toArray⟩, .int .i64 tk2, .int .i64 tl2, .int .i64 n2, .int .i64 m2, .slice la ln lc, .int .i64 a2] 37)) (w.alloc exp0).heap.size (Gram.Exp.mk f2 s2' nm2 tk2 tl2 n2 m2 ks2 a2).kids (.slice la ln lc) := (hk2.kept0 (ga w3 _ none)).mono (by simp; omega)
    have hTw := rtwo_any 7 0 _ _ _ _ (w.alloc exp0).heap.size (w3.alloc (.cells #[.int .i64 f2, .int .i64 s2', .string ⟨nm2.toArray⟩, .int .i64 tk2, .int .i64 tl2, .int .i64 n2, .int .i64 m2, .slice la ln lc, .int .i64 a2] 37)) (by simp; omega) hkx hky
    simp only [expV, Gram.Rf.two] at hTw
    clear hkx hky
    refine ld ?_
    go_wp2_with (first | (go_at_call 99; refine hTw.mono ?_; rintro e w5 ⟨⟨v, rfl, hkv⟩, hg5⟩; refine Hid.out ?_))
    obtain ⟨va, vn, vc, rfl⟩ := hkv.form
    have hgC : (w.alloc exp0).grownBy w5 (some b) := (galloc (hgW.trans hg3) (.cells #[.int .i64 f2, .int .i64 s2', .string ⟨nm2.toArray⟩, .int .i64 tk2, .int .i64 tl2, .int .i64 n2, .int .i64 m2, .slice la ln lc, .int .i64 a2] 37)).trans (grown_some hg5 b)
    refine ld ?_
    go_wp2_with (with_reducible refine hold_st 2 ?_)
    refine sg ((hgC.block w.heap.size (by simp) (by simp; omega)).trans (heap_alloc_new w exp0)) ?_
    intro w6 hh6 hg6
    go_wp2
    (try simp only [Exit.inBlock, Exit.then])
    refine br hh6 Tryz.underlying37 ?_
    have hG : w.grownBy w6 (some b) := ((grown_some (ga w exp0 none) b).trans hgC).andThen hg6 (fun j e => .inl (by cases e; exact Nat.le_refl _))
    exact ⟨_, rfl, (hkv.kept hg6 (by simp)).mono (by simp), HH.out.to hG (((hP3.alloc (.cells #[.int .i64 f2, .int .i64 s2', .string ⟨nm2.toArray⟩, .int .i64 tk2, .int .i64 tl2, .int .i64 n2, .int .i64 m2, .slice la ln lc, .int .i64 a2] 37)).kept hg5).st.kept hg6 (by simp; omega)) hP3.lt, hG⟩
end
section
variable (b g cap : Nat) (T : List Lex.Tk)
theorem rfby_step (f : Nat) (h1 : CRex b g cap T 103 (Gram.Rf.imp T f)) (h2 : CRex b g cap T 98 (Gram.Rf.fby T f)) : CRex b g cap T 98 (Gram.Rf.fby T (f + 1)) := by
 intro s w h hf
 have hP0 := h.alloc exp0
 have hbw := h.bl
 rw [Gram.Rf.fby] at hf ⊢
 have hc := h1 s _ hP0
 cases hr1 : (Gram.Rf.imp T f) s with
 | none => rw [hr1] at hf; cases hf
 | some r =>
  obtain ⟨x, s1⟩ := r
  rw [hr1] at hf hc
  have hc2 := hc rfl
  simp only [Gram.Rf.bindS] at hf ⊢
  clear hc hr1
  simp only [rePost] at hc2
  cases x with
  | mk f1 s1' nm1 tk1 tl1 n1 m1 ks1 a1 =>
  simp only [expV] at hc2
  have HH := ld h
  clear h hP0
  cases hsg : Gram.Rf.is T [102, 98, 121] s1 with
  | false =>
   rw [if_neg (by decide)]
   go_enter Tryz.func98, Tryz.ntmps98
   go_wp2_with (go_at_call 103; refine hc2.mono ?_; rintro e w1 ⟨k1, rfl, hk1, hP1, hg1⟩; refine Hid.out ?_)
   obtain ⟨ka, kn, kc, rfl⟩ := hk1.form
   have hPs := hP1.alloc (.cells #[.int .i64 f1, .int .i64 s1', .string ⟨nm1.toArray⟩, .int .i64 tk1, .int .i64 tl1, .int .i64 n1, .int .i64 m1, .slice ka kn kc, .int .i64 a1] 37)
   have hS := rmaybe_any b g cap T s1 ⟨#[102, 98, 121]⟩ _ hPs
   have hs1 := hg1.size
   rw [World.size_alloc] at hs1
   have hbl : b < w1.heap.size := hP1.bl
   unfold Gram.Rf.maybe at hS
   rw [show ((⟨#[102, 98, 121]⟩ : ByteArray)).data.toList = [102, 98, 121] from rfl] at hS
   rw [hsg, if_neg (by decide)] at hS
   clear hf
   refine ld ?_
   go_wp2_with (go_at_call 67; refine hS.mono ?_; rintro e w2 ⟨rfl, hP2, hg2⟩; refine Hid.out ?_)
   have hgW : (w.alloc exp0).grownBy w2 (some b) := (galloc hg1 _).trans hg2
   obtain ⟨c0, c1, c2, c3, c4, c5, c6, c7, c8, cf⟩ := Nc.of ((hg2.block w1.heap.size (by simp) (by simp; omega)).trans (heap_alloc_new w1 _))
   have hlt2 : w1.heap.size < w2.heap.size := by have := hg2.size; rw [World.size_alloc] at this; omega
   refine ld ?_
   go_wp2_with (with_reducible refine hold_st 2 ?_)
   refine sg ((hgW.block w.heap.size (by simp) (by simp; omega)).trans (heap_alloc_new w exp0)) ?_
   intro w4 hh4 hg4
   go_wp2
   (try simp only [Exit.inBlock, Exit.then])
   refine br hh4 Tryz.underlying37 ?_
   have hgA : w1.grownBy w2 (some b) := (grown_some (ga w1 _ none) b).trans hg2
   have hG : w.grownBy w4 (some b) := ((grown_some (ga w exp0 none) b).trans hgW).andThen hg4 (fun j e => .inl (by cases e; exact Nat.le_refl _))
   exact ⟨_, rfl, ((hk1.kept hgA (by simp; omega)).kept hg4 (by simp)).mono (by simp), HH.out.to hG (hP2.st.kept hg4 (by simp; omega)) hP2.lt, hG⟩
  | true =>
   rw [hsg] at hf
   rw [if_pos rfl] at hf ⊢
   cases hr2 : Gram.Rf.fby T f (Gram.Rf.adv s1) with
   | none => rw [hr2] at hf; cases hf
   | some r2 =>
    obtain ⟨y, s2⟩ := r2
    simp only
    cases y with
    | mk f2 s2' nm2 tk2 tl2 n2 m2 ks2 a2 =>
    clear hf
    go_enter Tryz.func98, Tryz.ntmps98
    go_wp2_with (go_at_call 103; refine hc2.mono ?_; rintro e w1 ⟨k1, rfl, hk1, hP1, hg1⟩; refine Hid.out ?_)
    obtain ⟨ka, kn, kc, rfl⟩ := hk1.form
    have hPs := hP1.alloc (.cells #[.int .i64 f1, .int .i64 s1', .string ⟨nm1.toArray⟩, .int .i64 tk1, .int .i64 tl1, .int .i64 n1, .int .i64 m1, .slice ka kn kc, .int .i64 a1] 37)
    have hS := rmaybe_any b g cap T s1 ⟨#[102, 98, 121]⟩ _ hPs
    have hs1 := hg1.size
    rw [World.size_alloc] at hs1
    have hbl : b < w1.heap.size := hP1.bl
    unfold Gram.Rf.maybe at hS
    rw [show ((⟨#[102, 98, 121]⟩ : ByteArray)).data.toList = [102, 98, 121] from rfl] at hS
    rw [hsg, if_pos rfl] at hS
    refine ld ?_
    go_wp2_with (go_at_call 67; refine hS.mono ?_; rintro e w2 ⟨rfl, hP2, hg2⟩; refine Hid.out ?_)
    have hgW : (w.alloc exp0).grownBy w2 (some b) := (galloc hg1 _).trans hg2
    have hgA : w1.grownBy w2 (some b) := (grown_some (ga w1 _ none) b).trans hg2
    have hlt2 : w1.heap.size < w2.heap.size := by have := hg2.size; rw [World.size_alloc] at this; omega
    have hc3 := h2 _ w2 hP2
    rw [hr2] at hc3
    have hc4 := hc3 rfl
    simp only [rePost, expV] at hc4
    clear hc3
    have hb1 := (hg2.block w1.heap.size (by simp) (by simp; omega)).trans (heap_alloc_new w1 _)
    refine ld ?_
    go_wp2_with (go_at_call 98; refine hc4.mono ?_; rintro e w3 ⟨k2, rfl, hk2, hP3, hg3⟩; refine Hid.out ?_)
    obtain ⟨la, ln, lc, rfl⟩ := hk2.form
    have hs3 := hg3.size
    obtain ⟨c0, c1, c2, c3, c4, c5, c6, c7, c8, cf⟩ := Nc.of (((ga w3 (.cells #[.int .i64 f2, .int .i64 s2', .string ⟨nm2.toArray⟩, .int .i64 tk2, .int .i64 tl2, .int .i64 n2, .int .i64 m2, .slice la ln lc, .int .i64 a2] 37) none).block w1.heap.size (by omega) (by simp)).trans ((hg3.block w1.heap.size (by omega) (by simp; omega)).trans hb1))
    have n13 : ¬ w1.heap.size = w3.heap.size := by omega
    have hgB : w1.grownBy (w3.alloc (.cells #[.int .i64 f2, .int .i64 s2', .string ⟨nm2.toArray⟩, .int .i64 tk2, .int .i64 tl2, .int .i64 n2, .int .i64 m2, .slice la ln lc, .int .i64 a2] 37)) (some b) := galloc (hgA.trans hg3) _
    have hkx : Kids (w3.alloc (.cells #[.int .i64 f2, .int .i64 s2', .string ⟨nm2.toArray⟩, .int .i64 tk2, .int .i64 tl2, .int .i64 n2, .int .i64 m2, .slice la ln lc, .int .i64 a2] 37)) (w.alloc exp0).heap.size (Gram.Exp.mk f1 s1' nm1 tk1 tl1 n1 m1 ks1 a1).kids (.slice ka kn kc) := hk1.kept hgB (by simp; omega)
    have hky : Kids (w3.alloc (.cells #[.int .i64 f2, .int .i64 s2', .string ⟨nm2.toArray⟩, .int .i64 tk2, .int .i64 tl2, .int .i64 n2, .int .i64 m2, .slice la ln lc, .int .i64 a2] 37)) (w.alloc exp0).heap.size (Gram.Exp.mk f2 s2' nm2 tk2 tl2 n2 m2 ks2 a2).kids (.slice la ln lc) := (hk2.kept0 (ga w3 _ none)).mono (by simp; omega)
    have hTw := rtwo_any 8 0 _ _ _ _ (w.alloc exp0).heap.size (w3.alloc (.cells #[.int .i64 f2, .int .i64 s2', .string ⟨nm2.toArray⟩, .int .i64 tk2, .int .i64 tl2, .int .i64 n2, .int .i64 m2, .slice la ln lc, .int .i64 a2] 37)) (by simp; omega) hkx hky
    simp only [expV, Gram.Rf.two] at hTw
    clear hkx hky
    refine ld ?_
    go_wp2_with (first | (go_at_call 99; refine hTw.mono ?_; rintro e w5 ⟨⟨v, rfl, hkv⟩, hg5⟩; refine Hid.out ?_))
    obtain ⟨va, vn, vc, rfl⟩ := hkv.form
    have hgC : (w.alloc exp0).grownBy w5 (some b) := (galloc (hgW.trans hg3) (.cells #[.int .i64 f2, .int .i64 s2', .string ⟨nm2.toArray⟩, .int .i64 tk2, .int .i64 tl2, .int .i64 n2, .int .i64 m2, .slice la ln lc, .int .i64 a2] 37)).trans (grown_some hg5 b)
    refine ld ?_
    go_wp2_with (with_reducible refine hold_st 2 ?_)
    refine sg ((hgC.block w.heap.size (by simp) (by simp; omega)).trans (heap_alloc_new w exp0)) ?_
    intro w6 hh6 hg6
    go_wp2
    (try simp only [Exit.inBlock, Exit.then])
    refine br hh6 Tryz.underlying37 ?_
    have hG : w.grownBy w6 (some b) := ((grown_some (ga w exp0 none) b).trans hgC).andThen hg6 (fun j e => .inl (by cases e; exact Nat.le_refl _))
    exact ⟨_, rfl, (hkv.kept hg6 (by simp)).mono (by simp), HH.out.to hG (((hP3.alloc (.cells #[.int .i64 f2, .int .i64 s2', .string ⟨nm2.toArray⟩, .int .i64 tk2, .int .i64 tl2, .int .i64 n2, .int .i64 m2, .slice la ln lc, .int .i64 a2] 37)).kept hg5).st.kept hg6 (by simp; omega)) hP3.lt, hG⟩
end
section
variable (b g cap : Nat) (T : List Lex.Tk)
theorem rimp_step (f : Nat) (h1 : CLev b g cap T f) (h2 : CRex b g cap T 103 (Gram.Rf.imp T f)) : CRex b g cap T 103 (Gram.Rf.imp T (f + 1)) := by
 intro s w h hf
 have hP0 := h.alloc exp0
 have hbw := h.bl
 rw [Gram.Rf.imp] at hf ⊢
 have hc := h1 0 s _ (by omega) hP0
 cases hr1 : (Gram.Rf.level T f 0) s with
 | none => rw [hr1] at hf; cases hf
 | some r =>
  obtain ⟨x, s1⟩ := r
  rw [hr1] at hf hc
  have hc2 := hc rfl
  simp only [Gram.Rf.bindS] at hf ⊢
  clear hc hr1
  simp only [rePost] at hc2
  cases x with
  | mk f1 s1' nm1 tk1 tl1 n1 m1 ks1 a1 =>
  simp only [expV] at hc2
  have HH := ld h
  clear h hP0
  cases hsg : Gram.Rf.is T [61, 62] s1 with
  | false =>
   rw [if_neg (by decide)]
   go_enter Tryz.func103, Tryz.ntmps103
   go_wp2_with (go_at_call 110; refine hc2.mono ?_; rintro e w1 ⟨k1, rfl, hk1, hP1, hg1⟩; refine Hid.out ?_)
   obtain ⟨ka, kn, kc, rfl⟩ := hk1.form
   have hPs := hP1.alloc (.cells #[.int .i64 f1, .int .i64 s1', .string ⟨nm1.toArray⟩, .int .i64 tk1, .int .i64 tl1, .int .i64 n1, .int .i64 m1, .slice ka kn kc, .int .i64 a1] 37)
   have hS := rmaybe_any b g cap T s1 ⟨#[61, 62]⟩ _ hPs
   have hs1 := hg1.size
   rw [World.size_alloc] at hs1
   have hbl : b < w1.heap.size := hP1.bl
   unfold Gram.Rf.maybe at hS
   rw [show ((⟨#[61, 62]⟩ : ByteArray)).data.toList = [61, 62] from rfl] at hS
   rw [hsg, if_neg (by decide)] at hS
   clear hf
   refine ld ?_
   go_wp2_with (go_at_call 67; refine hS.mono ?_; rintro e w2 ⟨rfl, hP2, hg2⟩; refine Hid.out ?_)
   have hgW : (w.alloc exp0).grownBy w2 (some b) := (galloc hg1 _).trans hg2
   obtain ⟨c0, c1, c2, c3, c4, c5, c6, c7, c8, cf⟩ := Nc.of ((hg2.block w1.heap.size (by simp) (by simp; omega)).trans (heap_alloc_new w1 _))
   have hlt2 : w1.heap.size < w2.heap.size := by have := hg2.size; rw [World.size_alloc] at this; omega
   refine ld ?_
   go_wp2_with (with_reducible refine hold_st 2 ?_)
   refine sg ((hgW.block w.heap.size (by simp) (by simp; omega)).trans (heap_alloc_new w exp0)) ?_
   intro w4 hh4 hg4
   go_wp2
   (try simp only [Exit.inBlock, Exit.then])
   refine br hh4 Tryz.underlying37 ?_
   have hgA : w1.grownBy w2 (some b) := (grown_some (ga w1 _ none) b).trans hg2
   have hG : w.grownBy w4 (some b) := ((grown_some (ga w exp0 none) b).trans hgW).andThen hg4 (fun j e => .inl (by cases e; exact Nat.le_refl _))
   exact ⟨_, rfl, ((hk1.kept hgA (by simp; omega)).kept hg4 (by simp)).mono (by simp), HH.out.to hG (hP2.st.kept hg4 (by simp; omega)) hP2.lt, hG⟩
  | true =>
   rw [hsg] at hf
   rw [if_pos rfl] at hf ⊢
   cases hr2 : Gram.Rf.imp T f (Gram.Rf.adv s1) with
   | none => rw [hr2] at hf; cases hf
   | some r2 =>
    obtain ⟨y, s2⟩ := r2
    simp only
    cases y with
    | mk f2 s2' nm2 tk2 tl2 n2 m2 ks2 a2 =>
    clear hf
    go_enter Tryz.func103, Tryz.ntmps103
    go_wp2_with (go_at_call 110; refine hc2.mono ?_; rintro e w1 ⟨k1, rfl, hk1, hP1, hg1⟩; refine Hid.out ?_)
    obtain ⟨ka, kn, kc, rfl⟩ := hk1.form
    have hPs := hP1.alloc (.cells #[.int .i64 f1, .int .i64 s1', .string ⟨nm1.toArray⟩, .int .i64 tk1, .int .i64 tl1, .int .i64 n1, .int .i64 m1, .slice ka kn kc, .int .i64 a1] 37)
    have hS := rmaybe_any b g cap T s1 ⟨#[61, 62]⟩ _ hPs
    have hs1 := hg1.size
    rw [World.size_alloc] at hs1
    have hbl : b < w1.heap.size := hP1.bl
    unfold Gram.Rf.maybe at hS
    rw [show ((⟨#[61, 62]⟩ : ByteArray)).data.toList = [61, 62] from rfl] at hS
    rw [hsg, if_pos rfl] at hS
    refine ld ?_
    go_wp2_with (go_at_call 67; refine hS.mono ?_; rintro e w2 ⟨rfl, hP2, hg2⟩; refine Hid.out ?_)
    have hgW : (w.alloc exp0).grownBy w2 (some b) := (galloc hg1 _).trans hg2
    have hgA : w1.grownBy w2 (some b) := (grown_some (ga w1 _ none) b).trans hg2
    have hlt2 : w1.heap.size < w2.heap.size := by have := hg2.size; rw [World.size_alloc] at this; omega
    have hc3 := h2 _ w2 hP2
    rw [hr2] at hc3
    have hc4 := hc3 rfl
    simp only [rePost, expV] at hc4
    clear hc3
    have hb1 := (hg2.block w1.heap.size (by simp) (by simp; omega)).trans (heap_alloc_new w1 _)
    refine ld ?_
    go_wp2_with (go_at_call 103; refine hc4.mono ?_; rintro e w3 ⟨k2, rfl, hk2, hP3, hg3⟩; refine Hid.out ?_)
    obtain ⟨la, ln, lc, rfl⟩ := hk2.form
    have hs3 := hg3.size
    obtain ⟨c0, c1, c2, c3, c4, c5, c6, c7, c8, cf⟩ := Nc.of (((ga w3 (.cells #[.int .i64 f2, .int .i64 s2', .string ⟨nm2.toArray⟩, .int .i64 tk2, .int .i64 tl2, .int .i64 n2, .int .i64 m2, .slice la ln lc, .int .i64 a2] 37) none).block w1.heap.size (by omega) (by simp)).trans ((hg3.block w1.heap.size (by omega) (by simp; omega)).trans hb1))
    have n13 : ¬ w1.heap.size = w3.heap.size := by omega
    have hgB : w1.grownBy (w3.alloc (.cells #[.int .i64 f2, .int .i64 s2', .string ⟨nm2.toArray⟩, .int .i64 tk2, .int .i64 tl2, .int .i64 n2, .int .i64 m2, .slice la ln lc, .int .i64 a2] 37)) (some b) := galloc (hgA.trans hg3) _
    have hkx : Kids (w3.alloc (.cells #[.int .i64 f2, .int .i64 s2', .string ⟨nm2.toArray⟩, .int .i64 tk2, .int .i64 tl2, .int .i64 n2, .int .i64 m2, .slice la ln lc, .int .i64 a2] 37)) (w.alloc exp0).heap.size (Gram.Exp.mk f1 s1' nm1 tk1 tl1 n1 m1 ks1 a1).kids (.slice ka kn kc) := hk1.kept hgB (by simp; omega)
    have hky : Kids (w3.alloc (.cells #[.int .i64 f2, .int .i64 s2', .string ⟨nm2.toArray⟩, .int .i64 tk2, .int .i64 tl2, .int .i64 n2, .int .i64 m2, .slice la ln lc, .int .i64 a2] 37)) (w.alloc exp0).heap.size (Gram.Exp.mk f2 s2' nm2 tk2 tl2 n2 m2 ks2 a2).kids (.slice la ln lc) := (hk2.kept0 (ga w3 _ none)).mono (by simp; omega)
    have hTw := rtwo_any 4 11 _ _ _ _ (w.alloc exp0).heap.size (w3.alloc (.cells #[.int .i64 f2, .int .i64 s2', .string ⟨nm2.toArray⟩, .int .i64 tk2, .int .i64 tl2, .int .i64 n2, .int .i64 m2, .slice la ln lc, .int .i64 a2] 37)) (by simp; omega) hkx hky
    simp only [expV, Gram.Rf.two] at hTw
    clear hkx hky
    refine ld ?_
    go_wp2_with (first | (go_at_call 99; refine hTw.mono ?_; rintro e w5 ⟨⟨v, rfl, hkv⟩, hg5⟩; refine Hid.out ?_))
    obtain ⟨va, vn, vc, rfl⟩ := hkv.form
    have hgC : (w.alloc exp0).grownBy w5 (some b) := (galloc (hgW.trans hg3) (.cells #[.int .i64 f2, .int .i64 s2', .string ⟨nm2.toArray⟩, .int .i64 tk2, .int .i64 tl2, .int .i64 n2, .int .i64 m2, .slice la ln lc, .int .i64 a2] 37)).trans (grown_some hg5 b)
    refine ld ?_
    go_wp2_with (with_reducible refine hold_st 2 ?_)
    refine sg ((hgC.block w.heap.size (by simp) (by simp; omega)).trans (heap_alloc_new w exp0)) ?_
    intro w6 hh6 hg6
    go_wp2
    (try simp only [Exit.inBlock, Exit.then])
    refine br hh6 Tryz.underlying37 ?_
    have hG : w.grownBy w6 (some b) := ((grown_some (ga w exp0 none) b).trans hgC).andThen hg6 (fun j e => .inl (by cases e; exact Nat.le_refl _))
    exact ⟨_, rfl, (hkv.kept hg6 (by simp)).mono (by simp), HH.out.to hG (((hP3.alloc (.cells #[.int .i64 f2, .int .i64 s2', .string ⟨nm2.toArray⟩, .int .i64 tk2, .int .i64 tl2, .int .i64 n2, .int .i64 m2, .slice la ln lc, .int .i64 a2] 37)).kept hg5).st.kept hg6 (by simp; omega)) hP3.lt, hG⟩
end
open Go.RowKit Go.Maps Go.WideMaps
section
variable (b g cap : Nat) (rv : Value) (T : List Lex.Tk)
theorem makeFunc_run (fn : Fn) (first cap : Array Value) (w : World) : (Instr.makeFunc fn first cap).run Tryz.prog w = .ok (.func fn first cap) w := rfl
end
open Go.RowKit Go.Maps Go.WideMaps
namespace Gram
def words10 : List B := [[], [98, 111, 111, 108], [105, 56], [105, 49, 54], [105, 51, 50], [105, 54, 52], [117, 56], [117, 49, 54], [117, 51, 50], [117, 54, 52]]
def w10 (t : Nat) : B := words10.getD t []
theorem tbl_words : (Lex.tbl.all fun p => p.2 == 0 || words10.tail.contains p.1) = true := by kernel_rfl
theorem kind0 (l : B) (h : ∀ t, 1 ≤ t → t < 10 → ¬ l = w10 t) : Lex.kindOf l = 0 := by
 unfold Lex.kindOf Lex.look
 cases e : Lex.tbl.find? (fun p => p.1 == l) with
 | none => rfl
 | some p =>
  have h1 := List.all_eq_true.1 tbl_words p (List.mem_of_find?_eq_some e)
  have h2 : p.1 = l := beq_iff_eq.1 (List.find?_some (p := fun p : List UInt8 × Int => p.1 == l) e)
  rw [Bool.or_eq_true, beq_iff_eq, h2] at h1
  rcases h1 with h1 | h1
  ·exact h1
  ·exfalso
   simp only [words10, List.tail_cons, List.contains_eq_mem, List.mem_cons, List.not_mem_nil, or_false, decide_eq_true_eq] at h1
   rcases h1 with h1 | h1 | h1 | h1 | h1 | h1 | h1 | h1 | h1
   ·exact h 1 (by decide) (by decide) h1
   ·exact h 2 (by decide) (by decide) h1
   ·exact h 3 (by decide) (by decide) h1
   ·exact h 4 (by decide) (by decide) h1
   ·exact h 5 (by decide) (by decide) h1
   ·exact h 6 (by decide) (by decide) h1
   ·exact h 7 (by decide) (by decide) h1
   ·exact h 8 (by decide) (by decide) h1
   ·exact h 9 (by decide) (by decide) h1
end Gram
section
variable (b g cap : Nat) (rv : Value) (T : List Lex.Tk) (i d : Nat)
end
open Go.RowKit
def wpL (P : Program) (md : Region.Mode) (ops : Array Oper) (Q : Exit → Act → World → Prop) (S : World → Prop) (Z : List Nat) : Nat → Array Bool → Act → World → Prop
 | 0, l, a, w => Region.ready md ops l = [] ∧ Q .normal a w
 | f + 1, l, a, w => (Region.ready md ops l = [] → Q .normal a w) ∧ ∀ j ∈ Region.ready md ops l, wpOp P ops Q j (fun a' w' => (j ∉ Z → S w') ∧ wpL P md ops Q S Z f (l.setIfInBounds j true) a' w') a w
section
variable {P : Program} {ops : Array Oper} {Q : Exit → Act → World → Prop} {md : Region.Mode} {S : World → Prop} {Z : List Nat}
theorem wpL_any : ∀ (f : Nat) (l : Array Bool) (a : Act) (w : World), wpL P md ops Q S Z f l a w → wpAny P md ops Q f l a w
 | 0, _, _, _, h => h
 | f + 1, _, _, _, h => ⟨h.1, fun j hj => wpOp_mono (fun a w hh => wpL_any f _ a w hh.2) (h.2 j hj)⟩
theorem wp_region_L {id : Nat} {a : Act} {w : World} (hm : P.follows .mixedOrders = true) (h : wpL P .any ops Q S Z ops.size (Array.replicate ops.size false) a w.drew) : (Code.region id ops true).wp P Q a w :=
 wp_region_any hm (wpL_any _ _ _ _ h)
theorem not_ready {z i : Nat} {oz : Oper} {l : Array Bool} (hz : ops[z]? = some oz) (he : oz.after.any (fun e => Region.binds md e && e.on == i) = true) (hi : l.getD i true = false) : z ∉ Region.ready md ops l := by
 intro hr
 obtain ⟨_, o, ho, hall⟩ := mem_ready.1 hr
 have e0 := Option.some.inj (hz.symm.trans ho)
 subst e0
 rw [Array.any_eq_true] at he
 obtain ⟨n, hn, hb⟩ := he
 rw [Bool.and_eq_true, beq_iff_eq] at hb
 have h1 := hall _ (Array.getElem_mem hn) hb.1
 rw [hb.2] at h1
 simp only [Array.getD_eq_getD_getElem?] at hi h1
 cases hl : l[i]? with
 | none => rw [hl] at h1; simp at h1
 | some v => rw [hl] at hi h1; simp at hi h1; rw [hi] at h1; cases h1
theorem wpL_first {i : Nat} {oi : Oper} {v : Value} (hi : ops[i]? = some oi) (hsel : ∀ (j : Nat) (o : Oper) cs b, ops[j]? = some o → o.op ≠ .select cs b)
  (hQ : ∀ c a w, Q (.panic c) (a.put oi.dst v) w → Q (.panic c) a w) (hZ : ∀ z ∈ Z, ∃ oz, ops[z]? = some oz ∧ oz.after.any (fun e => Region.binds md e && e.on == i) = true) :
  ∀ (f : Nat) (l : Array Bool) (a : Act) (w : World), (∀ j oj, ops[j]? = some oj → j ≠ i → l.getD j true = false → (∀ e ∈ oj.after, Region.binds md e = true → e.on ≠ i) → oi.apart ops oj = true) →
   i ∈ Region.ready md ops l → YieldsIf P ops S oi v a → S w → wpL P md ops Q S Z f (l.setIfInBounds i true) (a.put oi.dst v) w → wpL P md ops Q S Z (f + 1) l a w
 | f, l, a, w, hfree, hr, hy, hS, H => by
  refine ⟨fun h => by rw [h] at hr; exact absurd hr (by simp), fun j hj => ?_⟩
  by_cases hji : j = i
  ·subst hji
   exact hy.wpOp hi hS ⟨fun _ => hS, H⟩
  ·have hin := ready_mono hj hji
   have hl0 := (mem_ready.1 hr).1
   cases f with
   | zero => rw [H.1] at hin; exact absurd hin (by simp)
   | succ f =>
    obtain ⟨hjun, oj, hoj, hall⟩ := mem_ready.1 hj
    have hnot : ∀ e ∈ oj.after, Region.binds md e = true → e.on ≠ i := fun e he hb heq => by
     have hz : j ∉ Region.ready md ops l := not_ready hoj (by rw [Array.any_eq_true]; obtain ⟨n, hn, hx⟩ := Array.getElem_of_mem he; exact ⟨n, hn, by rw [hx, hb, Bool.true_and, beq_iff_eq]; exact heq⟩) hl0
     exact hz hj
    have hjZ : j ∉ Z := fun hz => by
     obtain ⟨oz, h1, h2⟩ := hZ j hz
     exact not_ready h1 h2 hl0 hj
    have h2 := wpOp_putIf hoj (hfree j oj hoj hji hjun hnot) (fun cs b => hsel i oi cs b hi) (fun cs b => hsel j oj cs b hoj) hQ hy (H.2 j hin)
    refine wpOp_mono (fun a' w' h3 => ⟨fun _ => h3.2.1 hjZ, ?_⟩) h2
    refine wpL_first hi hsel hQ hZ f _ a' w' (fun k ok hk hki hun hno => hfree k ok hk hki ?_ hno) (ready_mono hr (Ne.symm hji)) h3.1 (h3.2.1 hjZ) ?_
    ·by_cases hjk : j = k
     ·subst hjk; exact hjun
     ·rw [getD_set_ne true hjk] at hun; exact hun
    ·rw [Array.setIfInBounds_comm _ _ hji]
     exact h3.2.2
theorem wpL_take {i : Nat} {oi : Oper} {v : Value} {f : Nat} {l : Array Bool} {a : Act} {w : World} (hi : ops[i]? = some oi)
  (hs : Region.noSelect ops = true) (hf : Region.free md ops l i = true) (hr : (Region.ready md ops l).contains i = true)
  (hQ : ∀ c a w, Q (.panic c) (a.put oi.dst v) w → Q (.panic c) a w) (hZ : (Z.all fun z => ((ops[z]?).map fun oz => oz.after.any fun e => Region.binds md e && e.on == i).getD false) = true) (hy : YieldsIf P ops S oi v a) (hS : S w)
  (h : wpL P md ops Q S Z f (l.setIfInBounds i true) (a.put oi.dst v) w) : wpL P md ops Q S Z (f + 1) l a w :=
 wpL_first hi (Region.noSelect_spec hs) hQ (fun z hz => by
  have h1 := List.all_eq_true.1 hZ z hz
  cases ho : ops[z]? with
  | none => rw [ho] at h1; cases h1
  | some oz => rw [ho] at h1; exact ⟨oz, rfl, h1⟩) f l a w (Region.free_spec hi hf) (by simpa using hr) hy hS h
theorem wpL_one {i : Nat} {f : Nat} {l : Array Bool} {a : Act} {w : World} (hr : Region.ready md ops l = [i])
  (h : wpOp P ops Q i (fun a' w' => (i ∉ Z → S w') ∧ wpL P md ops Q S Z f (l.setIfInBounds i true) a' w') a w) : wpL P md ops Q S Z (f + 1) l a w :=
 ⟨fun h0 => (by rw [hr] at h0; exact absurd h0 (by simp)), fun j hj => (by rw [hr] at hj; obtain rfl := List.mem_singleton.1 hj; exact h)⟩
theorem wpL_done {l : Array Bool} {a : Act} {w : World} (hr : Region.ready md ops l = []) (h : Q .normal a w) : ∀ f, wpL P md ops Q S Z f l a w
 | 0 => ⟨hr, h⟩
 | _ + 1 => ⟨fun _ => h, by rw [hr]; simp⟩
end
open Go.RowKit Go.Maps Go.WideMaps
def rePostB (w : World) (B b g cap : Nat) (T : List Lex.Tk) (r : Option (Gram.Exp × Gram.Rf.St)) (e : Ending) (w' : World) : Prop :=
 match r with
 | some x => ∃ k, e = .returned (expV x.1 k) ∧ Kids w' B x.1.kids k ∧ Rp w' b g cap T x.2 ∧ w.grownBy w' (some b)
 | none => False
theorem KidsX.one' {w : World} {B : Nat} {E : List Nat} {x : Gram.Exp} {k v : Value} (ho : w.ownsRow B 37 9 v 1 (expCells x k)) (hE : ∀ k ∈ E, v.ownBlock ≠ some k) (h : KidsX w B E x.kids k) : KidsX w B E [x] v := by
 refine .l (xs := expCells x k) (by simpa [expsD] using ho) hE ?_
 simpa [expsD] using exp_row h
section
variable (b g cap : Nat) (T : List Lex.Tk)
theorem rindexed_any (f B : Nat) (x0 : Gram.Exp) (k0 : Value) (s : Gram.Rf.St) (w : World) (hB : B ≤ w.heap.size) (hbB : b < B) (h : Rp w b g cap T s) (hk0 : Kids w B x0.kids k0) (hf : (Gram.Rf.indexed T f x0 s).isSome = true) :
  Calls Tryz.prog 115 #[.pointer (some ⟨b, 0, none⟩), expV x0 k0] w fun e w' => rePostB w B b g cap T (Gram.Rf.indexed T f x0 s) e w' := by
 have hbw := h.bl
 obtain ⟨la, ln, lc, rfl⟩ := hk0.form
 have HH := ld h
 have HK0 := ld hk0
 clear h hk0
 cases hx : x0 with
 | mk g1 u1 om1 vk1 vl1 o1 p1 us1 c1 =>
 have HX := ld hx
 simp only [expV]
 clear hx
 rw [← HX.out]
 go_enter Tryz.func115, Tryz.ntmps115
 go_wp2
 go_loopg [] f (fun (f' : Nat) (wr : World) => ∃ (x : Gram.Exp) (s' : Gram.Rf.St) (ka : Option Addr) (kn kc : Nat), f' ≤ f ∧ Hid (wr.heap[w.heap.size]? = some (.cells (expCells x (.slice ka kn kc)).toArray 37 (0, 0)) ∧ wr.heap[w.heap.size + 1]? = some exp0 ∧ KidsX wr B [w.heap.size, w.heap.size + 1] x.kids (.slice ka kn kc) ∧ Rp wr b g cap T s' ∧ w.grownBy wr (some b) ∧ Gram.Rf.indexed T f' x s' = Gram.Rf.indexed T f x0 s))
 case atStart =>
  refine ⟨x0, s, la, ln, lc, Nat.le_refl _, ld ⟨?_, heap_alloc2_new w _ _, ?_, (HH.out.alloc _).alloc _, galloc (ga w _ (some b)) _, rfl⟩⟩
  ·rw [HX.out]; exact heap_alloc2_old w _ _
  ·exact RepC.kept (galloc (ga w _ none) _) (fun k e => by cases e) (RepC.toX [w.heap.size, w.heap.size + 1] (fun k e => by simp at e; omega) HK0.out)
 case round =>
  obtain ⟨x, s', ka, kn, kc, hff, HG⟩ := hrel
  obtain ⟨hE, hE1, hk, hP, hg, hL⟩ := HG.out
  rw [← hL] at hf
  have HL := ld hL
  clear HG hL
  cases x with
  | mk f1 s1 nm1 tk1 tl1 n1 m1 ks1 a1 =>
  rcases Nat.eq_zero_or_pos gk with hz | hz
  ·rw [hz] at hf; exact absurd hf (by simp [Gram.Rf.indexed])
  obtain ⟨f', hfe⟩ : ∃ f', gk = f' + 1 := ⟨gk - 1, by omega⟩
  subst hfe
  obtain ⟨c0, c1', c2, c3, c4, c5, c6, c7, c8, cf⟩ := Nc.of (show wr.heap[w.heap.size]? = some (.cells #[.int .i64 f1, .int .i64 s1, .string ⟨nm1.toArray⟩, .int .i64 tk1, .int .i64 tl1, .int .i64 n1, .int .i64 m1, .slice ka kn kc, .int .i64 a1] 37 (0, 0)) from hE)
  have hEl : w.heap.size + 1 < wr.heap.size := (Array.getElem?_eq_some_iff.1 hE1).1
  have hS := rmaybe_any b g cap T s' ⟨#[91]⟩ wr hP
  unfold Gram.Rf.maybe at hS
  rw [show ((⟨#[91]⟩ : ByteArray)).data.toList = [91] from rfl] at hS
  have hwb : ¬ w.heap.size = b := by omega
  cases hsx : Gram.Rf.is T [91] s' with
  | false =>
   rw [hsx, if_neg (by decide)] at hS
   have hr : Gram.Rf.indexed T f x0 s = some (.mk f1 s1 nm1 tk1 tl1 n1 m1 ks1 a1, s') := by rw [← HL.out]; unfold Gram.Rf.indexed; rw [hsx]; rfl
   have HR := ld hr
   clear hr hf
   go_wp2_with (go_at_call 67; refine hS.mono ?_; rintro e w2 ⟨rfl, hP2, hg2⟩; refine Hid.out ?_)
   obtain ⟨d0, d1, d2, d3, d4, d5, d6, d7, d8, df⟩ := Nc.of ((hg2.block w.heap.size (by omega) (by simp; omega)).trans (show wr.heap[w.heap.size]? = some (.cells #[.int .i64 f1, .int .i64 s1, .string ⟨nm1.toArray⟩, .int .i64 tk1, .int .i64 tl1, .int .i64 n1, .int .i64 m1, .slice ka kn kc, .int .i64 a1] 37 (0, 0)) from hE))
   have hs2 := hg2.size
   refine ld ?_
   go_wp2_with (with_reducible refine hold_st 4 ?_)
   refine sg ((hg2.block (w.heap.size + 1) (by omega) (by simp; omega)).trans hE1) ?_
   intro w4 hh4 hg4
   go_wp2
   (try simp only [Exit.inBlock, Exit.then])
   refine br hh4 Tryz.underlying37 ?_
   rw [HR.out]
   have hG : w.grownBy w4 (some b) := (hg.trans hg2).andThen hg4 (fun j e => .inl (by cases e; omega))
   exact ⟨_, rfl, RepC.noX (RepC.keptX hg4 (fun k e => by cases e; simp) (RepC.keptX hg2 (fun k e => by cases e; exact .inl hbB) hk)), HH.out.to hG (hP2.st.kept hg4 (by simp; omega)) hP2.lt, hG⟩
  | true =>
   rw [hsx, if_pos rfl] at hS
   have hr : Gram.Rf.indexed T f x0 s = Gram.Rf.indexed T f' (.mk 16 0 [] 0 0 (Gram.Rf.size T (Gram.Rf.adv s')).1 0 [.mk f1 s1 nm1 tk1 tl1 n1 m1 ks1 a1] a1) (Gram.Rf.take T [93] (Gram.Rf.size T (Gram.Rf.adv s')).2) := by rw [← HL.out]; conv => lhs; unfold Gram.Rf.indexed; rw [if_pos hsx]; simp only [Gram.Exp.at_]
   have HR := ld hr
   clear hr hf
   go_wp2_with (go_at_call 67; refine hS.mono ?_; rintro e w2 ⟨rfl, hP2, hg2⟩; refine Hid.out ?_)
   have hZ := rsize_any b g cap T _ w2 hP2
   refine ld ?_
   go_wp2_with (go_at_call 85; refine hZ.mono ?_; rintro e w3 ⟨rfl, hP3, hg3⟩; refine Hid.out ?_)
   have hTk := rtake_any b g cap T _ ⟨#[93]⟩ w3 hP3
   rw [show ((⟨#[93]⟩ : ByteArray)).data.toList = [93] from rfl] at hTk
   refine ld ?_
   go_wp2_with (go_at_call 64; refine hTk.mono ?_; rintro e w4 ⟨rfl, hP4, hg4⟩; refine Hid.out ?_)
   have hgA : wr.grownBy w4 (some b) := (hg2.trans hg3).trans hg4
   have hE4 := (hgA.block w.heap.size (by omega) (by simp; omega)).trans (show wr.heap[w.heap.size]? = some (.cells #[.int .i64 f1, .int .i64 s1, .string ⟨nm1.toArray⟩, .int .i64 tk1, .int .i64 tl1, .int .i64 n1, .int .i64 m1, .slice ka kn kc, .int .i64 a1] 37 (0, 0)) from hE)
   obtain ⟨d0, d1, d2, d3, d4, d5, d6, d7, d8, df⟩ := Nc.of hE4
   have hs4 := hgA.size
   have hn4 : ¬ w.heap.size = w4.heap.size := by omega
   have e8 := (ga w4 (.cells #[.int .i64 f1, .int .i64 s1, .string ⟨nm1.toArray⟩, .int .i64 tk1, .int .i64 tl1, .int .i64 n1, .int .i64 m1, .slice ka kn kc, .int .i64 a1] 37) none).cell d8 (by simp)
   refine ld ?_
   go_wp2_with (with_reducible refine hold_st 3 ?_)
   obtain ⟨W, hW⟩ : ∃ W, W = w4.alloc (.cells #[.int .i64 f1, .int .i64 s1, .string ⟨nm1.toArray⟩, .int .i64 tk1, .int .i64 tl1, .int .i64 n1, .int .i64 m1, .slice ka kn kc, .int .i64 a1] 37) := ⟨_, rfl⟩
   have hgW : w4.grownBy W none := by rw [hW]; exact ga w4 _ none
   have hoW : W.ownsRow B 37 9 (.slice (some ⟨w4.heap.size, 0, none⟩) 1 1) 1 (expCells (.mk f1 s1 nm1 tk1 tl1 n1 m1 ks1 a1) (.slice ka kn kc)) := by rw [hW]; exact owns_new (w := w4) 37 9 1 (expCells (.mk f1 s1 nm1 tk1 tl1 n1 m1 ks1 a1) (.slice ka kn kc)) (by omega) rfl (by unfold maxLen; omega)
   rw [← hW]
   clear hW
   refine wpList_store_gen rfl _ _ _ rfl w.heap.size #[.int .i64 16, .int .i64 0, .string ⟨#[]⟩, .int .i64 0, .int .i64 0, .int .i64 (Gram.Rf.size T (Gram.Rf.adv s')).1, .int .i64 0, .slice (some ⟨w4.heap.size, 0, none⟩) 1 1, .int .i64 a1] rfl rfl 37 _ ((hgW.block w.heap.size (by omega) (by simp)).trans hE4) (by kernel_rfl) rfl (by simp [Value.oneCell']) ?_
   intro w6 hh6 hg6
   have hKx : KidsX W B [w.heap.size, w.heap.size + 1] [.mk f1 s1 nm1 tk1 tl1 n1 m1 ks1 a1] (.slice (some ⟨w4.heap.size, 0, none⟩) 1 1) := KidsX.one' hoW (fun k e hv => by simp [Value.ownBlock] at hv e; omega) (RepC.kept hgW (fun k e => by cases e) (RepC.kept hgA (fun k e => by cases e; exact hbB) hk))
   go_wp2
   go_roundg f'
   case measure => exact Nat.lt_succ_self _
   case rel =>
   have hG : w.grownBy w6 (some b) := ((hg.trans hgA).trans (grown_some hgW b)).andThen hg6 (fun j e => .inl (by cases e; exact Nat.le_refl _))
   refine ⟨.mk 16 0 [] 0 0 (Gram.Rf.size T (Gram.Rf.adv s')).1 0 [.mk f1 s1 nm1 tk1 tl1 n1 m1 ks1 a1] a1, _, some ⟨w4.heap.size, 0, none⟩, 1, 1, by omega, ld ⟨hh6, ?_, ?_, HH.out.to hG ((hP4.kept hgW).st.kept hg6 (by simp; omega)) hP4.lt, hG, HR.out.symm⟩⟩
   ·exact (hg6.block (w.heap.size + 1) (by have := hgW.size; omega) (by simp)).trans ((hgW.block (w.heap.size + 1) (by omega) (by simp)).trans ((hgA.block (w.heap.size + 1) hEl (by simp; omega)).trans hE1))
   ·exact RepC.keptX hg6 (fun k e => .inr (by cases e; simp)) hKx
end
open Go.RowKit Go.Maps Go.WideMaps
section
variable (b g cap : Nat) (T : List Lex.Tk) (s : Gram.Rf.St)
theorem rinfix_any (n : Nat) (hn : n ≤ 7) (w : World) (h : Rp w b g cap T s) :
  Calls Tryz.prog 113 #[.pointer (some ⟨b, 0, none⟩), .int .i64 (n : Int)] w fun e w' => e = .returned (.int .i64 (Gram.Rf.inf T n s)) ∧ w.grownBy w' none := by
 have hn0 := rtok_any b g cap T s w h
 have HH := ld h
 have hx : tokV (Gram.tk T s.i) = .agg #[.int .i64 (Gram.tk T s.i).kind, .string ⟨(Gram.tk T s.i).text.toArray⟩, .int .i64 (Gram.tk T s.i).n, .int .i64 (Gram.tk T s.i).t, .int .i64 0, .int .i64 ((Gram.tk T s.i).at_ : Int)] := rfl
 rw [hx] at hn0
 obtain ⟨R, hR⟩ : ∃ R, R = Gram.Rf.inf T n s := ⟨_, rfl⟩
 rw [← hR]
 unfold Gram.Rf.inf at hR
 generalize Gram.tk T s.i = y at hn0 hR
 clear hx h
 by_cases h0 : s.e = 0
 ·have b0 : (s.e != 0) = false := bne_t (by rw [beq_iff_eq]; exact h0)
  by_cases h3 : y.kind = 3 ∨ y.kind = 4
  ·rw [if_pos ⟨h0, h3⟩] at hR
   have hk : ((y.kind != 3) = false) ∨ ((y.kind != 3) = true ∧ (y.kind != 4) = false) := by
    by_cases h4 : y.kind = 3
    · exact .inl (bne_t (by rw [beq_iff_eq]; exact h4))
    · exact .inr ⟨bne_f (by rw [beq_eq_false_iff_ne]; exact h4), bne_t (by rw [beq_iff_eq]; rcases h3 with e | e; exact absurd e h4; exact e)⟩
   clear h3 h0
   obtain ⟨kd, tx, nn, tt, aa⟩ := y
   simp only at hn0 hR hk
   rcases hk with b3 | ⟨b3, b4⟩
   all_goals (rcases (show n = 0 ∨ n = 1 ∨ n = 2 ∨ n = 3 ∨ n = 4 ∨ n = 5 ∨ n = 6 ∨ n = 7 by omega) with rfl | rfl | rfl | rfl | rfl | rfl | rfl | rfl)
   all_goals
    (unfold Gram.Rf.infixOf at hR
     have HR := ld hR
     clear hR
     go_enter Tryz.func113, Tryz.ntmps113
     go_wp2_with (go_at_call 45; refine hn0.mono ?_; rintro e w1 ⟨rfl, hg1⟩; refine Hid.out ?_)
     have p2 := (HH.out.kept hg1).st.c2
     have hb1 := (HH.out.kept hg1).bl
     have n1 : ¬ b = w1.heap.size := by omega
     have HG : Hid (∀ o, w.grownBy (w1.alloc o) none) := ld (fun o => galloc hg1 o)
     clear hg1 hn0
     refine ld ?_
     go_wp2
     all_goals (go_ret; refine ⟨?_, HG.out _⟩; rw [HR.out]; simp_all))
  ·rw [if_neg (fun e => h3 e.2)] at hR
   have b3 : (y.kind != 3) = true := bne_f (by rw [beq_eq_false_iff_ne]; exact fun e => h3 (.inl e))
   have b4 : (y.kind != 4) = true := bne_f (by rw [beq_eq_false_iff_ne]; exact fun e => h3 (.inr e))
   clear h3 h0
   have HR := ld hR
   clear hR
   go_enter Tryz.func113, Tryz.ntmps113
   go_wp2_with (go_at_call 45; refine hn0.mono ?_; rintro e w1 ⟨rfl, hg1⟩; refine Hid.out ?_)
   have p2 := (HH.out.kept hg1).st.c2
   have hb1 := (HH.out.kept hg1).bl
   have n1 : ¬ b = w1.heap.size := by omega
   have HG : Hid (∀ o, w.grownBy (w1.alloc o) none) := ld (fun o => galloc hg1 o)
   clear hg1 hn0
   refine ld ?_
   go_wp2
   go_ret
   exact ⟨by rw [HR.out]; rfl, HG.out _⟩
 ·rw [if_neg (fun e => h0 e.1)] at hR
  have b0 : (s.e != 0) = true := bne_f (by rw [beq_eq_false_iff_ne]; exact h0)
  clear h0
  have HR := ld hR
  clear hR
  go_enter Tryz.func113, Tryz.ntmps113
  go_wp2_with (go_at_call 45; refine hn0.mono ?_; rintro e w1 ⟨rfl, hg1⟩; refine Hid.out ?_)
  have p2 := (HH.out.kept hg1).st.c2
  have hb1 := (HH.out.kept hg1).bl
  have n1 : ¬ b = w1.heap.size := by omega
  have HG : Hid (∀ o, w.grownBy (w1.alloc o) none) := ld (fun o => galloc hg1 o)
  clear hg1 hn0
  refine ld ?_
  go_wp2
  go_ret
  exact ⟨by rw [HR.out]; rfl, HG.out _⟩
end
open Go.RowKit Go.Maps Go.WideMaps
section
variable (b g cap : Nat) (T : List Lex.Tk)
theorem inf_ok {T : List Lex.Tk} {n : Nat} {s : Gram.Rf.St} (h : ¬ Gram.Rf.inf T n s = 0) : s.e = 0 ∧ ((Gram.tk T s.i).kind = 3 ∨ (Gram.tk T s.i).kind = 4) := by
 unfold Gram.Rf.inf at h
 by_cases h1 : s.e = 0 ∧ ((Gram.tk T s.i).kind = 3 ∨ (Gram.tk T s.i).kind = 4)
 ·exact h1
 ·rw [if_neg h1] at h; exact absurd rfl h
theorem rlevel_step (f : Nat) (hU : CRex b g cap T 112 (Gram.Rf.unary T f)) (hL : ∀ f', f' ≤ f → CLev b g cap T f') : CLev b g cap T (f + 1) := by
 intro n s w hn h hf
 have hP0 := h.alloc exp0
 have hbw := h.bl
 rw [Gram.Rf.level] at hf ⊢
 by_cases h8 : n = 8
 ·rw [if_pos h8] at hf ⊢
  have hc := hU s _ hP0 hf
  cases hr1 : Gram.Rf.unary T f s with
  | none => rw [hr1] at hf; cases hf
  | some r =>
   obtain ⟨x, s1⟩ := r
   rw [hr1] at hc
   simp only [rePost] at hc
   cases x with
   | mk f1 s1' nm1 tk1 tl1 n1 m1 ks1 a1 =>
   simp only [expV] at hc
   have b8 : ((n : Int) == 8) = true := by rw [beq_iff_eq]; omega
   have HH := ld h
   clear h hP0 hf h8 hr1
   go_enter Tryz.func110, Tryz.ntmps110
   go_wp2_with (go_at_call 112; refine hc.mono ?_; rintro e w1 ⟨k1, rfl, hk1, hP1, hg1⟩; refine Hid.out ?_)
   obtain ⟨ka, kn, kc, rfl⟩ := hk1.form
   have hs1 := hg1.size
   rw [World.size_alloc] at hs1
   refine ld ?_
   go_wp2_with (with_reducible refine hold_st 4 ?_)
   refine sg ((hg1.block w.heap.size (by simp) (by simp; omega)).trans (heap_alloc_new w exp0)) ?_
   intro w4 hh4 hg4
   go_wp2
   (try simp only [Exit.inBlock, Exit.then])
   refine br hh4 Tryz.underlying37 ?_
   have hG : w.grownBy w4 (some b) := ((grown_some (ga w exp0 none) b).trans hg1).andThen hg4 (fun j e => .inl (by cases e; exact Nat.le_refl _))
   exact ⟨_, rfl, (hk1.kept hg4 (by simp)).mono (by simp), HH.out.to hG (hP1.st.kept hg4 (by simp; omega)) hP1.lt, hG⟩
 ·rw [if_neg h8] at hf ⊢
  have b8 : ((n : Int) == 8) = false := by rw [beq_eq_false_iff_ne]; omega
  have hc := hL f (Nat.le_refl _) (n + 1) s _ (by omega) hP0
  cases hr1 : Gram.Rf.level T f (n + 1) s with
  | none => rw [hr1] at hf; cases hf
  | some r =>
  obtain ⟨x0, s0⟩ := r
  rw [hr1] at hf hc
  have hc2 := hc rfl
  simp only [rePost] at hc2
  rw [show (((n + 1 : Nat) : Int)) = (n : Int) + 1 by omega] at hc2
  have hf1 : (Gram.Rf.levels T f n x0 s0).isSome = true := hf
  show Calls _ _ _ _ fun e w' => rePost w b g cap T (Gram.Rf.levels T f n x0 s0) e w'
  have HH := ld h
  clear h hP0 hc hf hr1
  cases hx : x0 with
  | mk g1 u1 om1 vk1 vl1 o1 p1 us1 c1 =>
  rw [hx] at hc2
  simp only [expV] at hc2
  have HX := ld hx
  clear hx
  rw [← HX.out]
  go_enter Tryz.func110, Tryz.ntmps110
  go_wp2_with (go_at_call 110; refine hc2.mono ?_; rintro e w1 ⟨k1, rfl, hk1, hP1, hg1⟩; refine Hid.out ?_)
  obtain ⟨la, ln, lc, rfl⟩ := hk1.form
  have hs1 := hg1.size
  rw [World.size_alloc] at hs1
  refine ld ?_
  go_wp2
  go_loopg [] f (fun (f' : Nat) (wr : World) => ∃ (x : Gram.Exp) (s' : Gram.Rf.St) (ka : Option Addr) (kn kc : Nat), f' ≤ f ∧ Hid (wr.heap[w1.heap.size]? = some (.cells (expCells x (.slice ka kn kc)).toArray 37 (0, 0)) ∧ KidsX wr (w.heap.size + 1) [w1.heap.size] x.kids (.slice ka kn kc) ∧ Rp wr b g cap T s' ∧ (w.alloc exp0).grownBy wr (some b) ∧ Gram.Rf.levels T f' n x s' = Gram.Rf.levels T f n x0 s0))
  case atStart =>
   refine ⟨x0, s0, la, ln, lc, Nat.le_refl _, ld ⟨?_, ?_, hP1.alloc _, galloc hg1 _, rfl⟩⟩
   ·rw [HX.out]; exact heap_alloc_new w1 _
   ·rw [HX.out]
    refine RepC.kept (ga w1 _ none) (fun k e => by cases e) (RepC.toX [w1.heap.size] (fun k e => by simp at e; omega) ?_)
    exact hk1.mono (by simp)
  case round =>
   obtain ⟨x, s', ka, kn, kc, hff, HG⟩ := hrel
   obtain ⟨hE, hk, hP, hg, hLv⟩ := HG.out
   rw [← hLv] at hf1
   have HL := ld hLv
   clear HG hLv
   cases x with
   | mk f1 s1 nm1 tk1 tl1 n1 m1 ks1 a1 =>
   rcases Nat.eq_zero_or_pos gk with hz | hz
   ·rw [hz] at hf1; exact absurd hf1 (by simp [Gram.Rf.levels])
   obtain ⟨f', hfe⟩ : ∃ f', gk = f' + 1 := ⟨gk - 1, by omega⟩
   subst hfe
   have hE0 : wr.heap[w1.heap.size]? = some (.cells #[.int .i64 f1, .int .i64 s1, .string ⟨nm1.toArray⟩, .int .i64 tk1, .int .i64 tl1, .int .i64 n1, .int .i64 m1, .slice ka kn kc, .int .i64 a1] 37 (0, 0)) := hE
   obtain ⟨c0, c1', c2, c3, c4, c5, c6, c7, c8, cf⟩ := Nc.of hE0
   have hEl : w1.heap.size < wr.heap.size := (Array.getElem?_eq_some_iff.1 hE).1
   have p2 := hP.st.c2
   have hbb := hP.bl
   have hwb : ¬ w1.heap.size = b := by have := hP1.bl; omega
   by_cases hin : Gram.Rf.inf T n s' = 0
   ·have hr : Gram.Rf.levels T f n x0 s0 = some (.mk f1 s1 nm1 tk1 tl1 n1 m1 ks1 a1, s') := by rw [← HL.out]; unfold Gram.Rf.levels; rw [if_pos hin]
    have HR := ld hr
    clear hr hf1
    by_cases he : s'.e = 0
    ·have b0 : (s'.e == 0) = true := by rw [beq_iff_eq]; exact he
     have hI := rinfix_any b g cap T s' n (by omega) wr hP
     rw [hin] at hI
     clear he hin
     generalize s'.e = e0 at p2 b0
     go_wp2_with (go_at_call 113; refine hI.mono ?_; rintro e w2 ⟨rfl, hg2⟩; refine Hid.out ?_)
     have hgx : (w.alloc exp0).grownBy w2 (some b) := hg.trans (grown_some hg2 b)
     obtain ⟨d0, d1, d2, d3, d4, d5, d6, d7, d8, df⟩ := Nc.of ((hg2.block w1.heap.size hEl (by simp)).trans hE0)
     have hPx := hP.kept hg2
     refine ld ?_
     go_wp2_with (with_reducible refine hold_st 4 ?_)
     refine sg ((hgx.block w.heap.size (by simp) (by simp; omega)).trans (heap_alloc_new w exp0)) ?_
     intro w9 hh9 hg9
     go_wp2
     (try simp only [Exit.inBlock, Exit.then])
     refine br hh9 Tryz.underlying37 ?_
     rw [HR.out]
     have hG9 : w.grownBy w9 (some b) := ((grown_some (ga w exp0 none) b).trans hgx).andThen hg9 (fun j e => .inl (by cases e; exact Nat.le_refl _))
     exact ⟨_, rfl, RepC.mono (by omega) (RepC.kept hg9 (fun k e => by cases e; omega) (RepC.noX (RepC.kept hg2 (fun k e => by cases e) hk))), HH.out.to hG9 (hPx.st.kept hg9 (by simp; omega)) hPx.lt, hG9⟩
    ·have b0 : (s'.e == 0) = false := by rw [beq_eq_false_iff_ne]; exact he
     clear he hin
     generalize s'.e = e0 at p2 b0
     go_wp2_with (with_reducible refine hold_st 4 ?_)
     refine sg ((hg.block w.heap.size (by simp) (by simp; omega)).trans (heap_alloc_new w exp0)) ?_
     intro w9 hh9 hg9
     go_wp2
     (try simp only [Exit.inBlock, Exit.then])
     refine br hh9 Tryz.underlying37 ?_
     rw [HR.out]
     have hG9 : w.grownBy w9 (some b) := ((grown_some (ga w exp0 none) b).trans hg).andThen hg9 (fun j e => .inl (by cases e; exact Nat.le_refl _))
     exact ⟨_, rfl, RepC.mono (by omega) (RepC.kept hg9 (fun k e => by cases e; omega) (RepC.noX hk)), HH.out.to hG9 (hP.st.kept hg9 (by simp; omega)) hP.lt, hG9⟩
   ·have hop := inf_ok hin
    have b0 : (s'.e == 0) = true := by rw [beq_iff_eq]; exact hop.1
    have bi : (Gram.Rf.inf T n s' == 0) = false := by rw [beq_eq_false_iff_ne]; exact hin
    have hi1 := hP.next (.inl (by rcases hop.2 with e | e <;> rw [e] <;> decide))
    have hm := hP.toks.most
    have hI := rinfix_any b g cap T s' n (by omega) wr hP
    have hlv : Gram.Rf.levels T f n x0 s0 = Gram.Rf.bindS (Gram.Rf.level T f' (n + 1) (Gram.Rf.adv s')) fun b s2 => if n = 2 then some (Gram.Rf.two 4 (Gram.Rf.inf T n s') (.mk f1 s1 nm1 tk1 tl1 n1 m1 ks1 a1) b, s2) else Gram.Rf.levels T f' n (Gram.Rf.two 4 (Gram.Rf.inf T n s') (.mk f1 s1 nm1 tk1 tl1 n1 m1 ks1 a1) b) s2 := by rw [← HL.out]; conv => lhs; unfold Gram.Rf.levels; rw [if_neg hin]
    rw [HL.out, hlv] at hf1
    cases hr2 : Gram.Rf.level T f' (n + 1) (Gram.Rf.adv s') with
    | none => rw [hr2] at hf1; cases hf1
    | some r2 =>
     obtain ⟨y, s2⟩ := r2
     rw [hr2] at hlv hf1
     simp only [Gram.Rf.bindS] at hlv hf1
     have hadv := fun (w2 : World) (hg2 : wr.grownBy w2 none) => radv_w (hP.kept hg2) hi1
     have HC : Hid (∀ w2, Rp w2 b g cap T (Gram.Rf.adv s') → Calls Tryz.prog 110 #[.pointer (some ⟨b, 0, none⟩), .int .i64 ((n : Int) + 1)] w2 fun e w' => rePost w2 b g cap T (some (y, s2)) e w') := ld (fun w2 h2 => by
      have := hL f' (by omega) (n + 1) (Gram.Rf.adv s') w2 (by omega) h2
      rw [hr2] at this
      exact this rfl)
     clear hr2
     cases y with
     | mk f2 s2' nm2 tk2 tl2 n2 m2 ks2 a2 =>
     simp only [rePost, expV] at HC
     generalize hOP : Gram.Rf.inf T n s' = op at hI bi hlv hf1
     have HLV := ld hlv
     clear hlv hin hop hOP
     go_wp2_with (go_at_call 113; refine hI.mono ?_; rintro e w2 ⟨rfl, hg2⟩; refine Hid.out ?_)
     obtain ⟨hP3, hg3⟩ := hadv w2 hg2
     have p1 := (hP.kept hg2).st.c1
     have f1' := (hP.kept hg2).st.fr 1
     have hc3 := HC.out _ hP3
     have hgA : wr.grownBy (w2.setCell ⟨b, 1, none⟩ (.int .i64 ((s'.i : Int) + 1))) (some b) := (grown_some hg2 b).trans hg3
     have hsA := hgA.size
     have HA := ld (And.intro hP3 hgA)
     clear hP3 hg3 hgA hadv
     refine ld ?_
     go_wp2_with (go_at_call 110; refine hc3.mono ?_; rintro e w4 ⟨k2, rfl, hk2, hP4, hg4⟩; refine Hid.out ?_)
     obtain ⟨hP3, hgA⟩ := HA.out
     obtain ⟨la2, ln2, lc2, rfl⟩ := hk2.form
     have hgB : wr.grownBy w4 (some b) := hgA.trans hg4
     have hs4 := hgB.size
     have hE4 := (hgB.block w1.heap.size hEl (by simp; omega)).trans hE0
     have hY := ga w4 (.cells #[.int .i64 f2, .int .i64 s2', .string ⟨nm2.toArray⟩, .int .i64 tk2, .int .i64 tl2, .int .i64 n2, .int .i64 m2, .slice la2 ln2 lc2, .int .i64 a2] 37) none
     obtain ⟨d0, d1, d2, d3, d4, d5, d6, d7, d8, df⟩ := Nc.of ((hY.block w1.heap.size (by omega) (by simp)).trans hE4)
     have hkx := RepC.kept (hgB.trans (grown_some hY b)) (fun k e => by cases e; omega) hk
     have hky : KidsX _ (w.heap.size + 1) [w1.heap.size] (Gram.Exp.mk f2 s2' nm2 tk2 tl2 n2 m2 ks2 a2).kids (.slice la2 ln2 lc2) := RepC.kept hY (fun k e => by cases e) (RepC.mono (B' := w.heap.size + 1) (by omega) (RepC.toX [w1.heap.size] (fun k e => by simp at e; omega) hk2))
     have hTw := rtwoX_any 4 op (.mk f1 s1 nm1 tk1 tl1 n1 m1 ks1 a1) (.mk f2 s2' nm2 tk2 tl2 n2 m2 ks2 a2) _ _ (w.heap.size + 1) [w1.heap.size] _ (by simp; omega) (fun k e => by simp at e; simp; omega) hkx hky
     simp only [expV, Gram.Rf.two, Gram.Exp.at_] at hTw
     have HP4 := ld (And.intro hP4 hgB)
     clear hkx hky hk2 hgA hP3
     refine ld ?_
     go_wp2_with (first | (go_at_call 99; refine hTw.mono ?_; rintro e w5 ⟨⟨v, rfl, hkv⟩, hg5⟩; refine Hid.out ?_))
     obtain ⟨va, vn, vc, rfl⟩ : ∃ a n c, v = .slice a n c := Kids.form (RepC.noX hkv)
     have hgC : wr.grownBy w5 (some b) := (galloc hgB _).trans (grown_some hg5 b)
     have hs5 := hgC.size
     refine ld ?_
     go_wp2_with (with_reducible refine hold_st 5 ?_)
     refine wpList_store_gen rfl _ _ _ rfl w1.heap.size #[.int .i64 4, .int .i64 op, .string ⟨#[]⟩, .int .i64 0, .int .i64 0, .int .i64 0, .int .i64 0, .slice va vn vc, .int .i64 a1] rfl rfl 37 _ ((hgC.block w1.heap.size hEl (by simp; omega)).trans hE0) (by kernel_rfl) rfl (by simp [Value.oneCell']) ?_
     intro w6 hh6 hg6
     have hgx : (w.alloc exp0).grownBy w6 (some b) := (hg.trans hgC).andThen hg6 (fun j e => .inl (by cases e; rw [World.size_alloc]; omega))
     have hkz : KidsX w6 (w.heap.size + 1) [w1.heap.size] [.mk f1 s1 nm1 tk1 tl1 n1 m1 ks1 a1, .mk f2 s2' nm2 tk2 tl2 n2 m2 ks2 a2] (.slice va vn vc) := RepC.keptX hg6 (fun k e => .inr (by cases e; simp)) hkv
     have hP6 : Rp w6 b g cap T s2 := HH.out.to ((grown_some (ga w exp0 none) b).trans hgx) (((HP4.out.1.kept hY).kept hg5).st.kept hg6 (by simp; omega)) HP4.out.1.lt
     obtain ⟨d0, d1, d2, d3, d4, d5, d6, d7, d8, df⟩ := Nc.of hh6
     by_cases h2 : n = 2
     ·have hr : Gram.Rf.levels T f n x0 s0 = some (Gram.Rf.two 4 op (.mk f1 s1 nm1 tk1 tl1 n1 m1 ks1 a1) (.mk f2 s2' nm2 tk2 tl2 n2 m2 ks2 a2), s2) := by rw [HLV.out, if_pos h2]
      have HR := ld hr
      have b2 : ((n : Int) == 2) = true := by rw [beq_iff_eq]; omega
      clear hr h2 hf1
      go_wp2_with (with_reducible refine hold_st 4 ?_)
      refine sg ((hgx.block w.heap.size (by simp) (by simp; omega)).trans (heap_alloc_new w exp0)) ?_
      intro w9 hh9 hg9
      go_wp2
      (try simp only [Exit.inBlock, Exit.then])
      refine br hh9 Tryz.underlying37 ?_
      rw [HR.out]
      have hG9 : w.grownBy w9 (some b) := ((grown_some (ga w exp0 none) b).trans hgx).andThen hg9 (fun j e => .inl (by cases e; exact Nat.le_refl _))
      exact ⟨_, rfl, RepC.mono (by omega) (RepC.kept hg9 (fun k e => by cases e; omega) (RepC.noX hkz)), HH.out.to hG9 (hP6.st.kept hg9 (by simp; omega)) hP6.lt, hG9⟩
     ·have hr : Gram.Rf.levels T f n x0 s0 = Gram.Rf.levels T f' n (Gram.Rf.two 4 op (.mk f1 s1 nm1 tk1 tl1 n1 m1 ks1 a1) (.mk f2 s2' nm2 tk2 tl2 n2 m2 ks2 a2)) s2 := by rw [HLV.out, if_neg h2]
      have HR := ld hr
      have b2 : ((n : Int) == 2) = false := by rw [beq_eq_false_iff_ne]; omega
      clear hr h2 hf1
      go_wp2
      go_roundg f'
      case measure => exact Nat.lt_succ_self _
      case rel => exact ⟨Gram.Rf.two 4 op (.mk f1 s1 nm1 tk1 tl1 n1 m1 ks1 a1) (.mk f2 s2' nm2 tk2 tl2 n2 m2 ks2 a2), s2, va, vn, vc, by omega, ld ⟨hh6, hkz, hP6, hgx, HR.out.symm⟩⟩
end
open Go.RowKit Go.Maps Go.WideMaps
section
variable (b g cap : Nat) (T : List Lex.Tk)
theorem rexp_step (f : Nat) (h1 : CRex b g cap T 93 (Gram.Rf.arrow T f)) : CRex b g cap T 88 (Gram.Rf.exp T (f + 1)) := by
 intro s w h hf
 have hP0 := h.alloc exp0
 have hbw := h.bl
 have HH := ld h
 have hg0 : (w.alloc exp0).grownBy (w.alloc exp0) none := World.grownBy.refl _ _
 rw [Gram.Rf.exp] at hf ⊢
 by_cases hd : 40 < (Gram.Rf.opened s).n
 ·rw [if_pos hd]
  clear hf h
  go_enter Tryz.func88, Tryz.ntmps88
  refine Hid.out ?_
  have hO := ropen_no b g cap T s (by omega) (w.alloc exp0) hP0
  refine ld ?_
  go_wp2_with (go_at_call 92; refine hO.mono ?_; rintro e w2 ⟨rfl, hP2, hg2⟩; refine Hid.out ?_)
  have hgW : (w.alloc exp0).grownBy w2 (some b) := (grown_some hg0 b).trans hg2
  refine ld ?_
  go_wp2_with (with_reducible refine hold_st 2 ?_)
  refine wpList_store_gen rfl _ _ _ rfl w.heap.size #[.int .i64 0, .int .i64 0, .string ⟨#[]⟩, .int .i64 0, .int .i64 0, .int .i64 0, .int .i64 0, .slice none 0 0, .int .i64 0] rfl rfl 37 _ ((hgW.block w.heap.size (by simp) (by simp; omega)).trans (heap_alloc_new w exp0)) (by kernel_rfl) rfl (by simp [Value.oneCell']) ?_
  intro w4 hh4 hg4
  go_wp2
  (try simp only [Exit.inBlock, Exit.then])
  refine br hh4 Tryz.underlying37 ?_
  have hG : w.grownBy w4 (some b) := ((grown_some (ga w exp0 none) b).trans hgW).andThen hg4 (fun j e => .inl (by cases e; exact Nat.le_refl _))
  exact ⟨.slice none 0 0, rfl, Kids.nil _ _, HH.out.to hG (hP2.st.kept hg4 (by simp; omega)) hP2.lt, hG⟩
 ·rw [if_neg hd] at hf ⊢
  cases hr : Gram.Rf.arrow T f (Gram.Rf.opened s) with
  | none => rw [hr] at hf; cases hf
  | some r =>
   obtain ⟨x, s2⟩ := r
   simp only [Gram.Rf.bindS]
   cases x with
   | mk f1 s1' nm1 tk1 tl1 n1 m1 ks1 a1 =>
   clear hf h
   go_enter Tryz.func88, Tryz.ntmps88
   refine Hid.out ?_
   have hO := ropen_yes b g cap T s (by omega) (w.alloc exp0) hP0
   refine ld ?_
   go_wp2_with (go_at_call 92; refine hO.mono ?_; rintro e w2 ⟨rfl, hP2, hg2⟩; refine Hid.out ?_)
   have hgW : (w.alloc exp0).grownBy w2 (some b) := (grown_some hg0 b).trans hg2
   have hc := h1 _ w2 hP2
   rw [hr] at hc
   have hc2 := hc rfl
   simp only [rePost, expV] at hc2
   have hs2 := hgW.size
   rw [World.size_alloc] at hs2
   refine ld ?_
   go_wp2_with (go_at_call 93; refine hc2.mono ?_; rintro e w3 ⟨k1, rfl, hk1, hP3, hg3⟩; refine Hid.out ?_)
   obtain ⟨ka, kn, kc, rfl⟩ := hk1.form
   have p4 := hP3.st.c4
   have f4 := hP3.st.fr 4
   have hK := ropened_w hP3 (wrap64 (s2.n - 1))
   have HK := ld hK
   have hb3 := hP3.bl
   have n3 : ¬ b = w3.heap.size := by omega
   have hs3 := hg3.size
   have hsK := hK.2.size
   clear hK
   generalize hnn : s2.n = nn at p4 HK hsK
   generalize hvv : wrap64 (nn - 1) = vv at HK hsK
   have HCL : Hid (Gram.Rf.closed s2 = { s2 with n := vv }) := ld (by unfold Gram.Rf.closed; rw [hnn, hvv])
   clear hnn
   refine ld ?_
   go_wp2_with (with_reducible refine hold_st 2 ?_)
   obtain ⟨W5, hW5⟩ : ∃ W, W = (w3.setCell ⟨b, 4, none⟩ (.int .i64 vv)).alloc (.cells #[.int .i64 f1, .int .i64 s1', .string ⟨nm1.toArray⟩, .int .i64 tk1, .int .i64 tl1, .int .i64 n1, .int .i64 m1, .slice ka kn kc, .int .i64 a1] 37) := ⟨_, rfl⟩
   have hg5 : (w3.setCell ⟨b, 4, none⟩ (.int .i64 vv)).grownBy W5 none := by rw [hW5]; exact ga _ _ none
   rw [← hW5]
   clear hW5
   have hgX : (w.alloc exp0).grownBy W5 (some b) := ((hgW.trans hg3).trans HK.out.2).trans (grown_some hg5 b)
   refine wpList_store_gen rfl _ _ _ rfl w.heap.size #[.int .i64 f1, .int .i64 s1', .string ⟨nm1.toArray⟩, .int .i64 tk1, .int .i64 tl1, .int .i64 n1, .int .i64 m1, .slice ka kn kc, .int .i64 a1] rfl rfl 37 _ ((hgX.block w.heap.size (by simp) (by simp; omega)).trans (heap_alloc_new w exp0)) (by kernel_rfl) rfl (by simp [Value.oneCell']) ?_
   intro w4 hh4 hg4
   go_wp2
   (try simp only [Exit.inBlock, Exit.then])
   refine br hh4 Tryz.underlying37 ?_
   have hG : w.grownBy w4 (some b) := ((grown_some (ga w exp0 none) b).trans hgX).andThen hg4 (fun j e => .inl (by cases e; exact Nat.le_refl _))
   rw [HCL.out]
   have hk4 := RepC.kept hg4 (fun k e => by cases e; omega) (RepC.kept hg5 (fun k e => by cases e) (RepC.kept HK.out.2 (fun k e => by cases e; have := HH.out.bl; omega) hk1))
   exact ⟨_, rfl, RepC.mono (by omega) hk4, HH.out.to hG ((HK.out.1.kept hg5).st.kept hg4 (by simp; omega)) hP3.lt, hG⟩
theorem runary_step (f : Nat) (h1 : CRex b g cap T 114 (Gram.Rf.signed T f)) : CRex b g cap T 112 (Gram.Rf.unary T (f + 1)) := by
 intro s w h hf
 have hP0 := h.alloc exp0
 have hbw := h.bl
 have HH := ld h
 rw [Gram.Rf.unary] at hf ⊢
 clear h
 cases hab : (Gram.Rf.is T [110, 111, 116] s || Gram.Rf.is T [45] s || Gram.Rf.is T [112, 114, 101] s) with
 | true =>
  rw [hab] at hf
  rw [if_pos rfl] at hf ⊢
  have HAB := ld hab
  by_cases hd : 40 < (Gram.Rf.opened s).n
  ·rw [if_pos hd]
   clear hf
   go_enter Tryz.func112, Tryz.ntmps112
   refine Hid.out ?_
   have hia := ris_any b g cap T s ⟨#[110, 111, 116]⟩ (w.alloc exp0) hP0
   rw [show ((⟨#[110, 111, 116]⟩ : ByteArray)).data.toList = [110, 111, 116] from rfl] at hia
   have HA3 : Hid (∀ wx, (w.alloc exp0).grownBy wx none → Rp wx b g cap T s) := ld (fun wx hx => hP0.kept hx)
   refine ld ?_
   go_wp2_with (go_at_call 46; refine hia.mono ?_; rintro e wa ⟨rfl, hga⟩; refine Hid.out ?_)
   have hib := ris_any b g cap T s ⟨#[45]⟩ wa (HA3.out _ hga)
   rw [show ((⟨#[45]⟩ : ByteArray)).data.toList = [45] from rfl] at hib
   refine ld ?_
   go_wp2_with (go_at_call 46; refine hib.mono ?_; rintro e wb ⟨rfl, hgb⟩; refine Hid.out ?_)
   have hgab := hga.trans hgb
   have hic := ris_any b g cap T s ⟨#[112, 114, 101]⟩ wb (HA3.out _ hgab)
   rw [show ((⟨#[112, 114, 101]⟩ : ByteArray)).data.toList = [112, 114, 101] from rfl] at hic
   refine ld ?_
   go_wp2_with (go_at_call 46; refine hic.mono ?_; rintro e wc ⟨rfl, hgc⟩; refine Hid.out ?_)
   have hg0 := hgab.trans hgc
   have hP0' := HA3.out _ hg0
   clear hga hgb hgc hgab hia hib hic
   generalize Gram.Rf.is T [110, 111, 116] s = xa at *
   generalize Gram.Rf.is T [45] s = xb at *
   generalize Gram.Rf.is T [112, 114, 101] s = xc at *
   rcases Bool.eq_false_or_eq_true xa with rfl | rfl <;> rcases Bool.eq_false_or_eq_true xb with rfl | rfl <;> rcases Bool.eq_false_or_eq_true xc with rfl | rfl
   all_goals first | (exact absurd HAB.out (by decide)) | skip
   all_goals (clear hab)
   all_goals
    (
     have hO := ropen_no b g cap T s (by omega) wc hP0'
     refine ld ?_
     go_wp2_with (go_at_call 92; refine hO.mono ?_; rintro e w2 ⟨rfl, hP2, hg2⟩; refine Hid.out ?_)
     have hgW : (w.alloc exp0).grownBy w2 (some b) := (grown_some hg0 b).trans hg2
     refine ld ?_
     go_wp2_with (with_reducible refine hold_st 2 ?_)
     refine wpList_store_gen rfl _ _ _ rfl w.heap.size #[.int .i64 0, .int .i64 0, .string ⟨#[]⟩, .int .i64 0, .int .i64 0, .int .i64 0, .int .i64 0, .slice none 0 0, .int .i64 0] rfl rfl 37 _ ((hgW.block w.heap.size (by simp) (by simp; omega)).trans (heap_alloc_new w exp0)) (by kernel_rfl) rfl (by simp [Value.oneCell']) ?_
     intro w4 hh4 hg4
     go_wp2
     (try simp only [Exit.inBlock, Exit.then])
     refine br hh4 Tryz.underlying37 ?_
     have hG : w.grownBy w4 (some b) := ((grown_some (ga w exp0 none) b).trans hgW).andThen hg4 (fun j e => .inl (by cases e; exact Nat.le_refl _))
     exact ⟨.slice none 0 0, rfl, Kids.nil _ _, HH.out.to hG (hP2.st.kept hg4 (by simp; omega)) hP2.lt, hG⟩
    )
  ·rw [if_neg hd] at hf ⊢
   cases hr : Gram.Rf.signed T f (Gram.Rf.opened s) with
   | none => rw [hr] at hf; cases hf
   | some r =>
    obtain ⟨x, s2⟩ := r
    simp only [Gram.Rf.bindS]
    cases x with
    | mk f1 s1' nm1 tk1 tl1 n1 m1 ks1 a1 =>
    clear hf
    go_enter Tryz.func112, Tryz.ntmps112
    refine Hid.out ?_
    have hia := ris_any b g cap T s ⟨#[110, 111, 116]⟩ (w.alloc exp0) hP0
    rw [show ((⟨#[110, 111, 116]⟩ : ByteArray)).data.toList = [110, 111, 116] from rfl] at hia
    have HA3 : Hid (∀ wx, (w.alloc exp0).grownBy wx none → Rp wx b g cap T s) := ld (fun wx hx => hP0.kept hx)
    refine ld ?_
    go_wp2_with (go_at_call 46; refine hia.mono ?_; rintro e wa ⟨rfl, hga⟩; refine Hid.out ?_)
    have hib := ris_any b g cap T s ⟨#[45]⟩ wa (HA3.out _ hga)
    rw [show ((⟨#[45]⟩ : ByteArray)).data.toList = [45] from rfl] at hib
    refine ld ?_
    go_wp2_with (go_at_call 46; refine hib.mono ?_; rintro e wb ⟨rfl, hgb⟩; refine Hid.out ?_)
    have hgab := hga.trans hgb
    have hic := ris_any b g cap T s ⟨#[112, 114, 101]⟩ wb (HA3.out _ hgab)
    rw [show ((⟨#[112, 114, 101]⟩ : ByteArray)).data.toList = [112, 114, 101] from rfl] at hic
    refine ld ?_
    go_wp2_with (go_at_call 46; refine hic.mono ?_; rintro e wc ⟨rfl, hgc⟩; refine Hid.out ?_)
    have hg0 := hgab.trans hgc
    have hP0' := HA3.out _ hg0
    clear hga hgb hgc hgab hia hib hic
    generalize Gram.Rf.is T [110, 111, 116] s = xa at *
    generalize Gram.Rf.is T [45] s = xb at *
    generalize Gram.Rf.is T [112, 114, 101] s = xc at *
    rcases Bool.eq_false_or_eq_true xa with rfl | rfl <;> rcases Bool.eq_false_or_eq_true xb with rfl | rfl <;> rcases Bool.eq_false_or_eq_true xc with rfl | rfl
    all_goals first | (exact absurd HAB.out (by decide)) | skip
    all_goals (clear hab)
    all_goals
      (
       have hO := ropen_yes b g cap T s (by omega) wc hP0'
       refine ld ?_
       go_wp2_with (go_at_call 92; refine hO.mono ?_; rintro e w2 ⟨rfl, hP2, hg2⟩; refine Hid.out ?_)
       have hgW : (w.alloc exp0).grownBy w2 (some b) := (grown_some hg0 b).trans hg2
       have hc := h1 _ w2 hP2
       rw [hr] at hc
       have hc2 := hc rfl
       simp only [rePost, expV] at hc2
       have hs2 := hgW.size
       rw [World.size_alloc] at hs2
       refine ld ?_
       go_wp2_with (go_at_call 114; refine hc2.mono ?_; rintro e w3 ⟨k1, rfl, hk1, hP3, hg3⟩; refine Hid.out ?_)
       obtain ⟨ka, kn, kc, rfl⟩ := hk1.form
       have p4 := hP3.st.c4
       have f4 := hP3.st.fr 4
       have hK := ropened_w hP3 (wrap64 (s2.n - 1))
       have HK := ld hK
       have hb3 := hP3.bl
       have n3 : ¬ b = w3.heap.size := by omega
       have hs3 := hg3.size
       have hsK := hK.2.size
       clear hK
       generalize hnn : s2.n = nn at p4 HK hsK
       generalize hvv : wrap64 (nn - 1) = vv at HK hsK
       have HCL : Hid (Gram.Rf.closed s2 = { s2 with n := vv }) := ld (by unfold Gram.Rf.closed; rw [hnn, hvv])
       clear hnn
       refine ld ?_
       go_wp2_with (with_reducible refine hold_st 2 ?_)
       obtain ⟨W5, hW5⟩ : ∃ W, W = (w3.setCell ⟨b, 4, none⟩ (.int .i64 vv)).alloc (.cells #[.int .i64 f1, .int .i64 s1', .string ⟨nm1.toArray⟩, .int .i64 tk1, .int .i64 tl1, .int .i64 n1, .int .i64 m1, .slice ka kn kc, .int .i64 a1] 37) := ⟨_, rfl⟩
       have hg5 : (w3.setCell ⟨b, 4, none⟩ (.int .i64 vv)).grownBy W5 none := by rw [hW5]; exact ga _ _ none
       rw [← hW5]
       clear hW5
       have hgX : (w.alloc exp0).grownBy W5 (some b) := ((hgW.trans hg3).trans HK.out.2).trans (grown_some hg5 b)
       refine wpList_store_gen rfl _ _ _ rfl w.heap.size #[.int .i64 f1, .int .i64 s1', .string ⟨nm1.toArray⟩, .int .i64 tk1, .int .i64 tl1, .int .i64 n1, .int .i64 m1, .slice ka kn kc, .int .i64 a1] rfl rfl 37 _ ((hgX.block w.heap.size (by simp) (by simp; omega)).trans (heap_alloc_new w exp0)) (by kernel_rfl) rfl (by simp [Value.oneCell']) ?_
       intro w4 hh4 hg4
       go_wp2
       (try simp only [Exit.inBlock, Exit.then])
       refine br hh4 Tryz.underlying37 ?_
       have hG : w.grownBy w4 (some b) := ((grown_some (ga w exp0 none) b).trans hgX).andThen hg4 (fun j e => .inl (by cases e; exact Nat.le_refl _))
       rw [HCL.out]
       have hk4 := RepC.kept hg4 (fun k e => by cases e; omega) (RepC.kept hg5 (fun k e => by cases e) (RepC.kept HK.out.2 (fun k e => by cases e; have := HH.out.bl; omega) hk1))
       exact ⟨_, rfl, RepC.mono (by omega) hk4, HH.out.to hG ((HK.out.1.kept hg5).st.kept hg4 (by simp; omega)) hP3.lt, hG⟩
      )
 | false =>
  rw [hab] at hf
  rw [if_neg (by decide)] at hf ⊢
  simp only [Bool.or_eq_false_iff] at hab
  obtain ⟨⟨qa, qb⟩, qc⟩ := hab
  cases hr : Gram.Rf.signed T f s with
  | none => rw [hr] at hf; cases hf
  | some r =>
   obtain ⟨x, s2⟩ := r
   cases x with
   | mk f1 s1' nm1 tk1 tl1 n1 m1 ks1 a1 =>
   clear hf
   go_enter Tryz.func112, Tryz.ntmps112
   refine Hid.out ?_
   have hia := ris_any b g cap T s ⟨#[110, 111, 116]⟩ (w.alloc exp0) hP0
   rw [show ((⟨#[110, 111, 116]⟩ : ByteArray)).data.toList = [110, 111, 116] from rfl] at hia
   have HA3 : Hid (∀ wx, (w.alloc exp0).grownBy wx none → Rp wx b g cap T s) := ld (fun wx hx => hP0.kept hx)
   refine ld ?_
   go_wp2_with (go_at_call 46; refine hia.mono ?_; rintro e wa ⟨rfl, hga⟩; refine Hid.out ?_)
   have hib := ris_any b g cap T s ⟨#[45]⟩ wa (HA3.out _ hga)
   rw [show ((⟨#[45]⟩ : ByteArray)).data.toList = [45] from rfl] at hib
   refine ld ?_
   go_wp2_with (go_at_call 46; refine hib.mono ?_; rintro e wb ⟨rfl, hgb⟩; refine Hid.out ?_)
   have hgab := hga.trans hgb
   have hic := ris_any b g cap T s ⟨#[112, 114, 101]⟩ wb (HA3.out _ hgab)
   rw [show ((⟨#[112, 114, 101]⟩ : ByteArray)).data.toList = [112, 114, 101] from rfl] at hic
   refine ld ?_
   go_wp2_with (go_at_call 46; refine hic.mono ?_; rintro e wc ⟨rfl, hgc⟩; refine Hid.out ?_)
   have hg0 := hgab.trans hgc
   have hP0' := HA3.out _ hg0
   skip
   have hc := h1 _ wc hP0'
   rw [hr] at hc
   have hc2 := hc rfl
   simp only [rePost, expV] at hc2
   refine ld ?_
   go_wp2_with (go_at_call 114; refine hc2.mono ?_; rintro e w3 ⟨k1, rfl, hk1, hP3, hg3⟩; refine Hid.out ?_)
   obtain ⟨ka, kn, kc, rfl⟩ := hk1.form
   have hgX : (w.alloc exp0).grownBy w3 (some b) := (grown_some hg0 b).trans hg3
   have hs0 := hg0.size
   rw [World.size_alloc] at hs0
   refine ld ?_
   go_wp2_with (with_reducible refine hold_st 2 ?_)
   refine sg ((hgX.block w.heap.size (by simp) (by simp; omega)).trans (heap_alloc_new w exp0)) ?_
   intro w4 hh4 hg4
   go_wp2
   (try simp only [Exit.inBlock, Exit.then])
   refine br hh4 Tryz.underlying37 ?_
   have hG : w.grownBy w4 (some b) := ((grown_some (ga w exp0 none) b).trans hgX).andThen hg4 (fun j e => .inl (by cases e; exact Nat.le_refl _))
   exact ⟨_, rfl, RepC.mono (by omega) (RepC.kept hg4 (fun k e => by cases e; omega) hk1), HH.out.to hG (hP3.st.kept hg4 (by simp; omega)) hP3.lt, hG⟩
end
open Go.RowKit Go.Maps Go.WideMaps
section
variable (b g cap : Nat) (rv : Value) (T : List Lex.Tk) (i d : Nat)
def edg0 : Obj := .cells #[.string ⟨#[]⟩, .bool false] 126
end
open Go.RowKit Go.Maps Go.WideMaps
mutual
theorem RepC.keptN {w w' : World} {B : Nat} {E : List Nat} {row : Option Nat} (hg : w.grownBy w' row) (hr : ∀ k, row = some k → k < B ∨ k ∈ E) (E' : List Nat) (hE' : ∀ k ∈ E', w.heap.size ≤ k) : ∀ {d : D} {v : Value}, RepC w B E d v → RepC w' B E' d v
 | _, _, .c v => .c v
 | _, v, .l ho hE h => .l (ho.kept hg (by
  cases hv : v.ownBlock with
  | none => exact .inl rfl
  | some k => exact .inr (fun e => by
   rcases hr k e.symm with h2 | h2
   ·have h1 := (ho.lt k hv).1; omega
   ·exact hE k h2 hv))) (fun k e hv => by have h1 := hE' k e; have h2 := ho.lt _ hv; omega) (RepRow.keptN hg hr E' hE' h)
theorem RepRow.keptN {w w' : World} {B : Nat} {E : List Nat} {row : Option Nat} (hg : w.grownBy w' row) (hr : ∀ k, row = some k → k < B ∨ k ∈ E) (E' : List Nat) (hE' : ∀ k ∈ E', w.heap.size ≤ k) : ∀ {ds : List D} {vs : List Value}, RepRow w B E ds vs → RepRow w' B E' ds vs
 | _, _, .nil => .nil
 | _, _, .cons h t => .cons (RepC.keptN hg hr E' hE' h) (RepRow.keptN hg hr E' hE' t)
end
def Growing (w : World) (B : Nat) (l : List Gram.Exp) (v : Value) : Prop := ∃ xs, w.ownsRow B 37 9 v l.length xs ∧ RepRow w B v.ownBlock.toList (expsD l).flatten xs
theorem Growing.kids {w : World} {B : Nat} {l : List Gram.Exp} {v : Value} (h : Growing w B l v) : Kids w B l v := by
 obtain ⟨xs, ho, hx⟩ := h
 exact .l (by rw [expsD_len]; exact ho) (fun _ e => by cases e) (RepRow.noX hx)
theorem Growing.nil (w : World) (B : Nat) : Growing w B [] (.slice none 0 0) := ⟨[], World.ownsRow_nil w B _ _, .nil⟩
theorem Growing.kept {w w' : World} {B : Nat} {l : List Gram.Exp} {v : Value} {row : Option Nat} (hg : w.grownBy w' row) (hr : ∀ k, row = some k → k < B) (h : Growing w B l v) : Growing w' B l v := by
 obtain ⟨xs, ho, hx⟩ := h
 refine ⟨xs, ho.kept hg ?_, RepRow.keptX hg (fun k e => .inl (hr k e)) hx⟩
 cases hv : v.ownBlock with
 | none => exact .inl rfl
 | some k => exact .inr (fun e => by have h1 := (ho.lt k hv).1; have h2 := hr k e.symm; omega)
theorem Growing.lt {w : World} {B : Nat} {l : List Gram.Exp} {v : Value} (h : Growing w B l v) : ∀ k ∈ v.ownBlock.toList, k < w.heap.size := by
 obtain ⟨xs, ho, hx⟩ := h
 intro k hk
 exact (ho.lt k (by simpa using hk)).2
theorem Growing.keptB {w w' : World} {B : Nat} {l : List Gram.Exp} {v : Value} {b : Nat} (h : Growing w B l v) (hg : w.grownBy w' (some b)) (hb : b < B) : Growing w' B l v := Growing.kept hg (fun k e => by cases e; exact hb) h
theorem Growing.kept0 {w w' : World} {B : Nat} {l : List Gram.Exp} {v : Value} (h : Growing w B l v) (hg : w.grownBy w' none) : Growing w' B l v := Growing.kept hg (fun k e => by cases e) h
theorem Growing.mono {w : World} {B B' : Nat} {l : List Gram.Exp} {v : Value} (h : Growing w B l v) (hB : B' ≤ B) : Growing w B' l v := by
 obtain ⟨xs, ho, hx⟩ := h
 exact ⟨xs, ho.mono hB, RepRow.mono hB hx⟩
theorem Growing.form {w : World} {B : Nat} {l : List Gram.Exp} {v : Value} (h : Growing w B l v) : ∃ a n c, v = .slice a n c := Kids.form h.kids
theorem growing_snoc {w w' : World} {B : Nat} {l : List Gram.Exp} {v v' k : Value} {x : Gram.Exp} {xs : List Value} (hg : w.grownBy w' v.ownBlock) (ho : w'.ownsRow B 37 9 v' (l.length + 1) (xs ++ expCells x k)) (hx : RepRow w B v.ownBlock.toList (expsD l).flatten xs)
  (hk : KidsX w B v.ownBlock.toList x.kids k) (hv : v'.ownBlock = v.ownBlock ∨ v'.ownBlock = some w.heap.size) : Growing w' B (l ++ [x]) v' := by
 have ha := hx.append (exp_row hk)
 refine ⟨_, by simpa using ho, ?_⟩
 have e : (expsD (l ++ [x])).flatten = (expsD l).flatten ++ expD x := by rw [expsD_append]; simp [expsD]
 rw [e]
 rcases hv with hv | hv
 ·rw [hv]; exact RepRow.keptX hg (fun k e => .inr (by rw [e]; simp)) ha
 ·rw [hv]; exact RepRow.keptN hg (fun k e => .inr (by rw [e]; simp)) _ (fun k e => by simp at e; omega) ha
theorem infoE : (Tryz.prog.info? 37).map (fun i => (i.zero, i.size, i.bytes)) = some (some (.agg #[.int .i64 0, .int .i64 0, .string ⟨#[]⟩, .int .i64 0, .int .i64 0, .int .i64 0, .int .i64 0, .slice none 0 0, .int .i64 0]), 9, 96) := by kernel_rfl
theorem len_ownE {w : World} {base : Nat} {v : Value} {n : Nat} {xs : List Value} (h : w.ownsRow base 37 9 v n xs) (ty : TypeId) (wx : World) :
  (Builtin.len_ #[35] ty #[v]).run Tryz.prog wx = .ok (.int .i64 (n : Int)) wx := by
 rcases h.2 with ⟨rfl, rfl⟩ | ⟨g, cap, cur, rfl, _⟩
 ·simp [Builtin.len_, run_underlying Tryz.underlying35, goInt, Result.andThen]
 ·simp [Builtin.len_, run_underlying Tryz.underlying35, goInt, Result.andThen]
theorem cell_row_new (w : World) (cs : List Value) (t : TypeId) : ∀ j u, cs[j]? = some u → (w.alloc (.cells cs.toArray t)).cell? ((⟨w.heap.size, 0, none⟩ : Addr).add j) = some u := by
 intro j u hj
 have h := cell_of_row (w.alloc (.cells cs.toArray t)) w.heap.size j cs.toArray t (0, 0) (heap_alloc_new w _)
 have e : (⟨w.heap.size, 0, none⟩ : Addr).add j = ⟨w.heap.size, j, none⟩ := by
  simp only [Addr.add, Nat.zero_add]
  split
  ·next hj => rw [hj]
  ·rfl
 rw [e, h]; simpa using hj
theorem exp_one (x : Gram.Exp) (a : Option Addr) (n c : Nat) : ∀ u ∈ expCells x (.slice a n c), u.oneCell' = true := by
 cases x
 intro u hu
 simp only [expCells, List.mem_cons, List.not_mem_nil, or_false] at hu
 rcases hu with rfl | rfl | rfl | rfl | rfl | rfl | rfl | rfl | rfl <;> rfl
section
variable (b g cap : Nat) (rv : Value) (T : List Lex.Tk)
end
end Go.Proofs.YtonafedbehnneaaGreat
