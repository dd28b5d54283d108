/- My texts RpQ RpR GtC GtD GtE GtF GtI RpS RpT, joined. -/
import Derived.Test.YtonafedbehnneaaGreatMhF
set_option linter.unusedVariables false
set_option linter.unusedSimpArgs false
set_option linter.unnecessarySimpa false
set_option linter.unusedSectionVars false
set_option maxHeartbeats 12800000
set_option maxRecDepth 20000
namespace Go.Proofs.YtonafedbehnneaaGreat
open Go.RowKit Go.Maps Go.WideMaps
theorem rcells_2 {w : World} {q : Nat} {ty : TypeId} {x0 x1 : Value} (h : w.heap[q]? = some (.cells #[x0, x1] ty (0, 0))) : w.cell? ⟨q, 0, none⟩ = some x0 ∧ w.cell? ⟨q, 1, none⟩ = some x1 ∧ ∀ j, w.frozen? ⟨q, j, none⟩ = false := by
 refine ⟨?_, ?_, fun j => frozen_of_row w q j _ _ h⟩
 all_goals (rw [cell_of_row w q _ _ _ _ h]; simp)
theorem rcells_6 {w : World} {q : Nat} {ty : TypeId} {x0 x1 x2 x3 x4 x5 : Value} (h : w.heap[q]? = some (.cells #[x0, x1, x2, x3, x4, x5] ty (0, 0))) : w.cell? ⟨q, 0, none⟩ = some x0 ∧ w.cell? ⟨q, 1, none⟩ = some x1 ∧ w.cell? ⟨q, 2, none⟩ = some x2 ∧ w.cell? ⟨q, 3, none⟩ = some x3 ∧ w.cell? ⟨q, 4, none⟩ = some x4 ∧ w.cell? ⟨q, 5, none⟩ = some x5 ∧ ∀ j, w.frozen? ⟨q, j, none⟩ = false := by
 refine ⟨?_, ?_, ?_, ?_, ?_, ?_, fun j => frozen_of_row w q j _ _ h⟩
 all_goals (rw [cell_of_row w q _ _ _ _ h]; simp)
theorem rcells_12 {w : World} {q : Nat} {ty : TypeId} {x0 x1 x2 x3 x4 x5 x6 x7 x8 x9 x10 x11 : Value} (h : w.heap[q]? = some (.cells #[x0, x1, x2, x3, x4, x5, x6, x7, x8, x9, x10, x11] ty (0, 0))) : w.cell? ⟨q, 0, none⟩ = some x0 ∧ w.cell? ⟨q, 1, none⟩ = some x1 ∧ w.cell? ⟨q, 2, none⟩ = some x2 ∧ w.cell? ⟨q, 3, none⟩ = some x3 ∧ w.cell? ⟨q, 4, none⟩ = some x4 ∧ w.cell? ⟨q, 5, none⟩ = some x5 ∧ w.cell? ⟨q, 6, none⟩ = some x6 ∧ w.cell? ⟨q, 7, none⟩ = some x7 ∧ w.cell? ⟨q, 8, none⟩ = some x8 ∧ w.cell? ⟨q, 9, none⟩ = some x9 ∧ w.cell? ⟨q, 10, none⟩ = some x10 ∧ w.cell? ⟨q, 11, none⟩ = some x11 ∧ ∀ j, w.frozen? ⟨q, j, none⟩ = false := by
 refine ⟨?_, ?_, ?_, ?_, ?_, ?_, ?_, ?_, ?_, ?_, ?_, ?_, fun j => frozen_of_row w q j _ _ h⟩
 all_goals (rw [cell_of_row w q _ _ _ _ h]; simp)
structure Sr (w0 w : World) (b g cap : Nat) (T : List Lex.Tk) (q : Nat) (s : Gram.Rf.St) (ty : TypeId) (ds : List D) (cs : List Value) : Prop where
 p0 : ∃ s0, Rp w0 b g cap T s0
 pa : Rp w b g cap T s
 gr : w0.grownBy w (some b)
 lo : w0.heap.size ≤ q
 row : w.heap[q]? = some (.cells cs.toArray ty (0, 0))
 rep : ∃ B, w0.heap.size ≤ B ∧ RepRow w B [q] ds cs
section
variable {w0 w w' : World} {b g cap : Nat} {T : List Lex.Tk} {q r : Nat} {s s' : Gram.Rf.St} {ty : TypeId} {ds : List D} {cs : List Value}
theorem Sr.bl (h : Sr w0 w b g cap T q s ty ds cs) : b < w0.heap.size := by
 obtain ⟨i0, h0⟩ := h.p0
 exact h0.bl
theorem Sr.ql (h : Sr w0 w b g cap T q s ty ds cs) : q < w.heap.size := (Array.getElem?_eq_some_iff.1 h.row).1
theorem Sr.ne (h : Sr w0 w b g cap T q s ty ds cs) : q ≠ b := by have := h.bl; have := h.lo; omega
theorem Sr.make (p0 : ∃ s0, Rp w0 b g cap T s0) (pa : Rp w b g cap T s) (gr : w0.grownBy w (some b)) (lo : w0.heap.size ≤ q) (row : w.heap[q]? = some (.cells cs.toArray ty (0, 0))) (rep : RepRow w (q + 1) [] ds cs) : Sr w0 w b g cap T q s ty ds cs :=
 ⟨p0, pa, gr, lo, row, q + 1, by omega, RepRow.toX [q] (fun k e => .inr (by simp at e; omega)) rep⟩
theorem Sr.on (h : Sr w0 w b g cap T q s ty ds cs) (hg : w.grownBy w' (some b)) (hp : Rp w' b g cap T s') : Sr w0 w' b g cap T q s' ty ds cs := by
 obtain ⟨B, hB, hr⟩ := h.rep
 exact ⟨h.p0, hp, h.gr.trans hg, h.lo, (hg.block q h.ql (by have := h.ne; simpa using this)).trans h.row, B, hB, RepRow.keptX hg (fun k e => by cases e; left; have := h.bl; omega) hr⟩
theorem Sr.kept0 (h : Sr w0 w b g cap T q s ty ds cs) (hg : w.grownBy w' none) : Sr w0 w' b g cap T q s ty ds cs := h.on (grown_some hg b) (h.pa.kept hg)
theorem Sr.setG (h : Sr w0 w b g cap T q s ty ds cs) (k : Nat) {B' : Nat} (hB' : w0.heap.size ≤ B') {u : Value} {d' : D} (hu : RepC w B' [q] d' u) : Sr w0 (w.setCell ⟨q, k, none⟩ u) b g cap T q s ty (ds.set k d') (cs.set k u) := by
 obtain ⟨i0, h0⟩ := h.p0
 obtain ⟨B, hB, hr⟩ := h.rep
 have hg : w.grownBy (w.setCell ⟨q, k, none⟩ u) (some q) := grown_set w ⟨q, k, none⟩ u
 have hG : w0.grownBy (w.setCell ⟨q, k, none⟩ u) (some b) := h.gr.andThen hg (fun j e => .inl (by cases e; exact h.lo))
 refine ⟨h.p0, h0.to hG (h.pa.st.kept hg (by have := h.ne; simp only [ne_eq, Option.some.injEq]; omega)) h.pa.lt, hG, h.lo, ?_, min B B', by omega, ?_⟩
 ·rw [heap_setCell_same w q k _ _ u h.row]; simp
 ·exact RepRow.keptX hg (fun k e => by cases e; right; simp) ((RepRow.mono (Nat.min_le_left _ _) hr).set k (RepC.mono (Nat.min_le_right _ _) hu))
theorem Sr.set (h : Sr w0 w b g cap T q s ty ds cs) (k : Nat) {u : Value} {d' : D} (hu : RepC w (q + 1) [] d' u) : Sr w0 (w.setCell ⟨q, k, none⟩ u) b g cap T q s ty (ds.set k d') (cs.set k u) :=
 h.setG k (B' := q + 1) (by have := h.lo; omega) (RepC.toX [q] (fun k e => .inr (by simp at e; omega)) hu)
theorem Sr.ends (h : Sr w0 w b g cap T q s ty ds cs) (hg : w.grownBy w' (some r)) (hr : r < w0.heap.size) (hrb : r ≠ b) : RepRow w' r [] ds cs ∧ Rst w' b (.slice (some ⟨g, 0, none⟩) T.length cap) s := by
 obtain ⟨B, hB, hr9⟩ := h.rep
 exact ⟨RepRow.noX (RepRow.mono (by omega) (RepRow.keptX hg (fun k e => by cases e; left; omega) hr9)), h.pa.st.kept hg (by simp; omega)⟩
end
def setR {α : Type} : List α → Nat → List α → List α
 | l, _, [] => l
 | l, o, u :: r => setR (l.set o u) (o + 1) r
theorem Sr.setMany {w0 : World} {b g cap : Nat} {T : List Lex.Tk} {q : Nat} {s : Gram.Rf.St} {ty : TypeId} : ∀ {us : List Value} {es : List D} (o : Nat) {w : World} {ds : List D} {cs : List Value}, Sr w0 w b g cap T q s ty ds cs → RepRow w (q + 1) [] es us → Sr w0 (w.setCells q o us) b g cap T q s ty (setR ds o es) (setR cs o us)
 | _, _, _, _, _, _, h, .nil => h
 | _, _, o, w, _, _, h, .cons (v := u) a t => Sr.setMany (o + 1) (h.set o a) (RepRow.keptX (grown_set w ⟨q, o, none⟩ u) (fun k e => by cases e; left; exact Nat.lt_succ_self q) t)
theorem Sr.exp0 {w0 w : World} {b g cap : Nat} {T : List Lex.Tk} {q : Nat} {s : Gram.Rf.St} {ty : TypeId} {d0 d1 d2 d3 d4 d5 d6 d7 d8 d9 d10 d11 : D} {x0 x1 x2 x3 x4 x5 x6 x7 x8 x9 x10 x11 : Value} {e0 e1 e2 e3 e4 e5 e6 e7 e8 : D} {y0 y1 y2 y3 y4 y5 y6 y7 y8 : Value} (h : Sr w0 w b g cap T q s ty [d0, d1, d2, d3, d4, d5, d6, d7, d8, d9, d10, d11] [x0, x1, x2, x3, x4, x5, x6, x7, x8, x9, x10, x11]) (he : RepRow w (q + 1) [] [e0, e1, e2, e3, e4, e5, e6, e7, e8] [y0, y1, y2, y3, y4, y5, y6, y7, y8]) :
  Sr w0 (((((((((w.setCell ⟨q, 0, none⟩ (y0)).setCell ⟨q, 1, none⟩ (y1)).setCell ⟨q, 2, none⟩ (y2)).setCell ⟨q, 3, none⟩ (y3)).setCell ⟨q, 4, none⟩ (y4)).setCell ⟨q, 5, none⟩ (y5)).setCell ⟨q, 6, none⟩ (y6)).setCell ⟨q, 7, none⟩ (y7)).setCell ⟨q, 8, none⟩ (y8)) b g cap T q s ty [e0, e1, e2, e3, e4, e5, e6, e7, e8, d9, d10, d11] [y0, y1, y2, y3, y4, y5, y6, y7, y8, x9, x10, x11] := by
 have h9 := h.setMany 0 he
 simp only [World.setCells, setR, List.set, Nat.reduceAdd] at h9
 exact h9
theorem Sr.exp1 {w0 w : World} {b g cap : Nat} {T : List Lex.Tk} {q : Nat} {s : Gram.Rf.St} {ty : TypeId} {d0 d1 d2 d3 d4 d5 d6 d7 d8 d9 d10 d11 : D} {x0 x1 x2 x3 x4 x5 x6 x7 x8 x9 x10 x11 : Value} {e0 e1 e2 e3 e4 e5 e6 e7 e8 : D} {y0 y1 y2 y3 y4 y5 y6 y7 y8 : Value} (h : Sr w0 w b g cap T q s ty [d0, d1, d2, d3, d4, d5, d6, d7, d8, d9, d10, d11] [x0, x1, x2, x3, x4, x5, x6, x7, x8, x9, x10, x11]) (he : RepRow w (q + 1) [] [e0, e1, e2, e3, e4, e5, e6, e7, e8] [y0, y1, y2, y3, y4, y5, y6, y7, y8]) :
  Sr w0 (((((((((w.setCell ⟨q, 1, none⟩ (y0)).setCell ⟨q, 2, none⟩ (y1)).setCell ⟨q, 3, none⟩ (y2)).setCell ⟨q, 4, none⟩ (y3)).setCell ⟨q, 5, none⟩ (y4)).setCell ⟨q, 6, none⟩ (y5)).setCell ⟨q, 7, none⟩ (y6)).setCell ⟨q, 8, none⟩ (y7)).setCell ⟨q, 9, none⟩ (y8)) b g cap T q s ty [d0, e0, e1, e2, e3, e4, e5, e6, e7, e8, d10, d11] [x0, y0, y1, y2, y3, y4, y5, y6, y7, y8, x10, x11] := by
 have h9 := h.setMany 1 he
 simp only [World.setCells, setR, List.set, Nat.reduceAdd] at h9
 exact h9
section
variable (b g cap : Nat) (T : List Lex.Tk)
theorem rtrans_any (x : ByteArray) (f : Nat) (s : Gram.Rf.St) (w : World) (h : Rp w b g cap T s) (hf : (Gram.Rf.transs T x.data.toList f [] s).isSome = true) :
  Calls Tryz.prog 91 #[.pointer (some ⟨b, 0, none⟩), .string x] w fun e w' => rlPost transD 139 12 w b g cap T (Gram.Rf.transs T x.data.toList f [] s) e w' := by
 obtain ⟨it, hit, hz, hsz, hby⟩ := infoP info_Trans
 have hbw := h.bl
 have hmost := h.toks.most
 have HH := ld h
 clear h
 go_enter Tryz.func91, Tryz.ntmps91
 go_wp2
 go_loopg [5] f (fun (f' : Nat) (s5 : Value) (wr : World) => ∃ (acc : List Gram.Trans) (s' : Gram.Rf.St), f' ≤ f ∧ acc.length ≤ 16 ∧ Hid (GrowD wr w.heap.size 139 12 (acc.map transD) s5 ∧ Rp wr b g cap T s' ∧ w.grownBy wr (some b) ∧ Gram.Rf.transs T x.data.toList f' acc s' = Gram.Rf.transs T x.data.toList f [] s))
 case atStart => exact ⟨[], s, Nat.le_refl _, by simp, ld ⟨GrowD.nil _ _ _ _, HH.out, World.grownBy.refl _ _, rfl⟩⟩
 case round =>
  obtain ⟨acc, s', hff, ha16, HG⟩ := hrel
  obtain ⟨hA, hP, hg, hL⟩ := HG.out
  clear HG
  rcases Nat.eq_zero_or_pos gk with hz0 | hz0
  ·rw [hz0] at hL; rw [← hL] at hf; exact absurd hf (by simp [Gram.Rf.transs])
  obtain ⟨f', hfe⟩ : ∃ f', gk = f' + 1 := ⟨gk - 1, by omega⟩
  subst hfe
  have hr : Gram.Rf.transs T x.data.toList f [] s = if Gram.Rf.is T x.data.toList s' then (if 16 ≤ acc.length then some (acc, Gram.Rf.fail T 2 s') else Gram.Rf.bindS (Gram.Rf.exp T f' (Gram.Rf.adv s')) fun c s => Gram.Rf.transs T x.data.toList f' (acc ++ [⟨c, (Gram.Rf.name T (if Gram.Rf.is T [99, 111, 110, 116, 105, 110, 117, 101] s then Gram.Rf.adv s else Gram.Rf.take T [116, 104, 101, 110] s)).1, Gram.Rf.is T [99, 111, 110, 116, 105, 110, 117, 101] s, ((Gram.tk T (s'.i + 1)).at_ : Int)⟩]) (Gram.Rf.take T [59] (Gram.Rf.name T (if Gram.Rf.is T [99, 111, 110, 116, 105, 110, 117, 101] s then Gram.Rf.adv s else Gram.Rf.take T [116, 104, 101, 110] s)).2)) else some (acc, s') := by rw [← hL]; conv => lhs; unfold Gram.Rf.transs
  rw [hr] at hf
  have HR := ld hr
  clear hr hL
  obtain ⟨xs, hown, hrow⟩ := hA
  rw [List.length_map] at hown
  have hlf := fun ty wx => len_Trans hown ty wx
  have HA := ld (show GrowD wr w.heap.size 139 12 (acc.map transD) u5 from ⟨xs, by rw [List.length_map]; exact hown, hrow⟩)
  clear hown hrow
  have hS := ris_any b g cap T s' x wr hP
  cases hq : Gram.Rf.is T x.data.toList s' with
  | false =>
   rw [hq] at hS
   clear hf
   go_wp2_with (go_at_call 46; refine hS.mono ?_; rintro e w1 ⟨rfl, hg1⟩)
   go_ret
   rw [HR.out, if_neg (by rw [hq]; decide)]
   exact ⟨_, rfl, HA.out.kept0 hg1, hP.kept hg1, hg.trans (grown_some hg1 b)⟩
  | true =>
   rw [hq] at hS
   rw [hq, if_pos rfl] at hf
   by_cases hm : 16 ≤ acc.length
   ·have hrm := fun wx (hx : Rp wx b g cap T s') => rfull_yes b g cap T s' (acc.length : Int) 16 (by omega) wx hx
    clear hf
    go_wp2_with (first | (go_at_call 46; refine hS.mono ?_; rintro e w1 ⟨rfl, hg1⟩) | (go_at_call 48; refine (hrm _ (hP.kept hg1)).mono ?_; rintro e w2 ⟨rfl, hP2, hg2⟩))
    go_ret
    rw [HR.out, hq, if_pos rfl, if_pos hm]
    exact ⟨_, rfl, (HA.out.kept0 hg1).keptB hg2 hbw, hP2, (hg.trans (grown_some hg1 b)).trans hg2⟩
   rw [if_neg hm] at hf
   have hrm := fun wx => rfull_no b (acc.length : Int) 16 (by omega) wx
   have HM := ld hm
   clear hm
   have hi := hP.nextIs hq
   cases hex : Gram.Rf.exp T f' (Gram.Rf.adv s') with
   | none => rw [hex] at hf; cases hf
   | some r =>
   obtain ⟨c, s2⟩ := r
   cases c with
   | mk f1 s1 nm1 tk1 tl1 n1 m1 ks1 a1 =>
   have HE : Hid (Gram.Rf.transs T x.data.toList f [] s = Gram.Rf.transs T x.data.toList f' (acc ++ [⟨(.mk f1 s1 nm1 tk1 tl1 n1 m1 ks1 a1), (Gram.Rf.name T (if Gram.Rf.is T [99, 111, 110, 116, 105, 110, 117, 101] s2 then Gram.Rf.adv s2 else Gram.Rf.take T [116, 104, 101, 110] s2)).1, Gram.Rf.is T [99, 111, 110, 116, 105, 110, 117, 101] s2, ((Gram.tk T (s'.i + 1)).at_ : Int)⟩]) (Gram.Rf.take T [59] (Gram.Rf.name T (if Gram.Rf.is T [99, 111, 110, 116, 105, 110, 117, 101] s2 then Gram.Rf.adv s2 else Gram.Rf.take T [116, 104, 101, 110] s2)).2)) := by show _ = _; rw [HR.out, hq, if_pos rfl, if_neg HM.out, hex]; rfl
   clear HR hf
   go_wp2_with (go_at_call 46; refine hS.mono ?_; rintro e w1 ⟨rfl, hg1⟩; refine Hid.out ?_)
   have q1 := (hP.kept hg1).st.c1
   have fr1 := (hP.kept hg1).st.fr 1
   obtain ⟨hP2, hg2⟩ := radv_w (hP.kept hg1) hi
   have hT := rtok_any b g cap T (Gram.Rf.adv s') _ hP2
   have hg12 : wr.grownBy _ (some b) := (grown_some hg1 b).trans hg2
   rw [show (Gram.Rf.adv s').i = s'.i + 1 from rfl] at hT
   generalize Gram.tk T (s'.i + 1) = y at hT HE
   obtain ⟨yk, yt, yn, yu, ya⟩ := y
   have hfd := fldAt ⟨yk, yt, yn, yu, ya⟩
   simp only [tokV] at hT hfd
   have HP2 := ld (And.intro hP2 hg12)
   clear hP2 hg2 hg12 hS
   refine ld ?_
   go_wp2_with (first | (go_at_call 48; refine (hrm _).mono ?_; rintro e w8 ⟨rfl, hw8⟩; rw [hw8]; clear hw8) | (go_at_call 45; refine hT.mono ?_; rintro e w3 ⟨rfl, hg3⟩; refine Hid.out ?_))
   have hg03 : wr.grownBy w3 (some b) := HP2.out.2.trans (grown_some hg3 b)
   have hs3 := hg03.size
   have hS1 : Sr wr (w3.alloc (.cells #[.int .i64 0, .int .i64 0, .string ⟨#[]⟩, .int .i64 0, .int .i64 0, .int .i64 0, .int .i64 0, .slice none 0 0, .int .i64 0, .string ⟨#[]⟩, .bool false, .int .i64 (ya : Int)] 139)) b g cap T w3.heap.size (Gram.Rf.adv s') 139 [.c (.int .i64 0), .c (.int .i64 0), .c (.string ⟨#[]⟩), .c (.int .i64 0), .c (.int .i64 0), .c (.int .i64 0), .c (.int .i64 0), .l 37 9 [], .c (.int .i64 0), .c (.string ⟨#[]⟩), .c (.bool false), .c (.int .i64 (ya : Int))] [.int .i64 0, .int .i64 0, .string ⟨#[]⟩, .int .i64 0, .int .i64 0, .int .i64 0, .int .i64 0, .slice none 0 0, .int .i64 0, .string ⟨#[]⟩, .bool false, .int .i64 (ya : Int)] :=
    Sr.make ⟨s', hP⟩ ((HP2.out.1.kept hg3).alloc _) (galloc hg03 _) hs3 (heap_alloc_new w3 _) (.cons (.c _) (.cons (.c _) (.cons (.c _) (.cons (.c _) (.cons (.c _) (.cons (.c _) (.cons (.c _) (.cons (RepC.nil _ _ _ _ _) (.cons (.c _) (.cons (.c _) (.cons (.c _) (.cons (.c _) .nil))))))))))))
   clear hT hg3 HP2 q1 fr1
   have hc := rexp_any b g cap T f' (Gram.Rf.adv s') _ hS1.pa (by rw [hex]; rfl)
   simp only [hex, rePost, expV] at hc
   have HS1 := ld hS1
   clear hS1 hex
   refine ld ?_
   go_wp2_with (go_at_call 88; refine hc.mono ?_; rintro e w5 ⟨k5, rfl, hk5, hP5, hg5⟩; obtain ⟨ka, kn, kc, rfl⟩ := hk5.form; refine Hid.out ?_)
   have hS5 := HS1.out.on hg5 hP5
   have hql4 := HS1.out.ql
   obtain ⟨z0, z1, z2, z3, z4, z5, z6, z7, z8, z9, z10, z11, zf⟩ := rcells_12 (show w5.heap[w3.heap.size]? = some (.cells #[.int .i64 0, .int .i64 0, .string ⟨#[]⟩, .int .i64 0, .int .i64 0, .int .i64 0, .int .i64 0, .slice none 0 0, .int .i64 0, .string ⟨#[]⟩, .bool false, .int .i64 (ya : Int)] 139 (0, 0)) from hS5.row)
   have he5 : RepRow w5 (w3.heap.size + 1) [] [.c (.int .i64 f1), .c (.int .i64 s1), .c (.string ⟨nm1.toArray⟩), .c (.int .i64 tk1), .c (.int .i64 tl1), .c (.int .i64 n1), .c (.int .i64 m1), .l 37 9 (expsD ks1), .c (.int .i64 a1)] [.int .i64 f1, .int .i64 s1, .string ⟨nm1.toArray⟩, .int .i64 tk1, .int .i64 tl1, .int .i64 n1, .int .i64 m1, .slice ka kn kc, .int .i64 a1] := by
    have h9 := exp_row (x := (.mk f1 s1 nm1 tk1 tl1 n1 m1 ks1 a1)) (E := []) (hk5.mono (Nat.succ_le_of_lt hql4))
    simpa only [expD, expCells] using h9
   have hS6 : Sr wr (((((((((w5.setCell ⟨w3.heap.size, 0, none⟩ (.int .i64 f1)).setCell ⟨w3.heap.size, 1, none⟩ (.int .i64 s1)).setCell ⟨w3.heap.size, 2, none⟩ (.string ⟨nm1.toArray⟩)).setCell ⟨w3.heap.size, 3, none⟩ (.int .i64 tk1)).setCell ⟨w3.heap.size, 4, none⟩ (.int .i64 tl1)).setCell ⟨w3.heap.size, 5, none⟩ (.int .i64 n1)).setCell ⟨w3.heap.size, 6, none⟩ (.int .i64 m1)).setCell ⟨w3.heap.size, 7, none⟩ (.slice ka kn kc)).setCell ⟨w3.heap.size, 8, none⟩ (.int .i64 a1)) b g cap T w3.heap.size s2 139 [.c (.int .i64 f1), .c (.int .i64 s1), .c (.string ⟨nm1.toArray⟩), .c (.int .i64 tk1), .c (.int .i64 tl1), .c (.int .i64 n1), .c (.int .i64 m1), .l 37 9 (expsD ks1), .c (.int .i64 a1), .c (.string ⟨#[]⟩), .c (.bool false), .c (.int .i64 (ya : Int))] [.int .i64 f1, .int .i64 s1, .string ⟨nm1.toArray⟩, .int .i64 tk1, .int .i64 tl1, .int .i64 n1, .int .i64 m1, .slice ka kn kc, .int .i64 a1, .string ⟨#[]⟩, .bool false, .int .i64 (ya : Int)] := hS5.exp0 he5
   have hMb := rmaybe_any b g cap T s2 ⟨#[99, 111, 110, 116, 105, 110, 117, 101]⟩ _ hS6.pa
   unfold Gram.Rf.maybe at hMb
   rw [show ((⟨#[99, 111, 110, 116, 105, 110, 117, 101]⟩ : ByteArray)).data.toList = [99, 111, 110, 116, 105, 110, 117, 101] from rfl] at hMb
   have HS6 := ld hS6
   clear hS6 hS5 he5 hc hk5 hP5 hg5
   cases hc : Gram.Rf.is T [99, 111, 110, 116, 105, 110, 117, 101] s2 with
   | true =>
    rw [hc] at hMb HE
    rw [if_pos rfl] at hMb
    rw [if_pos rfl] at HE
    refine ld ?_
    go_wp2_with (go_at_call 67; refine hMb.mono ?_; rintro e w6 ⟨rfl, hP6, hg6⟩; refine Hid.out ?_)
    have hS7 := HS6.out.on hg6 hP6
    clear z0 z1 z2 z3 z4 z5 z6 z7 z8 z9 z10 z11 zf
    obtain ⟨z0, z1, z2, z3, z4, z5, z6, z7, z8, z9, z10, z11, zf⟩ := rcells_12 (show w6.heap[w3.heap.size]? = some (.cells #[.int .i64 f1, .int .i64 s1, .string ⟨nm1.toArray⟩, .int .i64 tk1, .int .i64 tl1, .int .i64 n1, .int .i64 m1, .slice ka kn kc, .int .i64 a1, .string ⟨#[]⟩, .bool false, .int .i64 (ya : Int)] 139 (0, 0)) from hS7.row)
    have hS8 : Sr wr (w6.setCell ⟨w3.heap.size, 10, none⟩ (.bool true)) b g cap T w3.heap.size (Gram.Rf.adv s2) 139 [.c (.int .i64 f1), .c (.int .i64 s1), .c (.string ⟨nm1.toArray⟩), .c (.int .i64 tk1), .c (.int .i64 tl1), .c (.int .i64 n1), .c (.int .i64 m1), .l 37 9 (expsD ks1), .c (.int .i64 a1), .c (.string ⟨#[]⟩), .c (.bool true), .c (.int .i64 (ya : Int))] [.int .i64 f1, .int .i64 s1, .string ⟨nm1.toArray⟩, .int .i64 tk1, .int .i64 tl1, .int .i64 n1, .int .i64 m1, .slice ka kn kc, .int .i64 a1, .string ⟨#[]⟩, .bool true, .int .i64 (ya : Int)] := hS7.set 10 (.c _)
    have HS9 := ld hS8
    have hN := rname_any b g cap T (Gram.Rf.adv s2) _ hS8.pa
    generalize Gram.Rf.name T (Gram.Rf.adv s2) = rr at hN HE
    clear hS8 hS7 hMb hP6 hg6
    obtain ⟨nx, s4⟩ := rr
    simp only at hN
    refine ld ?_
    go_wp2_with (go_at_call 65; refine hN.mono ?_; rintro e wa ⟨rfl, hPa, hga⟩; refine Hid.out ?_)
    have hSa := HS9.out.on hga hPa
    clear z0 z1 z2 z3 z4 z5 z6 z7 z8 z9 z10 z11 zf
    obtain ⟨z0, z1, z2, z3, z4, z5, z6, z7, z8, z9, z10, z11, zf⟩ := rcells_12 (show wa.heap[w3.heap.size]? = some (.cells #[.int .i64 f1, .int .i64 s1, .string ⟨nm1.toArray⟩, .int .i64 tk1, .int .i64 tl1, .int .i64 n1, .int .i64 m1, .slice ka kn kc, .int .i64 a1, .string ⟨#[]⟩, .bool true, .int .i64 (ya : Int)] 139 (0, 0)) from hSa.row)
    have hSb : Sr wr (wa.setCell ⟨w3.heap.size, 9, none⟩ (.string ⟨nx.toArray⟩)) b g cap T w3.heap.size s4 139 [.c (.int .i64 f1), .c (.int .i64 s1), .c (.string ⟨nm1.toArray⟩), .c (.int .i64 tk1), .c (.int .i64 tl1), .c (.int .i64 n1), .c (.int .i64 m1), .l 37 9 (expsD ks1), .c (.int .i64 a1), .c (.string ⟨nx.toArray⟩), .c (.bool true), .c (.int .i64 (ya : Int))] [.int .i64 f1, .int .i64 s1, .string ⟨nm1.toArray⟩, .int .i64 tk1, .int .i64 tl1, .int .i64 n1, .int .i64 m1, .slice ka kn kc, .int .i64 a1, .string ⟨nx.toArray⟩, .bool true, .int .i64 (ya : Int)] := hSa.set 9 (.c _)
    have hTk := rtake_any b g cap T s4 ⟨#[59]⟩ _ hSb.pa
    rw [show ((⟨#[59]⟩ : ByteArray)).data.toList = [59] from rfl] at hTk
    have HSb := ld hSb
    clear hSb hSa hN hPa hga HS9
    refine ld ?_
    go_wp2_with (go_at_call 64; refine hTk.mono ?_; rintro e wc ⟨rfl, hPc, hgc⟩; refine Hid.out ?_)
    have hSc := HSb.out.on hgc hPc
    clear z0 z1 z2 z3 z4 z5 z6 z7 z8 z9 z10 z11 zf hTk HSb
    obtain ⟨z0, z1, z2, z3, z4, z5, z6, z7, z8, z9, z10, z11, zf⟩ := rcells_12 (show wc.heap[w3.heap.size]? = some (.cells #[.int .i64 f1, .int .i64 s1, .string ⟨nm1.toArray⟩, .int .i64 tk1, .int .i64 tl1, .int .i64 n1, .int .i64 m1, .slice ka kn kc, .int .i64 a1, .string ⟨nx.toArray⟩, .bool true, .int .i64 (ya : Int)] 139 (0, 0)) from hSc.row)
    obtain ⟨xs2, ho2, hr2⟩ := GrowD.keptB HA.out hSc.gr hbw
    rw [List.length_map] at ho2
    have hl16 := HM.out
    have hszw := hg.size
    have hszA := hSc.gr.size
    obtain ⟨Bc, hBc, hrc⟩ := hSc.rep
    have hgA := hSc.gr
    have HPc := ld hPc
    clear hSc hPc hgc
    refine ld ?_
    go_wp2_with (at_builtin; refine wpList_append_own_at _ rfl _ _ 117 rfl w.heap.size 139 it _ 12 128 Tryz.underlying117 hit hz hsz hby rfl (by decide) _ acc.length xs2 rfl (ho2.alloc _) ⟨wc.heap.size, 0, none⟩ 1 1 [.int .i64 f1, .int .i64 s1, .string ⟨nm1.toArray⟩, .int .i64 tk1, .int .i64 tl1, .int .i64 n1, .int .i64 m1, .slice ka kn kc, .int .i64 a1, .string ⟨nx.toArray⟩, .bool true, .int .i64 (ya : Int)] rfl rfl (cell_row_new wc [.int .i64 f1, .int .i64 s1, .string ⟨nm1.toArray⟩, .int .i64 tk1, .int .i64 tl1, .int .i64 n1, .int .i64 m1, .slice ka kn kc, .int .i64 a1, .string ⟨nx.toArray⟩, .bool true, .int .i64 (ya : Int)] 139) (by simp [Value.oneCell']) ?_ ?_ ?_ ?_)
    ·unfold maxLen; omega
    ·omega
    ·simp only [World.size_alloc]; omega
    intro v' wd hown' hgrow3 _ hvb
    have hrx : RepRow wc w.heap.size u5.ownBlock.toList (transD ⟨(.mk f1 s1 nm1 tk1 tl1 n1 m1 ks1 a1), nx, true, (ya : Int)⟩) [.int .i64 f1, .int .i64 s1, .string ⟨nm1.toArray⟩, .int .i64 tk1, .int .i64 tl1, .int .i64 n1, .int .i64 m1, .slice ka kn kc, .int .i64 a1, .string ⟨nx.toArray⟩, .bool true, .int .i64 (ya : Int)] := RepRow.mono (by omega) (RepRow.toX u5.ownBlock.toList (fun k e => .inr (by have := HA.out.lt k e; omega)) (RepRow.noX hrc))
    have hG3 : GrowD wd w.heap.size 139 12 (acc.map transD ++ [transD ⟨(.mk f1 s1 nm1 tk1 tl1 n1 m1 ks1 a1), nx, true, (ya : Int)⟩]) v' := growD_snoc hgrow3 (by rw [List.length_map]; exact hown') (RepRow.keptX (ga wc _ none) (fun k e => by cases e) hr2) (RepRow.keptX (ga wc _ none) (fun k e => by cases e) hrx) (by rw [World.size_alloc]; exact hvb)
    have hg3 : w.grownBy wd (some b) := (galloc (hg.trans hgA) _).andThen hgrow3 (fun j e => .inl (ho2.lt j e).1)
    have hP3 : Rp wd b g cap T (Gram.Rf.take T [59] s4) := HH.out.to hg3 ((HPc.out.st.kept (ga wc _ none) (by simp)).kept hgrow3 (by intro e; have := ho2.lt b (by first | exact e | exact e.symm); omega)) HPc.out.lt
    have HG3 := ld hG3
    clear hG3 hown' hvb
    go_wp2
    go_roundg f'
    case measure => exact Nat.lt_succ_self _
    case rel => exact ⟨acc ++ [⟨(.mk f1 s1 nm1 tk1 tl1 n1 m1 ks1 a1), nx, true, (ya : Int)⟩], Gram.Rf.take T [59] s4, by omega, by simp; omega, ld ⟨by rw [List.map_append]; exact HG3.out, hP3, hg3, HE.out.symm⟩⟩
   | false =>
    rw [hc] at hMb HE
    rw [if_neg (by decide)] at hMb
    rw [if_neg (by decide)] at HE
    refine ld ?_
    go_wp2_with (go_at_call 67; refine hMb.mono ?_; rintro e w6 ⟨rfl, hP6, hg6⟩; refine Hid.out ?_)
    have hS7 := HS6.out.on hg6 hP6
    clear z0 z1 z2 z3 z4 z5 z6 z7 z8 z9 z10 z11 zf
    obtain ⟨z0, z1, z2, z3, z4, z5, z6, z7, z8, z9, z10, z11, zf⟩ := rcells_12 (show w6.heap[w3.heap.size]? = some (.cells #[.int .i64 f1, .int .i64 s1, .string ⟨nm1.toArray⟩, .int .i64 tk1, .int .i64 tl1, .int .i64 n1, .int .i64 m1, .slice ka kn kc, .int .i64 a1, .string ⟨#[]⟩, .bool false, .int .i64 (ya : Int)] 139 (0, 0)) from hS7.row)
    have hS8 : Sr wr (w6.setCell ⟨w3.heap.size, 10, none⟩ (.bool false)) b g cap T w3.heap.size s2 139 [.c (.int .i64 f1), .c (.int .i64 s1), .c (.string ⟨nm1.toArray⟩), .c (.int .i64 tk1), .c (.int .i64 tl1), .c (.int .i64 n1), .c (.int .i64 m1), .l 37 9 (expsD ks1), .c (.int .i64 a1), .c (.string ⟨#[]⟩), .c (.bool false), .c (.int .i64 (ya : Int))] [.int .i64 f1, .int .i64 s1, .string ⟨nm1.toArray⟩, .int .i64 tk1, .int .i64 tl1, .int .i64 n1, .int .i64 m1, .slice ka kn kc, .int .i64 a1, .string ⟨#[]⟩, .bool false, .int .i64 (ya : Int)] := hS7.set 10 (.c _)
    have hTk := rtake_any b g cap T s2 ⟨#[116, 104, 101, 110]⟩ _ hS8.pa
    rw [show ((⟨#[116, 104, 101, 110]⟩ : ByteArray)).data.toList = [116, 104, 101, 110] from rfl] at hTk
    have HS8 := ld hS8
    clear hS8 hS7 hMb hP6 hg6
    refine ld ?_
    go_wp2_with (go_at_call 64; refine hTk.mono ?_; rintro e w7 ⟨rfl, hP7, hg7⟩; refine Hid.out ?_)
    have hS9 := HS8.out.on hg7 hP7
    clear z0 z1 z2 z3 z4 z5 z6 z7 z8 z9 z10 z11 zf
    obtain ⟨z0, z1, z2, z3, z4, z5, z6, z7, z8, z9, z10, z11, zf⟩ := rcells_12 (show w7.heap[w3.heap.size]? = some (.cells #[.int .i64 f1, .int .i64 s1, .string ⟨nm1.toArray⟩, .int .i64 tk1, .int .i64 tl1, .int .i64 n1, .int .i64 m1, .slice ka kn kc, .int .i64 a1, .string ⟨#[]⟩, .bool false, .int .i64 (ya : Int)] 139 (0, 0)) from hS9.row)
    have HS9 := ld hS9
    have hN := rname_any b g cap T (Gram.Rf.take T [116, 104, 101, 110] s2) _ hS9.pa
    generalize Gram.Rf.name T (Gram.Rf.take T [116, 104, 101, 110] s2) = rr at hN HE
    clear hS9 hTk hP7 hg7 HS8
    obtain ⟨nx, s4⟩ := rr
    simp only at hN
    refine ld ?_
    go_wp2_with (go_at_call 65; refine hN.mono ?_; rintro e wa ⟨rfl, hPa, hga⟩; refine Hid.out ?_)
    have hSa := HS9.out.on hga hPa
    clear z0 z1 z2 z3 z4 z5 z6 z7 z8 z9 z10 z11 zf
    obtain ⟨z0, z1, z2, z3, z4, z5, z6, z7, z8, z9, z10, z11, zf⟩ := rcells_12 (show wa.heap[w3.heap.size]? = some (.cells #[.int .i64 f1, .int .i64 s1, .string ⟨nm1.toArray⟩, .int .i64 tk1, .int .i64 tl1, .int .i64 n1, .int .i64 m1, .slice ka kn kc, .int .i64 a1, .string ⟨#[]⟩, .bool false, .int .i64 (ya : Int)] 139 (0, 0)) from hSa.row)
    have hSb : Sr wr (wa.setCell ⟨w3.heap.size, 9, none⟩ (.string ⟨nx.toArray⟩)) b g cap T w3.heap.size s4 139 [.c (.int .i64 f1), .c (.int .i64 s1), .c (.string ⟨nm1.toArray⟩), .c (.int .i64 tk1), .c (.int .i64 tl1), .c (.int .i64 n1), .c (.int .i64 m1), .l 37 9 (expsD ks1), .c (.int .i64 a1), .c (.string ⟨nx.toArray⟩), .c (.bool false), .c (.int .i64 (ya : Int))] [.int .i64 f1, .int .i64 s1, .string ⟨nm1.toArray⟩, .int .i64 tk1, .int .i64 tl1, .int .i64 n1, .int .i64 m1, .slice ka kn kc, .int .i64 a1, .string ⟨nx.toArray⟩, .bool false, .int .i64 (ya : Int)] := hSa.set 9 (.c _)
    have hTk := rtake_any b g cap T s4 ⟨#[59]⟩ _ hSb.pa
    rw [show ((⟨#[59]⟩ : ByteArray)).data.toList = [59] from rfl] at hTk
    have HSb := ld hSb
    clear hSb hSa hN hPa hga HS9
    refine ld ?_
    go_wp2_with (go_at_call 64; refine hTk.mono ?_; rintro e wc ⟨rfl, hPc, hgc⟩; refine Hid.out ?_)
    have hSc := HSb.out.on hgc hPc
    clear z0 z1 z2 z3 z4 z5 z6 z7 z8 z9 z10 z11 zf hTk HSb
    obtain ⟨z0, z1, z2, z3, z4, z5, z6, z7, z8, z9, z10, z11, zf⟩ := rcells_12 (show wc.heap[w3.heap.size]? = some (.cells #[.int .i64 f1, .int .i64 s1, .string ⟨nm1.toArray⟩, .int .i64 tk1, .int .i64 tl1, .int .i64 n1, .int .i64 m1, .slice ka kn kc, .int .i64 a1, .string ⟨nx.toArray⟩, .bool false, .int .i64 (ya : Int)] 139 (0, 0)) from hSc.row)
    obtain ⟨xs2, ho2, hr2⟩ := GrowD.keptB HA.out hSc.gr hbw
    rw [List.length_map] at ho2
    have hl16 := HM.out
    have hszw := hg.size
    have hszA := hSc.gr.size
    obtain ⟨Bc, hBc, hrc⟩ := hSc.rep
    have hgA := hSc.gr
    have HPc := ld hPc
    clear hSc hPc hgc
    refine ld ?_
    go_wp2_with (at_builtin; refine wpList_append_own_at _ rfl _ _ 117 rfl w.heap.size 139 it _ 12 128 Tryz.underlying117 hit hz hsz hby rfl (by decide) _ acc.length xs2 rfl (ho2.alloc _) ⟨wc.heap.size, 0, none⟩ 1 1 [.int .i64 f1, .int .i64 s1, .string ⟨nm1.toArray⟩, .int .i64 tk1, .int .i64 tl1, .int .i64 n1, .int .i64 m1, .slice ka kn kc, .int .i64 a1, .string ⟨nx.toArray⟩, .bool false, .int .i64 (ya : Int)] rfl rfl (cell_row_new wc [.int .i64 f1, .int .i64 s1, .string ⟨nm1.toArray⟩, .int .i64 tk1, .int .i64 tl1, .int .i64 n1, .int .i64 m1, .slice ka kn kc, .int .i64 a1, .string ⟨nx.toArray⟩, .bool false, .int .i64 (ya : Int)] 139) (by simp [Value.oneCell']) ?_ ?_ ?_ ?_)
    ·unfold maxLen; omega
    ·omega
    ·simp only [World.size_alloc]; omega
    intro v' wd hown' hgrow3 _ hvb
    have hrx : RepRow wc w.heap.size u5.ownBlock.toList (transD ⟨(.mk f1 s1 nm1 tk1 tl1 n1 m1 ks1 a1), nx, false, (ya : Int)⟩) [.int .i64 f1, .int .i64 s1, .string ⟨nm1.toArray⟩, .int .i64 tk1, .int .i64 tl1, .int .i64 n1, .int .i64 m1, .slice ka kn kc, .int .i64 a1, .string ⟨nx.toArray⟩, .bool false, .int .i64 (ya : Int)] := RepRow.mono (by omega) (RepRow.toX u5.ownBlock.toList (fun k e => .inr (by have := HA.out.lt k e; omega)) (RepRow.noX hrc))
    have hG3 : GrowD wd w.heap.size 139 12 (acc.map transD ++ [transD ⟨(.mk f1 s1 nm1 tk1 tl1 n1 m1 ks1 a1), nx, false, (ya : Int)⟩]) v' := growD_snoc hgrow3 (by rw [List.length_map]; exact hown') (RepRow.keptX (ga wc _ none) (fun k e => by cases e) hr2) (RepRow.keptX (ga wc _ none) (fun k e => by cases e) hrx) (by rw [World.size_alloc]; exact hvb)
    have hg3 : w.grownBy wd (some b) := (galloc (hg.trans hgA) _).andThen hgrow3 (fun j e => .inl (ho2.lt j e).1)
    have hP3 : Rp wd b g cap T (Gram.Rf.take T [59] s4) := HH.out.to hg3 ((HPc.out.st.kept (ga wc _ none) (by simp)).kept hgrow3 (by intro e; have := ho2.lt b (by first | exact e | exact e.symm); omega)) HPc.out.lt
    have HG3 := ld hG3
    clear hG3 hown' hvb
    go_wp2
    go_roundg f'
    case measure => exact Nat.lt_succ_self _
    case rel => exact ⟨acc ++ [⟨(.mk f1 s1 nm1 tk1 tl1 n1 m1 ks1 a1), nx, false, (ya : Int)⟩], Gram.Rf.take T [59] s4, by omega, by simp; omega, ld ⟨by rw [List.map_append]; exact HG3.out, hP3, hg3, HE.out.symm⟩⟩
end
open Go.RowKit Go.Maps Go.WideMaps
def rsta0 : Obj := .cells #[.string ⟨#[]⟩, .slice none 0 0, .slice none 0 0, .slice none 0 0, .slice none 0 0, .int .i64 0] 119
section
variable (b g cap : Nat) (T : List Lex.Tk)
def CLoc (f : Nat) : Prop := ∀ (s : Gram.Rf.St) (w : World), Rp w b g cap T s → (Gram.Rf.localsL T f [] s).isSome = true → Calls Tryz.prog 68 #[.pointer (some ⟨b, 0, none⟩)] w fun e w' => rlPost varD 112 5 w b g cap T (Gram.Rf.localsL T f [] s) e w'
def CSt (f : Nat) : Prop := ∀ (s : Gram.Rf.St) (w : World), Rp w b g cap T s → (Gram.Rf.state T f s).isSome = true → Calls Tryz.prog 87 #[.pointer (some ⟨b, 0, none⟩)] w fun e w' => r1Post stateD w b g cap T (Gram.Rf.state T f s) e w'
theorem rstate_step (f : Nat) (hL : CLoc b g cap T f) (hC : ∀ f', f' < f → CIm b g cap T f') : CSt b g cap T (f + 1) := by
 intro s w h hf
 have hbw := h.bl
 have hP0 := h.alloc rsta0
 obtain ⟨R, hR⟩ : ∃ R, R = Gram.Rf.state T (f + 1) s := ⟨_, rfl⟩
 rw [← hR] at hf ⊢
 rw [Gram.Rf.state] at hR
 have hT := rtok_any b g cap T s _ hP0
 generalize Gram.tk T s.i = y at hT hR
 obtain ⟨yk, yt, yn, yu, ya⟩ := y
 have hfd := fldAt ⟨yk, yt, yn, yu, ya⟩
 simp only [tokV] at hT hfd
 have HH := ld h
 have HR := ld hR
 clear h hR
 go_enter Tryz.func87, Tryz.ntmps87
 go_wp2_with (go_at_call 45; refine hT.mono ?_; rintro e w1 ⟨rfl, hg1⟩; refine Hid.out ?_)
 have hs1 := hg1.size
 have hS0 : Sr (w.alloc rsta0) (w1.alloc (.cells #[.string ⟨#[]⟩, .slice none 0 0, .slice none 0 0, .slice none 0 0, .slice none 0 0, .int .i64 (ya : Int)] 119)) b g cap T w1.heap.size s 119 [.c (.string ⟨#[]⟩), .l 139 12 [], .l 139 12 [], .l 112 5 [], .l 40 12 [], .c (.int .i64 (ya : Int))] [.string ⟨#[]⟩, .slice none 0 0, .slice none 0 0, .slice none 0 0, .slice none 0 0, .int .i64 (ya : Int)] :=
  Sr.make ⟨s, hP0⟩ ((hP0.kept hg1).alloc _) (galloc (grown_some hg1 b) _) hs1 (heap_alloc_new w1 _) (.cons (.c _) (.cons (RepC.nil _ _ _ _ _) (.cons (RepC.nil _ _ _ _ _) (.cons (RepC.nil _ _ _ _ _) (.cons (RepC.nil _ _ _ _ _) (.cons (.c _) .nil))))))
 rw [World.size_alloc] at hs1
 clear hT hg1
 have hK := rtake_any b g cap T s ⟨#[115, 116, 97, 116, 101]⟩ _ hS0.pa
 rw [show ((⟨#[115, 116, 97, 116, 101]⟩ : ByteArray)).data.toList = [115, 116, 97, 116, 101] from rfl] at hK
 have HS := ld hS0
 clear hS0
 refine ld ?_
 go_wp2_with (go_at_call 64; refine hK.mono ?_; rintro e x0 ⟨rfl, hPx, hgx⟩; refine Hid.out ?_)
 have hS1 := HS.out.on hgx hPx
 clear HS hK hPx hgx
 (try clear z0 z1 z2 z3 z4 z5 zf)
 obtain ⟨z0, z1, z2, z3, z4, z5, zf⟩ := rcells_6 (show x0.heap[w1.heap.size]? = some (.cells #[.string ⟨#[]⟩, .slice none 0 0, .slice none 0 0, .slice none 0 0, .slice none 0 0, .int .i64 (ya : Int)] 119 (0, 0)) from hS1.row)
 have hN := rname_any b g cap T (Gram.Rf.take T [115, 116, 97, 116, 101] s) _ hS1.pa
 generalize hrr : Gram.Rf.name T (Gram.Rf.take T [115, 116, 97, 116, 101] s) = rr at hN
 obtain ⟨nx, t0⟩ := rr
 have HT1 : Hid (R = Gram.Rf.bindS (Gram.Rf.transs T [117, 110, 108, 101, 115, 115] f [] t0) fun us s1 => Gram.Rf.bindS (if Gram.Rf.is T [118, 97, 114] s1 then Gram.Rf.localsL T f [] (Gram.Rf.adv s1) else some ([], s1)) fun ls s1 => Gram.Rf.bindS (Gram.Rf.items T f [] (Gram.Rf.take T [100, 111] s1)) fun its s1 => Gram.Rf.bindS (Gram.Rf.transs T [117, 110, 116, 105, 108] f [] s1) fun ut s1 => some (.mk nx us ut ls its (ya : Int), s1)) := by show _ = _; rw [HR.out, hrr]
 simp only at hN
 have HS := ld hS1
 clear hS1 hrr HR
 refine ld ?_
 go_wp2_with (go_at_call 65; refine hN.mono ?_; rintro e x1 ⟨rfl, hPx, hgx⟩; refine Hid.out ?_)
 have hSx := HS.out.on hgx hPx
 clear z0 z1 z2 z3 z4 z5 zf
 obtain ⟨z0, z1, z2, z3, z4, z5, zf⟩ := rcells_6 (show x1.heap[w1.heap.size]? = some (.cells #[.string ⟨#[]⟩, .slice none 0 0, .slice none 0 0, .slice none 0 0, .slice none 0 0, .int .i64 (ya : Int)] 119 (0, 0)) from hSx.row)
 have hS2 : Sr (w.alloc rsta0) (x1.setCell ⟨w1.heap.size, 0, none⟩ (.string ⟨nx.toArray⟩)) b g cap T w1.heap.size t0 119 [.c (.string ⟨nx.toArray⟩), .l 139 12 [], .l 139 12 [], .l 112 5 [], .l 40 12 [], .c (.int .i64 (ya : Int))] [.string ⟨nx.toArray⟩, .slice none 0 0, .slice none 0 0, .slice none 0 0, .slice none 0 0, .int .i64 (ya : Int)] := hSx.set 0 (.c _)
 clear HS hN hPx hgx hSx
 cases hex : Gram.Rf.transs T [117, 110, 108, 101, 115, 115] f [] t0 with
 | none => rw [HT1.out, hex] at hf; cases hf
 | some r =>
 obtain ⟨l1, t1⟩ := r
 have hK := rtrans_any b g cap T ⟨#[117, 110, 108, 101, 115, 115]⟩ f t0 _ hS2.pa (by rw [show ((⟨#[117, 110, 108, 101, 115, 115]⟩ : ByteArray)).data.toList = [117, 110, 108, 101, 115, 115] from rfl, hex]; rfl)
 rw [show ((⟨#[117, 110, 108, 101, 115, 115]⟩ : ByteArray)).data.toList = [117, 110, 108, 101, 115, 115] from rfl] at hK
 simp only [hex, rlPost] at hK
 have HT2 : Hid (R = Gram.Rf.bindS (if Gram.Rf.is T [118, 97, 114] t1 then Gram.Rf.localsL T f [] (Gram.Rf.adv t1) else some ([], t1)) fun ls s1 => Gram.Rf.bindS (Gram.Rf.items T f [] (Gram.Rf.take T [100, 111] s1)) fun its s1 => Gram.Rf.bindS (Gram.Rf.transs T [117, 110, 116, 105, 108] f [] s1) fun ut s1 => some (.mk nx l1 ut ls its (ya : Int), s1)) := by show _ = _; rw [HT1.out, hex]; rfl
 clear HT1 hex
 have HS := ld hS2
 clear hS2
 refine ld ?_
 go_wp2_with (go_at_call 91; refine hK.mono ?_; rintro e x2 ⟨v2, rfl, hkx, hPx, hgx⟩; obtain ⟨pa1, pn1, pc1, rfl⟩ := hkx.form; refine Hid.out ?_)
 have hSx := HS.out.on hgx hPx
 have hqx := HS.out.ql
 (try clear z0 z1 z2 z3 z4 z5 zf)
 obtain ⟨z0, z1, z2, z3, z4, z5, zf⟩ := rcells_6 (show x2.heap[w1.heap.size]? = some (.cells #[.string ⟨nx.toArray⟩, .slice none 0 0, .slice none 0 0, .slice none 0 0, .slice none 0 0, .int .i64 (ya : Int)] 119 (0, 0)) from hSx.row)
 have hS3 : Sr (w.alloc rsta0) (x2.setCell ⟨w1.heap.size, 1, none⟩ (.slice pa1 pn1 pc1)) b g cap T w1.heap.size t1 119 [.c (.string ⟨nx.toArray⟩), .l 139 12 (l1.map transD), .l 139 12 [], .l 112 5 [], .l 40 12 [], .c (.int .i64 (ya : Int))] [.string ⟨nx.toArray⟩, .slice pa1 pn1 pc1, .slice none 0 0, .slice none 0 0, .slice none 0 0, .int .i64 (ya : Int)] := hSx.set 1 (hkx.mono (Nat.succ_le_of_lt hqx)).rep
 clear HS hK hPx hgx hSx hqx hkx
 have hMb := rmaybe_any b g cap T t1 ⟨#[118, 97, 114]⟩ _ hS3.pa
 unfold Gram.Rf.maybe at hMb
 rw [show ((⟨#[118, 97, 114]⟩ : ByteArray)).data.toList = [118, 97, 114] from rfl] at hMb
 have HS3 := ld hS3
 clear hS3
 cases hq : Gram.Rf.is T [118, 97, 114] t1 with
 | true =>
  rw [hq, if_pos rfl] at hMb
  have HT3 : Hid (R = Gram.Rf.bindS (Gram.Rf.localsL T f [] (Gram.Rf.adv t1)) fun ls s1 => Gram.Rf.bindS (Gram.Rf.items T f [] (Gram.Rf.take T [100, 111] s1)) fun its s1 => Gram.Rf.bindS (Gram.Rf.transs T [117, 110, 116, 105, 108] f [] s1) fun ut s1 => some (.mk nx l1 ut ls its (ya : Int), s1)) := by show _ = _; rw [HT2.out, hq, if_pos rfl]
  clear HT2
  refine ld ?_
  go_wp2_with (go_at_call 67; refine hMb.mono ?_; rintro e x3 ⟨rfl, hPx, hgx⟩; refine Hid.out ?_)
  have hS4 := HS3.out.on hgx hPx
  clear z0 z1 z2 z3 z4 z5 zf
  obtain ⟨z0, z1, z2, z3, z4, z5, zf⟩ := rcells_6 (show x3.heap[w1.heap.size]? = some (.cells #[.string ⟨nx.toArray⟩, .slice pa1 pn1 pc1, .slice none 0 0, .slice none 0 0, .slice none 0 0, .int .i64 (ya : Int)] 119 (0, 0)) from hS4.row)
  clear hMb hPx hgx HS3
  cases hex : Gram.Rf.localsL T f [] (Gram.Rf.adv t1) with
  | none => rw [HT3.out, hex] at hf; cases hf
  | some r =>
  obtain ⟨l3, t3⟩ := r
  have hK := hL (Gram.Rf.adv t1) _ hS4.pa (by rw [hex]; rfl)
  simp only [hex, rlPost] at hK
  have HT4 : Hid (R = Gram.Rf.bindS (Gram.Rf.items T f [] (Gram.Rf.take T [100, 111] t3)) fun its s1 => Gram.Rf.bindS (Gram.Rf.transs T [117, 110, 116, 105, 108] f [] s1) fun ut s1 => some (.mk nx l1 ut l3 its (ya : Int), s1)) := by show _ = _; rw [HT3.out, hex]; rfl
  clear HT3 hex
  have HS := ld hS4
  clear hS4
  refine ld ?_
  go_wp2_with (go_at_call 68; refine hK.mono ?_; rintro e x4 ⟨v4, rfl, hkx, hPx, hgx⟩; obtain ⟨pa3, pn3, pc3, rfl⟩ := hkx.form; refine Hid.out ?_)
  have hSx := HS.out.on hgx hPx
  have hqx := HS.out.ql
  (try clear z0 z1 z2 z3 z4 z5 zf)
  obtain ⟨z0, z1, z2, z3, z4, z5, zf⟩ := rcells_6 (show x4.heap[w1.heap.size]? = some (.cells #[.string ⟨nx.toArray⟩, .slice pa1 pn1 pc1, .slice none 0 0, .slice none 0 0, .slice none 0 0, .int .i64 (ya : Int)] 119 (0, 0)) from hSx.row)
  have hS5 : Sr (w.alloc rsta0) (x4.setCell ⟨w1.heap.size, 3, none⟩ (.slice pa3 pn3 pc3)) b g cap T w1.heap.size t3 119 [.c (.string ⟨nx.toArray⟩), .l 139 12 (l1.map transD), .l 139 12 [], .l 112 5 (l3.map varD), .l 40 12 [], .c (.int .i64 (ya : Int))] [.string ⟨nx.toArray⟩, .slice pa1 pn1 pc1, .slice none 0 0, .slice pa3 pn3 pc3, .slice none 0 0, .int .i64 (ya : Int)] := hSx.set 3 (hkx.mono (Nat.succ_le_of_lt hqx)).rep
  clear HS hK hPx hgx hSx hqx hkx
  have hK := rtake_any b g cap T t3 ⟨#[100, 111]⟩ _ hS5.pa
  rw [show ((⟨#[100, 111]⟩ : ByteArray)).data.toList = [100, 111] from rfl] at hK
  have HS := ld hS5
  clear hS5
  refine ld ?_
  go_wp2_with (go_at_call 64; refine hK.mono ?_; rintro e x5 ⟨rfl, hPx, hgx⟩; refine Hid.out ?_)
  have hS6 := HS.out.on hgx hPx
  clear HS hK hPx hgx
  (try clear z0 z1 z2 z3 z4 z5 zf)
  obtain ⟨z0, z1, z2, z3, z4, z5, zf⟩ := rcells_6 (show x5.heap[w1.heap.size]? = some (.cells #[.string ⟨nx.toArray⟩, .slice pa1 pn1 pc1, .slice none 0 0, .slice pa3 pn3 pc3, .slice none 0 0, .int .i64 (ya : Int)] 119 (0, 0)) from hS6.row)
  cases hex : Gram.Rf.items T f [] (Gram.Rf.take T [100, 111] t3) with
  | none => rw [HT4.out, hex] at hf; cases hf
  | some r =>
  obtain ⟨l4, t4⟩ := r
  have hK := ritems_any b g cap T f hC (Gram.Rf.take T [100, 111] t3) _ hS6.pa (by rw [hex]; rfl)
  simp only [hex, rlPost] at hK
  have HT5 : Hid (R = Gram.Rf.bindS (Gram.Rf.transs T [117, 110, 116, 105, 108] f [] t4) fun ut s1 => some (.mk nx l1 ut l3 l4 (ya : Int), s1)) := by show _ = _; rw [HT4.out, hex]; rfl
  clear HT4 hex
  have HS := ld hS6
  clear hS6
  refine ld ?_
  go_wp2_with (go_at_call 69; refine hK.mono ?_; rintro e x6 ⟨v6, rfl, hkx, hPx, hgx⟩; obtain ⟨pa4, pn4, pc4, rfl⟩ := hkx.form; refine Hid.out ?_)
  have hSx := HS.out.on hgx hPx
  have hqx := HS.out.ql
  (try clear z0 z1 z2 z3 z4 z5 zf)
  obtain ⟨z0, z1, z2, z3, z4, z5, zf⟩ := rcells_6 (show x6.heap[w1.heap.size]? = some (.cells #[.string ⟨nx.toArray⟩, .slice pa1 pn1 pc1, .slice none 0 0, .slice pa3 pn3 pc3, .slice none 0 0, .int .i64 (ya : Int)] 119 (0, 0)) from hSx.row)
  have hS7 : Sr (w.alloc rsta0) (x6.setCell ⟨w1.heap.size, 4, none⟩ (.slice pa4 pn4 pc4)) b g cap T w1.heap.size t4 119 [.c (.string ⟨nx.toArray⟩), .l 139 12 (l1.map transD), .l 139 12 [], .l 112 5 (l3.map varD), .l 40 12 (l4.map itemD), .c (.int .i64 (ya : Int))] [.string ⟨nx.toArray⟩, .slice pa1 pn1 pc1, .slice none 0 0, .slice pa3 pn3 pc3, .slice pa4 pn4 pc4, .int .i64 (ya : Int)] := hSx.set 4 (hkx.mono (Nat.succ_le_of_lt hqx)).rep
  clear HS hK hPx hgx hSx hqx hkx
  cases hex : Gram.Rf.transs T [117, 110, 116, 105, 108] f [] t4 with
  | none => rw [HT5.out, hex] at hf; cases hf
  | some r =>
  obtain ⟨l2, t2⟩ := r
  have hK := rtrans_any b g cap T ⟨#[117, 110, 116, 105, 108]⟩ f t4 _ hS7.pa (by rw [show ((⟨#[117, 110, 116, 105, 108]⟩ : ByteArray)).data.toList = [117, 110, 116, 105, 108] from rfl, hex]; rfl)
  rw [show ((⟨#[117, 110, 116, 105, 108]⟩ : ByteArray)).data.toList = [117, 110, 116, 105, 108] from rfl] at hK
  simp only [hex, rlPost] at hK
  have HT6 : Hid (R = some (.mk nx l1 l2 l3 l4 (ya : Int), t2)) := by show _ = _; rw [HT5.out, hex]; rfl
  clear HT5 hex
  have HS := ld hS7
  clear hS7
  refine ld ?_
  go_wp2_with (go_at_call 91; refine hK.mono ?_; rintro e x7 ⟨v7, rfl, hkx, hPx, hgx⟩; obtain ⟨pa2, pn2, pc2, rfl⟩ := hkx.form; refine Hid.out ?_)
  have hSx := HS.out.on hgx hPx
  have hqx := HS.out.ql
  (try clear z0 z1 z2 z3 z4 z5 zf)
  obtain ⟨z0, z1, z2, z3, z4, z5, zf⟩ := rcells_6 (show x7.heap[w1.heap.size]? = some (.cells #[.string ⟨nx.toArray⟩, .slice pa1 pn1 pc1, .slice none 0 0, .slice pa3 pn3 pc3, .slice pa4 pn4 pc4, .int .i64 (ya : Int)] 119 (0, 0)) from hSx.row)
  have hS8 : Sr (w.alloc rsta0) (x7.setCell ⟨w1.heap.size, 2, none⟩ (.slice pa2 pn2 pc2)) b g cap T w1.heap.size t2 119 [.c (.string ⟨nx.toArray⟩), .l 139 12 (l1.map transD), .l 139 12 (l2.map transD), .l 112 5 (l3.map varD), .l 40 12 (l4.map itemD), .c (.int .i64 (ya : Int))] [.string ⟨nx.toArray⟩, .slice pa1 pn1 pc1, .slice pa2 pn2 pc2, .slice pa3 pn3 pc3, .slice pa4 pn4 pc4, .int .i64 (ya : Int)] := hSx.set 2 (hkx.mono (Nat.succ_le_of_lt hqx)).rep
  clear HS hK hPx hgx hSx hqx hkx
  have hgA := hS8.gr
  obtain ⟨y0, y1, y2, y3, y4, y5, yf⟩ := rcells_6 (show (x7.setCell ⟨w1.heap.size, 2, none⟩ (.slice pa2 pn2 pc2)).heap[w1.heap.size]? = some (.cells #[.string ⟨nx.toArray⟩, .slice pa1 pn1 pc1, .slice pa2 pn2 pc2, .slice pa3 pn3 pc3, .slice pa4 pn4 pc4, .int .i64 (ya : Int)] 119 (0, 0)) from hS8.row)
  have HSE := ld hS8
  clear hS8
  refine ld ?_
  go_wp2_with (with_reducible refine hold_st 2 ?_)
  refine ld ?_
  refine sg ((hgA.block w.heap.size (by simp) (by simp; omega)).trans (heap_alloc_new w rsta0)) ?_
  intro w7 hh7 hg7
  go_wp2
  (try simp only [Exit.inBlock, Exit.then])
  refine br hh7 Tryz.underlying119 ?_
  have hG : w.grownBy w7 (some b) := ((grown_some (ga w rsta0 none) b).trans hgA).andThen hg7 (fun j e => .inl (by cases e; exact Nat.le_refl _))
  obtain ⟨hkk, hss⟩ := HSE.out.ends hg7 (by simp) (by omega)
  rw [HT6.out]
  refine ⟨_, rfl, ?_, HH.out.to hG hss HSE.out.pa.lt, hG⟩
  simpa only [stateD, itemsD_map, List.map_nil] using hkk
 | false =>
  rw [hq, if_neg (by decide)] at hMb
  have HT3 : Hid (R = Gram.Rf.bindS (Gram.Rf.items T f [] (Gram.Rf.take T [100, 111] t1)) fun its s1 => Gram.Rf.bindS (Gram.Rf.transs T [117, 110, 116, 105, 108] f [] s1) fun ut s1 => some (.mk nx l1 ut [] its (ya : Int), s1)) := by show _ = _; rw [HT2.out, hq, if_neg (by decide)]; rfl
  clear HT2
  refine ld ?_
  go_wp2_with (go_at_call 67; refine hMb.mono ?_; rintro e x3 ⟨rfl, hPx, hgx⟩; refine Hid.out ?_)
  have hS4 := HS3.out.on hgx hPx
  clear z0 z1 z2 z3 z4 z5 zf
  obtain ⟨z0, z1, z2, z3, z4, z5, zf⟩ := rcells_6 (show x3.heap[w1.heap.size]? = some (.cells #[.string ⟨nx.toArray⟩, .slice pa1 pn1 pc1, .slice none 0 0, .slice none 0 0, .slice none 0 0, .int .i64 (ya : Int)] 119 (0, 0)) from hS4.row)
  clear hMb hPx hgx HS3
  have hK := rtake_any b g cap T t1 ⟨#[100, 111]⟩ _ hS4.pa
  rw [show ((⟨#[100, 111]⟩ : ByteArray)).data.toList = [100, 111] from rfl] at hK
  have HS := ld hS4
  clear hS4
  refine ld ?_
  go_wp2_with (go_at_call 64; refine hK.mono ?_; rintro e x4 ⟨rfl, hPx, hgx⟩; refine Hid.out ?_)
  have hS5 := HS.out.on hgx hPx
  clear HS hK hPx hgx
  (try clear z0 z1 z2 z3 z4 z5 zf)
  obtain ⟨z0, z1, z2, z3, z4, z5, zf⟩ := rcells_6 (show x4.heap[w1.heap.size]? = some (.cells #[.string ⟨nx.toArray⟩, .slice pa1 pn1 pc1, .slice none 0 0, .slice none 0 0, .slice none 0 0, .int .i64 (ya : Int)] 119 (0, 0)) from hS5.row)
  cases hex : Gram.Rf.items T f [] (Gram.Rf.take T [100, 111] t1) with
  | none => rw [HT3.out, hex] at hf; cases hf
  | some r =>
  obtain ⟨l4, t4⟩ := r
  have hK := ritems_any b g cap T f hC (Gram.Rf.take T [100, 111] t1) _ hS5.pa (by rw [hex]; rfl)
  simp only [hex, rlPost] at hK
  have HT5 : Hid (R = Gram.Rf.bindS (Gram.Rf.transs T [117, 110, 116, 105, 108] f [] t4) fun ut s1 => some (.mk nx l1 ut [] l4 (ya : Int), s1)) := by show _ = _; rw [HT3.out, hex]; rfl
  clear HT3 hex
  have HS := ld hS5
  clear hS5
  refine ld ?_
  go_wp2_with (go_at_call 69; refine hK.mono ?_; rintro e x5 ⟨v5, rfl, hkx, hPx, hgx⟩; obtain ⟨pa4, pn4, pc4, rfl⟩ := hkx.form; refine Hid.out ?_)
  have hSx := HS.out.on hgx hPx
  have hqx := HS.out.ql
  (try clear z0 z1 z2 z3 z4 z5 zf)
  obtain ⟨z0, z1, z2, z3, z4, z5, zf⟩ := rcells_6 (show x5.heap[w1.heap.size]? = some (.cells #[.string ⟨nx.toArray⟩, .slice pa1 pn1 pc1, .slice none 0 0, .slice none 0 0, .slice none 0 0, .int .i64 (ya : Int)] 119 (0, 0)) from hSx.row)
  have hS6 : Sr (w.alloc rsta0) (x5.setCell ⟨w1.heap.size, 4, none⟩ (.slice pa4 pn4 pc4)) b g cap T w1.heap.size t4 119 [.c (.string ⟨nx.toArray⟩), .l 139 12 (l1.map transD), .l 139 12 [], .l 112 5 [], .l 40 12 (l4.map itemD), .c (.int .i64 (ya : Int))] [.string ⟨nx.toArray⟩, .slice pa1 pn1 pc1, .slice none 0 0, .slice none 0 0, .slice pa4 pn4 pc4, .int .i64 (ya : Int)] := hSx.set 4 (hkx.mono (Nat.succ_le_of_lt hqx)).rep
  clear HS hK hPx hgx hSx hqx hkx
  cases hex : Gram.Rf.transs T [117, 110, 116, 105, 108] f [] t4 with
  | none => rw [HT5.out, hex] at hf; cases hf
  | some r =>
  obtain ⟨l2, t2⟩ := r
  have hK := rtrans_any b g cap T ⟨#[117, 110, 116, 105, 108]⟩ f t4 _ hS6.pa (by rw [show ((⟨#[117, 110, 116, 105, 108]⟩ : ByteArray)).data.toList = [117, 110, 116, 105, 108] from rfl, hex]; rfl)
  rw [show ((⟨#[117, 110, 116, 105, 108]⟩ : ByteArray)).data.toList = [117, 110, 116, 105, 108] from rfl] at hK
  simp only [hex, rlPost] at hK
  have HT6 : Hid (R = some (.mk nx l1 l2 [] l4 (ya : Int), t2)) := by show _ = _; rw [HT5.out, hex]; rfl
  clear HT5 hex
  have HS := ld hS6
  clear hS6
  refine ld ?_
  go_wp2_with (go_at_call 91; refine hK.mono ?_; rintro e x6 ⟨v6, rfl, hkx, hPx, hgx⟩; obtain ⟨pa2, pn2, pc2, rfl⟩ := hkx.form; refine Hid.out ?_)
  have hSx := HS.out.on hgx hPx
  have hqx := HS.out.ql
  (try clear z0 z1 z2 z3 z4 z5 zf)
  obtain ⟨z0, z1, z2, z3, z4, z5, zf⟩ := rcells_6 (show x6.heap[w1.heap.size]? = some (.cells #[.string ⟨nx.toArray⟩, .slice pa1 pn1 pc1, .slice none 0 0, .slice none 0 0, .slice pa4 pn4 pc4, .int .i64 (ya : Int)] 119 (0, 0)) from hSx.row)
  have hS7 : Sr (w.alloc rsta0) (x6.setCell ⟨w1.heap.size, 2, none⟩ (.slice pa2 pn2 pc2)) b g cap T w1.heap.size t2 119 [.c (.string ⟨nx.toArray⟩), .l 139 12 (l1.map transD), .l 139 12 (l2.map transD), .l 112 5 [], .l 40 12 (l4.map itemD), .c (.int .i64 (ya : Int))] [.string ⟨nx.toArray⟩, .slice pa1 pn1 pc1, .slice pa2 pn2 pc2, .slice none 0 0, .slice pa4 pn4 pc4, .int .i64 (ya : Int)] := hSx.set 2 (hkx.mono (Nat.succ_le_of_lt hqx)).rep
  clear HS hK hPx hgx hSx hqx hkx
  have hgA := hS7.gr
  obtain ⟨y0, y1, y2, y3, y4, y5, yf⟩ := rcells_6 (show (x6.setCell ⟨w1.heap.size, 2, none⟩ (.slice pa2 pn2 pc2)).heap[w1.heap.size]? = some (.cells #[.string ⟨nx.toArray⟩, .slice pa1 pn1 pc1, .slice pa2 pn2 pc2, .slice none 0 0, .slice pa4 pn4 pc4, .int .i64 (ya : Int)] 119 (0, 0)) from hS7.row)
  have HSE := ld hS7
  clear hS7
  refine ld ?_
  go_wp2_with (with_reducible refine hold_st 2 ?_)
  refine ld ?_
  refine sg ((hgA.block w.heap.size (by simp) (by simp; omega)).trans (heap_alloc_new w rsta0)) ?_
  intro w7 hh7 hg7
  go_wp2
  (try simp only [Exit.inBlock, Exit.then])
  refine br hh7 Tryz.underlying119 ?_
  have hG : w.grownBy w7 (some b) := ((grown_some (ga w rsta0 none) b).trans hgA).andThen hg7 (fun j e => .inl (by cases e; exact Nat.le_refl _))
  obtain ⟨hkk, hss⟩ := HSE.out.ends hg7 (by simp) (by omega)
  rw [HT6.out]
  refine ⟨_, rfl, ?_, HH.out.to hG hss HSE.out.pa.lt, hG⟩
  simpa only [stateD, itemsD_map, List.map_nil] using hkk
end
open Go.RowKit Go.Maps Go.WideMaps
theorem flat_set {α : Type} (pre : List (List α)) (r : List α) (post : List (List α)) (c : Nat) (hc : c < r.length) (m : Nat) (hm : m = pre.flatten.length + c) (u : α) :
  (pre ++ r :: post).flatten.set m u = (pre ++ r.set c u :: post).flatten := by
 subst hm
 simp only [List.flatten_append, List.flatten_cons]
 rw [List.set_append, if_neg (by omega), Nat.add_sub_cancel_left, List.set_append, if_pos hc]
theorem vars_flat : ∀ l : List Gram.Var, (l.map varD).flatten.length = l.length * 5
 | [] => rfl
 | x :: r => by simp only [List.map_cons, List.flatten_cons, List.length_append, vars_flat r, List.length_cons]; simp [varD]; omega
theorem repEdges {w w' : World} {B B' : Nat} {E E' : List Nat} : ∀ {l : List Gram.Edge} {xs : List Value}, RepRow w B E (l.map edgeD).flatten xs → RepRow w' B' E' (l.map edgeD).flatten xs
 | [], _, h => by
  have e : (([] : List Gram.Edge).map edgeD).flatten = [] := rfl
  rw [e] at h ⊢
  obtain rfl := h.nInv
  exact .nil
 | x :: r, xs, h => by
  have e : ((x :: r).map edgeD).flatten = .c (.string ⟨x.name.toArray⟩) :: .c (.bool x.on) :: (r.map edgeD).flatten := rfl
  rw [e] at h ⊢
  obtain ⟨u1, rfl, h1⟩ := h.cInv
  obtain ⟨u2, rfl, h2⟩ := h1.cInv
  exact .cons (.c _) (.cons (.c _) (repEdges h2))
theorem edges_one {w : World} {B : Nat} {E : List Nat} : ∀ {l : List Gram.Edge} {xs : List Value}, RepRow w B E (l.map edgeD).flatten xs → ∀ u ∈ xs, u.oneCell' = true
 | [], _, h => by
  have e : (([] : List Gram.Edge).map edgeD).flatten = [] := rfl
  rw [e] at h
  obtain rfl := h.nInv
  intro u hu
  cases hu
 | x :: r, xs, h => by
  have e : ((x :: r).map edgeD).flatten = .c (.string ⟨x.name.toArray⟩) :: .c (.bool x.on) :: (r.map edgeD).flatten := rfl
  rw [e] at h
  obtain ⟨u1, rfl, h1⟩ := h.cInv
  obtain ⟨u2, rfl, h2⟩ := h1.cInv
  intro u hu
  rcases List.mem_cons.1 hu with rfl | hu
  ·rfl
  rcases List.mem_cons.1 hu with rfl | hu
  ·rfl
  exact edges_one h2 u hu
theorem GrowD.put {w : World} {B : Nat} {e : TypeId} {sz g n cap : Nat} {rows rows' : List (List D)} (h : GrowD w B e sz rows (.slice (some ⟨g, 0, none⟩) n cap)) (j : Nat) {d' : D} {u : Value} (hu : RepC w B [g] d' u) (hl : rows'.length = rows.length) (hfl : rows'.flatten = rows.flatten.set j d') :
  GrowD (w.setCell ⟨g, j, none⟩ u) B e sz rows' (.slice (some ⟨g, 0, none⟩) n cap) := by
 obtain ⟨xs, ho, hx⟩ := h
 have hn : rows.length = n := by
  rcases ho.2 with ⟨h', _⟩ | ⟨g', cap', cur, h', _⟩
  ·simp at h'
  ·simp only [Value.slice.injEq] at h'; exact h'.2.1.symm
 rw [hn] at ho
 obtain ⟨h1, h2⟩ := ho.stored j u
 refine ⟨xs.set j u, by rw [hl, hn]; exact h1, ?_⟩
 rw [hfl]
 have hx2 : RepRow w B [g] rows.flatten xs := hx
 exact RepRow.keptX h2 (fun k e => .inr (by cases e; simp [Value.ownBlock])) (hx2.set j hu)
theorem GrowD.there {w : World} {B : Nat} {e : TypeId} {sz g n cap : Nat} {rows : List (List D)} (h : GrowD w B e sz rows (.slice (some ⟨g, 0, none⟩) n cap)) (j : Nat) (hj : j < rows.length * sz) : ∃ u, w.cell? ⟨g, j, none⟩ = some u := by
 obtain ⟨xs, ho, hx⟩ := h
 have hn : rows.length = n := by
  rcases ho.2 with ⟨h', _⟩ | ⟨g', cap', cur, h', _⟩
  ·simp at h'
  ·simp only [Value.slice.injEq] at h'; exact h'.2.1.symm
 have hl := ho.1
 rw [hn] at ho
 have h1 := owns_there ho j 1 (by omega) 0 (by omega)
 exact Option.isSome_iff_exists.1 h1.1
theorem GrowD.free {w : World} {B : Nat} {e : TypeId} {sz g n cap : Nat} {rows : List (List D)} (h : GrowD w B e sz rows (.slice (some ⟨g, 0, none⟩) n cap)) (j : Nat) : w.frozen? ⟨g, j, none⟩ = false := by
 obtain ⟨xs, ho, hx⟩ := h
 have hn : rows.length = n := by
  rcases ho.2 with ⟨h', _⟩ | ⟨g', cap', cur, h', _⟩
  ·simp at h'
  ·simp only [Value.slice.injEq] at h'; exact h'.2.1.symm
 rw [hn] at ho
 exact ho.frozenAt j
open Go.RowKit Go.Maps Go.WideMaps
structure Dr (w0 w : World) (b g cap : Nat) (T : List Lex.Tk) (B : Nat) (s : Gram.Rf.St) (vs : List Gram.Var) (v : Value) : Prop where
 p0 : ∃ s0, Rp w0 b g cap T s0
 pa : Rp w b g cap T s
 gr : w0.grownBy w (some b)
 lo : w0.heap.size ≤ B
 Bs : B ≤ w.heap.size
 gro : GrowD w B 112 5 (vs.map varD) v
section
variable {w0 w w' : World} {b g cap : Nat} {T : List Lex.Tk} {B : Nat} {s s' : Gram.Rf.St} {vs : List Gram.Var} {v : Value}
theorem Dr.bl (h : Dr w0 w b g cap T B s vs v) : b < w0.heap.size := by
 obtain ⟨i0, h0⟩ := h.p0
 exact h0.bl
theorem Dr.bB (h : Dr w0 w b g cap T B s vs v) : b < B := Nat.lt_of_lt_of_le h.bl h.lo
theorem Dr.on (h : Dr w0 w b g cap T B s vs v) (hg : w.grownBy w' (some b)) (hp : Rp w' b g cap T s') : Dr w0 w' b g cap T B s' vs v :=
 ⟨h.p0, hp, h.gr.trans hg, h.lo, Nat.le_trans h.Bs hg.size, h.gro.keptB hg h.bB⟩
theorem Dr.kept0 (h : Dr w0 w b g cap T B s vs v) (hg : w.grownBy w' none) : Dr w0 w' b g cap T B s vs v := h.on (grown_some hg b) (h.pa.kept hg)
theorem Dr.ge (h : Dr w0 w b g cap T B s vs v) : ∀ k, v.ownBlock = some k → B ≤ k := h.gro.ge
theorem Dr.len (h : Dr w0 w b g cap T B s vs v) (ty : TypeId) (wx : World) : (Builtin.len_ #[28] ty #[v]).run Tryz.prog wx = .ok (.int .i64 (vs.length : Int)) wx := by
 obtain ⟨xs, ho, _⟩ := h.gro
 rw [List.length_map] at ho
 exact len_Var ho ty wx
theorem Dr.by {us : List Gram.Var} {u : Value} (h : Dr w0 w b g cap T B s vs v) (hg : w.grownBy w' v.ownBlock) (hgro : GrowD w' B 112 5 (us.map varD) u) : Dr w0 w' b g cap T B s us u := by
 obtain ⟨i0, h0⟩ := h.p0
 have hG : w0.grownBy w' (some b) := h.gr.andThen hg (fun k e => .inl (Nat.le_trans h.lo (h.ge k e)))
 exact ⟨h.p0, h0.to hG (h.pa.st.kept hg (by intro e; have := h.ge b e.symm; have := h.bB; omega)) h.pa.lt, hG, h.lo, Nat.le_trans h.Bs hg.size, hgro⟩
end
def drPost (w0 : World) (b g cap : Nat) (T : List Lex.Tk) (B : Nat) (r : Option (List Gram.Var × Gram.Rf.St)) (e : Ending) (w' : World) : Prop :=
 match r with
 | some x => ∃ v, e = .returned v ∧ Dr w0 w' b g cap T B x.2 x.1 v
 | none => False
theorem Dr.put {w0 w : World} {b g cap : Nat} {T : List Lex.Tk} {B gg n cp : Nat} {s : Gram.Rf.St} {A C : List Gram.Var} {x x' : Gram.Var} (h : Dr w0 w b g cap T B s (A ++ x :: C) (.slice (some ⟨gg, 0, none⟩) n cp)) (c : Nat) (hc : c < 5) {d' : D} {u : Value} (hx : (varD x).set c d' = varD x') (hu : RepC w B [gg] d' u) (m : Nat) (hm : m = A.length * 5 + c) :
  Dr w0 (w.setCell ⟨gg, m, none⟩ u) b g cap T B s (A ++ x' :: C) (.slice (some ⟨gg, 0, none⟩) n cp) := by
 refine h.by (grown_set w ⟨gg, m, none⟩ u) (h.gro.put m hu (by simp) ?_)
 simp only [List.map_append, List.map_cons]
 rw [flat_set _ _ _ c (by simpa [varD] using hc) m (by rw [vars_flat]; exact hm), hx]
def mkVr (n : Gram.B × Int) : Gram.Var := ⟨n.1, 0, 0, [], n.2⟩
def mkTr (t : Int × Int) (n : Gram.B × Int) : Gram.Var := ⟨n.1, t.1, t.2, [], n.2⟩
theorem decl_of {T : List Lex.Tk} {f : Nat} {vars : List Gram.Var} {s t : Gram.Rf.St} {acc : List (Gram.B × Int)} (h : Gram.Rf.names T f vars s = some ((vars ++ acc.map mkVr, false), t)) :
  Gram.Rf.decl T f vars s = some (vars ++ acc.map (mkTr ((Gram.Rf.kind T (Gram.Rf.take T [58] t)).1, (if Gram.Rf.is T [94] (Gram.Rf.kind T (Gram.Rf.take T [58] t)).2 then Gram.Rf.size T (Gram.Rf.adv (Gram.Rf.kind T (Gram.Rf.take T [58] t)).2) else (0, (Gram.Rf.kind T (Gram.Rf.take T [58] t)).2)).1)), (if Gram.Rf.is T [94] (Gram.Rf.kind T (Gram.Rf.take T [58] t)).2 then Gram.Rf.size T (Gram.Rf.adv (Gram.Rf.kind T (Gram.Rf.take T [58] t)).2) else (0, (Gram.Rf.kind T (Gram.Rf.take T [58] t)).2)).2) := by
 unfold Gram.Rf.decl
 rw [h]
 simp only [Gram.Rf.bindS]
 rw [if_neg (by decide), List.take_left, List.drop_left, List.map_map]
 rfl
section
variable (b g cap : Nat) (T : List Lex.Tk)
theorem rdecl_any (f : Nat) (w0 w : World) (B : Nat) (s : Gram.Rf.St) (vars : List Gram.Var) (v : Value) (h : Dr w0 w b g cap T B s vars v) (hv1 : vars.length ≤ 201) (hv0 : s.e = 0 → vars.length ≤ 200) (hf : (Gram.Rf.decl T f vars s).isSome = true) :
  Calls Tryz.prog 76 #[.pointer (some ⟨b, 0, none⟩), v] w fun e w' => drPost w0 b g cap T B (Gram.Rf.decl T f vars s) e w' := by
 obtain ⟨it, hit, hz, hsz, hby⟩ := infoP info_Var
 obtain ⟨R, hR⟩ : ∃ R, R = Gram.Rf.decl T f vars s := ⟨_, rfl⟩
 rw [← hR] at hf ⊢
 have HR := ld hR
 clear hR
 have hbw := h.bl
 have hbB := h.bB
 have hlo := h.lo
 have hlen0 := h.len
 have HH := ld h
 clear h
 go_enter Tryz.func76, Tryz.ntmps76
 go_wp2
 go_loopg [1] f (fun (f' : Nat) (s1 : Value) (wr : World) => ∃ (acc : List (Gram.B × Int)) (s' : Gram.Rf.St), f' ≤ f ∧ vars.length + acc.length ≤ 201 ∧ (s'.e = 0 → vars.length + acc.length ≤ 200) ∧ Hid (Dr w0 wr b g cap T B s' (vars ++ acc.map mkVr) s1 ∧ Gram.Rf.names T f' (vars ++ acc.map mkVr) s' = Gram.Rf.names T f vars s))
 case atStart => exact ⟨[], s, Nat.le_refl _, by simpa using hv1, by simpa using hv0, ld ⟨by simpa using HH.out, by simp⟩⟩
 case round =>
  obtain ⟨acc, s', hff, ha1, ha0, HG⟩ := hrel
  obtain ⟨hD, hL⟩ := HG.out
  clear HG hlen0
  have hP := hD.pa
  have p2 := hP.st.c2
  have hlf : ∀ (ty : TypeId) (wx : World), (Builtin.len_ #[28] ty #[u1]).run Tryz.prog wx = .ok (.int .i64 ((vars.length + acc.length : Nat) : Int)) wx := by
   have e := hD.len
   rw [List.length_append, List.length_map] at e
   exact e
  have HD := ld hD
  clear hD
  rcases Nat.eq_zero_or_pos gk with hz0 | hz0
  ·rw [hz0] at hL; rw [HR.out] at hf; unfold Gram.Rf.decl at hf; rw [← hL] at hf; exact absurd hf (by simp [Gram.Rf.names, Gram.Rf.bindS])
  obtain ⟨f', hfe⟩ : ∃ f', gk = f' + 1 := ⟨gk - 1, by omega⟩
  subst hfe
  have hr : Gram.Rf.names T f vars s = if s'.e = 0 then (if (Gram.tk T s'.i).kind = 1 ∧ 200 ≤ (vars ++ acc.map mkVr).length then some ((vars ++ acc.map mkVr, true), Gram.Rf.fail T 2 s') else if Gram.Rf.is T [44] (Gram.Rf.name T s').2 then Gram.Rf.names T f' (vars ++ acc.map mkVr ++ [⟨(Gram.Rf.name T s').1, 0, 0, [], ((Gram.tk T s'.i).at_ : Int)⟩]) (Gram.Rf.adv (Gram.Rf.name T s').2) else some ((vars ++ acc.map mkVr ++ [⟨(Gram.Rf.name T s').1, 0, 0, [], ((Gram.tk T s'.i).at_ : Int)⟩], false), (Gram.Rf.name T s').2)) else some ((vars ++ acc.map mkVr, false), s') := by rw [← hL]; conv => lhs; unfold Gram.Rf.names
  rw [List.length_append, List.length_map] at hr
  have HN := ld hr
  clear hr hL
  by_cases he : s'.e = 0
  ·have b0 : (s'.e == 0) = true := by rw [beq_iff_eq]; exact he
   have ha0 := ha0 he
   have HE0 := ld he
   have hn := fun wx (hx : Rp wx b g cap T s') => rtok_any b g cap T s' wx hx
   have hN := fun wx (hx : Rp wx b g cap T s') => rname_any b g cap T s' wx hx
   have hbad : (Gram.tk T s'.i).kind ≠ 1 → (Gram.Rf.name T s').2.e ≠ 0 := by
    intro hk
    unfold Gram.Rf.name Gram.Rf.nameOk
    rw [if_neg (by simp [hk])]
    simp [Gram.Rf.fail, he]
   generalize Gram.tk T s'.i = y at hn HN hbad
   generalize Gram.Rf.name T s' = rr at hN HN hbad
   obtain ⟨yk, yt, yn, yu, ya⟩ := y
   obtain ⟨nx, s2⟩ := rr
   have hfk := fldKind ⟨yk, yt, yn, yu, ya⟩
   have hfa := fldAt ⟨yk, yt, yn, yu, ya⟩
   simp only [tokV] at hn hfk hfa
   simp only at hN hbad
   clear he
   generalize s'.e = e0 at p2 b0
   by_cases hk : yk = 1
   ·have bk : (yk == 1) = true := by rw [beq_iff_eq]; exact hk
    by_cases hm : 200 ≤ vars.length + acc.length
    ·have hrm := fun wx (hx : Rp wx b g cap T s') => rfull_yes b g cap T s' ((vars.length + acc.length : Nat) : Int) 200 (by omega) wx hx
     have HE : Hid (R = some (vars ++ acc.map mkVr, Gram.Rf.fail T 2 s')) := by show _ = _; rw [HR.out]; unfold Gram.Rf.decl; rw [HN.out, if_pos HE0.out, if_pos ⟨hk, hm⟩]; rfl
     clear HN HR hbad hk hm
     go_wp2_with (first | (go_at_call 48; refine (hrm _ (hP.kept hg1)).mono ?_; rintro e w2 ⟨rfl, hP2, hg2⟩) | (go_at_call 45; refine (hn _ hP).mono ?_; rintro e w1 ⟨rfl, hg1⟩))
     go_ret
     rw [HE.out]
     exact ⟨_, rfl, HD.out.on ((grown_some hg1 b).trans hg2) hP2⟩
    have hrm := fun wx => rfull_no b ((vars.length + acc.length : Nat) : Int) 200 (by omega) wx
    have HE : Hid (Gram.Rf.names T f vars s = if Gram.Rf.is T [44] s2 then Gram.Rf.names T f' (vars ++ acc.map mkVr ++ [⟨nx, 0, 0, [], (ya : Int)⟩]) (Gram.Rf.adv s2) else some ((vars ++ acc.map mkVr ++ [⟨nx, 0, 0, [], (ya : Int)⟩], false), s2)) := by show _ = _; rw [HN.out, if_pos HE0.out, if_neg (fun e => hm e.2)]
    clear HN hbad hk
    go_wp2_with (first | (go_at_call 48; refine (hrm _).mono ?_; rintro e w8 ⟨rfl, hw8⟩; rw [hw8]; clear hw8) | (go_at_call 45; first | (refine (hn _ (hP.kept hg1)).mono ?_; rintro e w2 ⟨rfl, hg2⟩) | (refine (hn _ hP).mono ?_; rintro e w1 ⟨rfl, hg1⟩)) | (go_at_call 65; refine (hN _ ((hP.kept hg1).kept hg2)).mono ?_; rintro e w3 ⟨rfl, hP3, hg3⟩; refine Hid.out ?_))
    have hgA : wr.grownBy w3 (some b) := (grown_some (hg1.trans hg2) b).trans hg3
    have hD2 := HD.out.on hgA hP3
    have hDb := hD2.kept0 (ga w3 (.cells #[.string ⟨nx.toArray⟩, .int .i64 0, .int .i64 0, .slice none 0 0, .int .i64 (ya : Int)] 112) none)
    obtain ⟨xs2, ho2, hr2⟩ := hDb.gro
    rw [List.length_map, List.length_append, List.length_map] at ho2
    refine ld ?_
    go_wp2_with (at_builtin; refine wpList_append_own_at _ rfl _ _ 28 rfl B 112 it _ 5 64 Tryz.underlying28 hit hz hsz hby rfl (by decide) _ (vars.length + acc.length) xs2 rfl ho2 ⟨w3.heap.size, 0, none⟩ 1 1 [.string ⟨nx.toArray⟩, .int .i64 0, .int .i64 0, .slice none 0 0, .int .i64 (ya : Int)] rfl rfl (cell_row_new w3 [.string ⟨nx.toArray⟩, .int .i64 0, .int .i64 0, .slice none 0 0, .int .i64 (ya : Int)] 112) (by simp [Value.oneCell']) ?_ ?_ ?_ ?_)
    ·unfold maxLen; omega
    ·omega
    ·exact hDb.Bs
    intro v' w4 hown' hgrow3 _ hvb
    have hG3 : GrowD w4 B 112 5 ((vars ++ acc.map mkVr).map varD ++ [varD (mkVr (nx, (ya : Int)))]) v' := growD_snoc hgrow3 (by rw [List.length_map, List.length_append, List.length_map]; exact hown') hr2 (.cons (.c _) (.cons (.c _) (.cons (.c _) (.cons (RepC.nil _ _ _ _ _) (.cons (.c _) .nil))))) (by first | exact hvb | (rw [World.size_alloc]; exact hvb))
    have hD3 : Dr w0 w4 b g cap T B s2 (vars ++ (acc ++ [(nx, (ya : Int))]).map mkVr) v' := hDb.by hgrow3 (by
     have e : (vars ++ (acc ++ [(nx, (ya : Int))]).map mkVr).map varD = (vars ++ acc.map mkVr).map varD ++ [varD (mkVr (nx, (ya : Int)))] := by simp
     rw [e]; exact hG3)
    have eV : vars ++ acc.map mkVr ++ [(⟨nx, 0, 0, [], (ya : Int)⟩ : Gram.Var)] = vars ++ (acc ++ [(nx, (ya : Int))]).map mkVr := by simp [mkVr]
    have HE : Hid (Gram.Rf.names T f vars s = if Gram.Rf.is T [44] s2 then Gram.Rf.names T f' (vars ++ (acc ++ [(nx, (ya : Int))]).map mkVr) (Gram.Rf.adv s2) else some ((vars ++ (acc ++ [(nx, (ya : Int))]).map mkVr, false), s2)) := by show _ = _; rw [HE.out, eV]
    have hPm := hD3.pa
    have HD3 := ld hD3
    clear hG3 hD3 hown' hvb hDb hD2 hr2 ho2 eV HD
    have hMc := rmaybe_any b g cap T s2 ⟨#[44]⟩ w4 hPm
    unfold Gram.Rf.maybe at hMc
    rw [show ((⟨#[44]⟩ : ByteArray)).data.toList = [44] from rfl] at hMc
    cases hsx : Gram.Rf.is T [44] s2 with
    | true =>
     rw [hsx, if_pos rfl] at hMc
     have he2 := (is_kind hsx).1
     go_wp2_with (go_at_call 67; refine hMc.mono ?_; rintro e w5 ⟨rfl, hP5, hg5⟩)
     go_roundg f'
     case measure => exact Nat.lt_succ_self _
     case rel => exact ⟨acc ++ [(nx, (ya : Int))], Gram.Rf.adv s2, by omega, by simp; omega, fun _ => by simp; omega, ld ⟨HD3.out.on hg5 hP5, by rw [HE.out, if_pos hsx]⟩⟩
    | false =>
     rw [hsx, if_neg (by decide)] at hMc
     have HNx : Hid (Gram.Rf.names T f vars s = some ((vars ++ (acc ++ [(nx, (ya : Int))]).map mkVr, false), s2)) := by show _ = _; rw [HE.out, if_neg (by rw [hsx]; decide)]
     clear HE hn hN hfk hfa hg1 hg2 hg3 hP3 hgA hP p2
     go_wp2_with (go_at_call 67; refine hMc.mono ?_; rintro e w5 ⟨rfl, hP5, hg5⟩; refine Hid.out ?_)
     have HDx := ld (HD3.out.on hg5 hP5)
     have hlx := HDx.out.len
     have hPx := hP5
     clear HD3 hg5 hP5 hMc hPm hlf
     have HRx := ld (HR.out.trans (decl_of HNx.out))
     clear HNx
     have hTk := rtake_any b g cap T s2 ⟨#[58]⟩ _ hPx
     rw [show ((⟨#[58]⟩ : ByteArray)).data.toList = [58] from rfl] at hTk
     have hKd := fun wx (hx : Rp wx b g cap T (Gram.Rf.take T [58] s2)) => rkindm_any b g cap T (Gram.Rf.take T [58] s2) wx hx
     generalize Gram.Rf.kind T (Gram.Rf.take T [58] s2) = kk at hKd HRx
     obtain ⟨kd, t1⟩ := kk
     simp only at hKd
     refine ld ?_
     go_wp2_with (first | (go_at_call 84; refine (hKd _ hPa).mono ?_; rintro e wb ⟨rfl, hPb, hgb⟩; refine Hid.out ?_) | (go_at_call 64; refine hTk.mono ?_; rintro e wa ⟨rfl, hPa, hga⟩))
     have hDb := (HDx.out.on hga hPa).on hgb hPb
     have hvlt := hDb.gro.lt
     have hy8 : ∀ k, v'.ownBlock = some k → k < wb.heap.size := fun k e => hvlt k (by rw [e]; simp)
     have hMb := rmaybe_any b g cap T t1 ⟨#[94]⟩ _ (hPb.alloc (.cells #[.int .i64 kd, .int .i64 0] 34))
     unfold Gram.Rf.maybe at hMb
     rw [show ((⟨#[94]⟩ : ByteArray)).data.toList = [94] from rfl] at hMb
     have HDb := ld hDb
     have hblb := hPb.bl
     clear hDb hvlt hTk hKd hPa hga hgb HDx
     cases hq : Gram.Rf.is T [94] t1 with
     | true =>
      rw [hq, if_pos rfl] at hMb
      have hSz := fun wx (hx : Rp wx b g cap T (Gram.Rf.adv t1)) => rsize_any b g cap T (Gram.Rf.adv t1) wx hx
      have HRy : Hid (R = some (vars ++ (acc ++ [(nx, (ya : Int))]).map (mkTr (kd, (Gram.Rf.size T (Gram.Rf.adv t1)).1)), (Gram.Rf.size T (Gram.Rf.adv t1)).2)) := by show _ = _; rw [HRx.out]; (try simp only); rw [hq, if_pos rfl]
      clear HRx
      generalize Gram.Rf.size T (Gram.Rf.adv t1) = zz at hSz HRy
      obtain ⟨zl, t2⟩ := zz
      simp only at hSz
      have HRy : Hid (R = some (vars ++ (acc ++ [(nx, (ya : Int))]).map (mkTr (kd, zl)), t2)) := HRy
      refine ld ?_
      go_wp2_with (first | (go_at_call 85; refine (hSz _ hPc).mono ?_; rintro e wd ⟨rfl, hPd, hgd⟩; refine Hid.out ?_) | (go_at_call 67; refine hMb.mono ?_; rintro e wc ⟨rfl, hPc, hgc⟩))
      have hgcd : (wb.alloc (.cells #[.int .i64 kd, .int .i64 0] 34)).grownBy wd (some b) := hgc.trans hgd
      have hrowT : wd.heap[wb.heap.size]? = some (.cells #[.int .i64 kd, .int .i64 0] 34 (0, 0)) := (hgcd.block wb.heap.size (by simp) (by simp; omega)).trans (heap_alloc_new wb _)
      obtain ⟨z0, z1, zf⟩ := rcells_2 hrowT
      have hgbd : wb.grownBy wd (some b) := (ga wb _ (some b)).trans hgcd
      have hX := Rp.setX HDb.out.pa hgbd hPd (Nat.le_refl wb.heap.size) 1 (.int .i64 zl)
      have hDw := HDb.out.on hX.2 hX.1
      have hrowU : (wd.setCell ⟨wb.heap.size, 1, none⟩ (.int .i64 zl)).heap[wb.heap.size]? = some (.cells #[.int .i64 kd, .int .i64 zl] 34 (0, 0)) := by rw [heap_setCell_same wd wb.heap.size 1 _ _ _ hrowT]; simp
      obtain ⟨y0, y1, _⟩ := rcells_2 hrowU
      have HDw := ld hDw
      have HY := ld (And.intro y0 y1)
      clear hDw hX hgbd hgcd hMb hSz hPc hgc hPd hgd y0 y1 hrowT hrowU
      refine ld ?_
      go_wp2
      obtain ⟨nw, hnw⟩ : ∃ nw, nw = (acc ++ [(nx, (ya : Int))]) := ⟨_, rfl⟩
      rw [← hnw] at HRy HDw
      obtain ⟨N, hNe⟩ : ∃ N, N = vars.length + nw.length := ⟨_, rfl⟩
      have hlN : ∀ (ty : TypeId) (wx : World), (Builtin.len_ #[28] ty #[v']).run Tryz.prog wx = .ok (.int .i64 (N : Int)) wx := by
       have e := HDw.out.len
       rw [List.length_append, List.length_map, ← hNe] at e
       exact e
      have HNe := ld hNe
      clear hNe hlx hnw HDb
      go_loopg [12] nw.length (fun (gz : Nat) (s12 : Value) (wq : World) => ∃ (M m : Nat), Hid (M = vars.length + m) ∧ m + gz = nw.length ∧ s12 = .int .i64 (M : Int) ∧ wq.cell? ⟨wb.heap.size, 0, none⟩ = some (.int .i64 kd) ∧ wq.cell? ⟨wb.heap.size, 1, none⟩ = some (.int .i64 zl) ∧ Hid (Dr w0 wq b g cap T B t2 (vars ++ (nw.take m).map (mkTr (kd, zl)) ++ (nw.drop m).map mkVr) v'))
      case atStart => exact ⟨vars.length, 0, ld rfl, by omega, rfl, HY.out.1, HY.out.2, ld (by simpa using HDw.out)⟩
      case round =>
       obtain ⟨M, m, HM9, hm9, rfl, c0, c1, HD4⟩ := hrel
       have hN2 := HNe.out
       have hM := HM9.out
       rcases Nat.eq_zero_or_pos gk with hz1 | hz1
       ·have hnl : ¬ (M : Int) < (N : Int) := by omega
        have hme : m = nw.length := by omega
        have HD5 : Hid (Dr w0 wr b g cap T B t2 (vars ++ nw.map (mkTr (kd, zl))) v') := by
         refine ld ?_
         have e := HD4.out
         rw [hme, List.take_length, List.drop_length] at e
         simpa using e
        clear HD4 HDw hN2 hM hme hm9
        go_wp2
        go_ret
        rw [HRy.out]
        exact ⟨_, rfl, HD5.out⟩
       ·have hlt : (M : Int) < (N : Int) := by omega
        have hnn : ¬ (M : Int) < 0 := by omega
        have hml : m < nw.length := by omega
        obtain ⟨f9, hfe9⟩ : ∃ f9, gk = f9 + 1 := ⟨gk - 1, by omega⟩
        have hdr : nw.drop m = nw[m] :: nw.drop (m + 1) := List.drop_eq_getElem_cons hml
        obtain ⟨a, ha⟩ : ∃ a, a = nw[m] := ⟨_, rfl⟩
        rw [← ha] at hdr
        have hD4 := HD4.out
        rw [hdr, List.map_cons] at hD4
        have hge4 := hD4.ge
        have hgr4 := hD4.gro
        obtain ⟨xs4, ho4, _⟩ := hD4.gro
        have hl4 : (vars ++ List.map (mkTr (kd, zl)) (List.take m nw) ++ mkVr a :: List.map mkVr (List.drop (m + 1) nw)).length = N := by
         simp only [List.length_append, List.length_map, List.length_cons, List.length_take, List.length_drop]; omega
        rw [List.length_map, hl4] at ho4
        rcases ho4.2 with ⟨e4, h40⟩ | ⟨gg, cc, cur, e4, hb4, _, hncc, hccm, _⟩
        ·omega
        subst e4
        have hMb : (M : Int) + 1 < 9223372036854775808 := by unfold maxLen at hccm; omega
        have hgg : gg < wb.heap.size := hy8 gg rfl
        have hA : (vars ++ List.map (mkTr (kd, zl)) (List.take m nw)).length = M := by
         simp only [List.length_append, List.length_map, List.length_take]; omega
        obtain ⟨q1, hq1⟩ := hgr4.there (M * 5 + 1) (by rw [List.length_map, hl4]; omega)
        obtain ⟨q2, hq2⟩ := hgr4.there (M * 5 + 1 + 1) (by rw [List.length_map, hl4]; omega)
        have hfz := hgr4.free
        have hn3 : ¬ gg = wb.heap.size := by omega
        have hn3' : ¬ wb.heap.size = gg := by omega
        have hD5 := hD4.put 1 (by omega) (x' := ⟨a.1, kd, 0, [], a.2⟩) (d' := .c (.int .i64 kd)) (u := .int .i64 kd) rfl (.c _) (M * 5 + 1) (by rw [hA])
        have hD6 := hD5.put 2 (by omega) (x' := ⟨a.1, kd, zl, [], a.2⟩) (d' := .c (.int .i64 zl)) (u := .int .i64 zl) rfl (.c _) (M * 5 + 1 + 1) (by rw [hA])
        have HD6 : Hid (Dr w0 ((wr.setCell ⟨gg, M * 5 + 1, none⟩ (.int .i64 kd)).setCell ⟨gg, M * 5 + 1 + 1, none⟩ (.int .i64 zl)) b g cap T B t2 (vars ++ (nw.take (m + 1)).map (mkTr (kd, zl)) ++ (nw.drop (m + 1)).map mkVr) (.slice (some ⟨gg, 0, none⟩) N cc)) := by
         refine ld ?_
         have e : vars ++ (nw.take (m + 1)).map (mkTr (kd, zl)) ++ (nw.drop (m + 1)).map mkVr = vars ++ List.map (mkTr (kd, zl)) (List.take m nw) ++ (⟨a.1, kd, zl, [], a.2⟩ : Gram.Var) :: List.map mkVr (List.drop (m + 1) nw) := by
          rw [List.take_add_one, List.getElem?_eq_getElem hml, ← ha]
          simp [mkTr]
         rw [e]
         exact hD6
        have hc0 : ((wr.setCell ⟨gg, M * 5 + 1, none⟩ (.int .i64 kd)).setCell ⟨gg, M * 5 + 1 + 1, none⟩ (.int .i64 zl)).cell? ⟨wb.heap.size, 0, none⟩ = some (.int .i64 kd) := ((grown_set _ ⟨gg, M * 5 + 1, none⟩ _).trans (grown_set _ ⟨gg, M * 5 + 1 + 1, none⟩ _)).cell c0 (by simp; omega)
        have hc1 : ((wr.setCell ⟨gg, M * 5 + 1, none⟩ (.int .i64 kd)).setCell ⟨gg, M * 5 + 1 + 1, none⟩ (.int .i64 zl)).cell? ⟨wb.heap.size, 1, none⟩ = some (.int .i64 zl) := ((grown_set _ ⟨gg, M * 5 + 1, none⟩ _).trans (grown_set _ ⟨gg, M * 5 + 1 + 1, none⟩ _)).cell c1 (by simp; omega)
        have HC : Hid _ := ld (And.intro hc0 hc1)
        clear hD4 hD5 hD6 HD4 HDw hc0 hc1 hgr4 ho4 hdr ha hN2 hM hl4 hA HY
        go_wp2
        subst hfe9
        go_roundg f9
        case measure => exact Nat.lt_succ_self _
        case rel => exact ⟨M + 1, m + 1, ld (by rw [HM9.out]; omega), by omega, by simp, HC.out.1, HC.out.2, HD6⟩
     | false =>
      rw [hq, if_neg (by decide)] at hMb
      have HRy : Hid (R = some (vars ++ (acc ++ [(nx, (ya : Int))]).map (mkTr (kd, 0)), t1)) := by show _ = _; rw [HRx.out]; (try simp only); rw [hq, if_neg (by decide)]
      clear HRx
      refine ld ?_
      go_wp2_with (go_at_call 67; refine hMb.mono ?_; rintro e wc ⟨rfl, hPc, hgc⟩; refine Hid.out ?_)
      have hrowT : wc.heap[wb.heap.size]? = some (.cells #[.int .i64 kd, .int .i64 0] 34 (0, 0)) := (hgc.block wb.heap.size (by simp) (by simp; omega)).trans (heap_alloc_new wb _)
      obtain ⟨z0, z1, zf⟩ := rcells_2 hrowT
      have hDw := HDb.out.on ((ga wb _ (some b)).trans hgc) hPc
      have HDw := ld hDw
      have HY := ld (And.intro z0 z1)
      clear hDw hMb hPc hgc hrowT z0 z1 zf
      refine ld ?_
      go_wp2
      obtain ⟨nw, hnw⟩ : ∃ nw, nw = (acc ++ [(nx, (ya : Int))]) := ⟨_, rfl⟩
      rw [← hnw] at HRy HDw
      obtain ⟨N, hNe⟩ : ∃ N, N = vars.length + nw.length := ⟨_, rfl⟩
      have hlN : ∀ (ty : TypeId) (wx : World), (Builtin.len_ #[28] ty #[v']).run Tryz.prog wx = .ok (.int .i64 (N : Int)) wx := by
       have e := HDw.out.len
       rw [List.length_append, List.length_map, ← hNe] at e
       exact e
      have HNe := ld hNe
      clear hNe hlx hnw HDb
      go_loopg [12] nw.length (fun (gz : Nat) (s12 : Value) (wq : World) => ∃ (M m : Nat), Hid (M = vars.length + m) ∧ m + gz = nw.length ∧ s12 = .int .i64 (M : Int) ∧ wq.cell? ⟨wb.heap.size, 0, none⟩ = some (.int .i64 kd) ∧ wq.cell? ⟨wb.heap.size, 1, none⟩ = some (.int .i64 0) ∧ Hid (Dr w0 wq b g cap T B t1 (vars ++ (nw.take m).map (mkTr (kd, 0)) ++ (nw.drop m).map mkVr) v'))
      case atStart => exact ⟨vars.length, 0, ld rfl, by omega, rfl, HY.out.1, HY.out.2, ld (by simpa using HDw.out)⟩
      case round =>
       obtain ⟨M, m, HM9, hm9, rfl, c0, c1, HD4⟩ := hrel
       have hN2 := HNe.out
       have hM := HM9.out
       rcases Nat.eq_zero_or_pos gk with hz1 | hz1
       ·have hnl : ¬ (M : Int) < (N : Int) := by omega
        have hme : m = nw.length := by omega
        have HD5 : Hid (Dr w0 wr b g cap T B t1 (vars ++ nw.map (mkTr (kd, 0))) v') := by
         refine ld ?_
         have e := HD4.out
         rw [hme, List.take_length, List.drop_length] at e
         simpa using e
        clear HD4 HDw hN2 hM hme hm9
        go_wp2
        go_ret
        rw [HRy.out]
        exact ⟨_, rfl, HD5.out⟩
       ·have hlt : (M : Int) < (N : Int) := by omega
        have hnn : ¬ (M : Int) < 0 := by omega
        have hml : m < nw.length := by omega
        obtain ⟨f9, hfe9⟩ : ∃ f9, gk = f9 + 1 := ⟨gk - 1, by omega⟩
        have hdr : nw.drop m = nw[m] :: nw.drop (m + 1) := List.drop_eq_getElem_cons hml
        obtain ⟨a, ha⟩ : ∃ a, a = nw[m] := ⟨_, rfl⟩
        rw [← ha] at hdr
        have hD4 := HD4.out
        rw [hdr, List.map_cons] at hD4
        have hge4 := hD4.ge
        have hgr4 := hD4.gro
        obtain ⟨xs4, ho4, _⟩ := hD4.gro
        have hl4 : (vars ++ List.map (mkTr (kd, 0)) (List.take m nw) ++ mkVr a :: List.map mkVr (List.drop (m + 1) nw)).length = N := by
         simp only [List.length_append, List.length_map, List.length_cons, List.length_take, List.length_drop]; omega
        rw [List.length_map, hl4] at ho4
        rcases ho4.2 with ⟨e4, h40⟩ | ⟨gg, cc, cur, e4, hb4, _, hncc, hccm, _⟩
        ·omega
        subst e4
        have hMb : (M : Int) + 1 < 9223372036854775808 := by unfold maxLen at hccm; omega
        have hgg : gg < wb.heap.size := hy8 gg rfl
        have hA : (vars ++ List.map (mkTr (kd, 0)) (List.take m nw)).length = M := by
         simp only [List.length_append, List.length_map, List.length_take]; omega
        obtain ⟨q1, hq1⟩ := hgr4.there (M * 5 + 1) (by rw [List.length_map, hl4]; omega)
        obtain ⟨q2, hq2⟩ := hgr4.there (M * 5 + 1 + 1) (by rw [List.length_map, hl4]; omega)
        have hfz := hgr4.free
        have hn3 : ¬ gg = wb.heap.size := by omega
        have hn3' : ¬ wb.heap.size = gg := by omega
        have hD5 := hD4.put 1 (by omega) (x' := ⟨a.1, kd, 0, [], a.2⟩) (d' := .c (.int .i64 kd)) (u := .int .i64 kd) rfl (.c _) (M * 5 + 1) (by rw [hA])
        have hD6 := hD5.put 2 (by omega) (x' := ⟨a.1, kd, 0, [], a.2⟩) (d' := .c (.int .i64 0)) (u := .int .i64 0) rfl (.c _) (M * 5 + 1 + 1) (by rw [hA])
        have HD6 : Hid (Dr w0 ((wr.setCell ⟨gg, M * 5 + 1, none⟩ (.int .i64 kd)).setCell ⟨gg, M * 5 + 1 + 1, none⟩ (.int .i64 0)) b g cap T B t1 (vars ++ (nw.take (m + 1)).map (mkTr (kd, 0)) ++ (nw.drop (m + 1)).map mkVr) (.slice (some ⟨gg, 0, none⟩) N cc)) := by
         refine ld ?_
         have e : vars ++ (nw.take (m + 1)).map (mkTr (kd, 0)) ++ (nw.drop (m + 1)).map mkVr = vars ++ List.map (mkTr (kd, 0)) (List.take m nw) ++ (⟨a.1, kd, 0, [], a.2⟩ : Gram.Var) :: List.map mkVr (List.drop (m + 1) nw) := by
          rw [List.take_add_one, List.getElem?_eq_getElem hml, ← ha]
          simp [mkTr]
         rw [e]
         exact hD6
        have hc0 : ((wr.setCell ⟨gg, M * 5 + 1, none⟩ (.int .i64 kd)).setCell ⟨gg, M * 5 + 1 + 1, none⟩ (.int .i64 0)).cell? ⟨wb.heap.size, 0, none⟩ = some (.int .i64 kd) := ((grown_set _ ⟨gg, M * 5 + 1, none⟩ _).trans (grown_set _ ⟨gg, M * 5 + 1 + 1, none⟩ _)).cell c0 (by simp; omega)
        have hc1 : ((wr.setCell ⟨gg, M * 5 + 1, none⟩ (.int .i64 kd)).setCell ⟨gg, M * 5 + 1 + 1, none⟩ (.int .i64 0)).cell? ⟨wb.heap.size, 1, none⟩ = some (.int .i64 0) := ((grown_set _ ⟨gg, M * 5 + 1, none⟩ _).trans (grown_set _ ⟨gg, M * 5 + 1 + 1, none⟩ _)).cell c1 (by simp; omega)
        have HC : Hid _ := ld (And.intro hc0 hc1)
        clear hD4 hD5 hD6 HD4 HDw hc0 hc1 hgr4 ho4 hdr ha hN2 hM hl4 hA HY
        go_wp2
        subst hfe9
        go_roundg f9
        case measure => exact Nat.lt_succ_self _
        case rel => exact ⟨M + 1, m + 1, ld (by rw [HM9.out]; omega), by omega, by simp, HC.out.1, HC.out.2, HD6⟩
   ·have bk : (yk == 1) = false := by rw [beq_eq_false_iff_ne]; exact hk
    have HE : Hid (Gram.Rf.names T f vars s = if Gram.Rf.is T [44] s2 then Gram.Rf.names T f' (vars ++ acc.map mkVr ++ [⟨nx, 0, 0, [], (ya : Int)⟩]) (Gram.Rf.adv s2) else some ((vars ++ acc.map mkVr ++ [⟨nx, 0, 0, [], (ya : Int)⟩], false), s2)) := by show _ = _; rw [HN.out, if_pos HE0.out, if_neg (fun e => hk e.1)]
    have hnc : Gram.Rf.is T [44] s2 = false := by
     have := hbad hk
     unfold Gram.Rf.is
     have e : (s2.e == 0) = false := by rw [beq_eq_false_iff_ne]; exact this
     rw [e]; rfl
    clear HN hbad hk
    go_wp2_with (first | (go_at_call 45; first | (refine (hn _ (hP.kept hg1)).mono ?_; rintro e w2 ⟨rfl, hg2⟩) | (refine (hn _ hP).mono ?_; rintro e w1 ⟨rfl, hg1⟩)) | (go_at_call 65; refine (hN _ ((hP.kept hg1).kept hg2)).mono ?_; rintro e w3 ⟨rfl, hP3, hg3⟩; refine Hid.out ?_))
    have hgA : wr.grownBy w3 (some b) := (grown_some (hg1.trans hg2) b).trans hg3
    have hD2 := HD.out.on hgA hP3
    have hDb := hD2.kept0 (ga w3 (.cells #[.string ⟨nx.toArray⟩, .int .i64 0, .int .i64 0, .slice none 0 0, .int .i64 (ya : Int)] 112) none)
    obtain ⟨xs2, ho2, hr2⟩ := hDb.gro
    rw [List.length_map, List.length_append, List.length_map] at ho2
    refine ld ?_
    go_wp2_with (at_builtin; refine wpList_append_own_at _ rfl _ _ 28 rfl B 112 it _ 5 64 Tryz.underlying28 hit hz hsz hby rfl (by decide) _ (vars.length + acc.length) xs2 rfl ho2 ⟨w3.heap.size, 0, none⟩ 1 1 [.string ⟨nx.toArray⟩, .int .i64 0, .int .i64 0, .slice none 0 0, .int .i64 (ya : Int)] rfl rfl (cell_row_new w3 [.string ⟨nx.toArray⟩, .int .i64 0, .int .i64 0, .slice none 0 0, .int .i64 (ya : Int)] 112) (by simp [Value.oneCell']) ?_ ?_ ?_ ?_)
    ·unfold maxLen; omega
    ·omega
    ·exact hDb.Bs
    intro v' w4 hown' hgrow3 _ hvb
    have hG3 : GrowD w4 B 112 5 ((vars ++ acc.map mkVr).map varD ++ [varD (mkVr (nx, (ya : Int)))]) v' := growD_snoc hgrow3 (by rw [List.length_map, List.length_append, List.length_map]; exact hown') hr2 (.cons (.c _) (.cons (.c _) (.cons (.c _) (.cons (RepC.nil _ _ _ _ _) (.cons (.c _) .nil))))) (by first | exact hvb | (rw [World.size_alloc]; exact hvb))
    have hD3 : Dr w0 w4 b g cap T B s2 (vars ++ (acc ++ [(nx, (ya : Int))]).map mkVr) v' := hDb.by hgrow3 (by
     have e : (vars ++ (acc ++ [(nx, (ya : Int))]).map mkVr).map varD = (vars ++ acc.map mkVr).map varD ++ [varD (mkVr (nx, (ya : Int)))] := by simp
     rw [e]; exact hG3)
    have eV : vars ++ acc.map mkVr ++ [(⟨nx, 0, 0, [], (ya : Int)⟩ : Gram.Var)] = vars ++ (acc ++ [(nx, (ya : Int))]).map mkVr := by simp [mkVr]
    have HE : Hid (Gram.Rf.names T f vars s = if Gram.Rf.is T [44] s2 then Gram.Rf.names T f' (vars ++ (acc ++ [(nx, (ya : Int))]).map mkVr) (Gram.Rf.adv s2) else some ((vars ++ (acc ++ [(nx, (ya : Int))]).map mkVr, false), s2)) := by show _ = _; rw [HE.out, eV]
    have hPm := hD3.pa
    have HD3 := ld hD3
    clear hG3 hD3 hown' hvb hDb hD2 hr2 ho2 eV HD
    have hMc := rmaybe_any b g cap T s2 ⟨#[44]⟩ w4 hPm
    unfold Gram.Rf.maybe at hMc
    rw [show ((⟨#[44]⟩ : ByteArray)).data.toList = [44] from rfl] at hMc
    have hsx := hnc
    rw [hsx, if_neg (by decide)] at hMc
    have HNx : Hid (Gram.Rf.names T f vars s = some ((vars ++ (acc ++ [(nx, (ya : Int))]).map mkVr, false), s2)) := by show _ = _; rw [HE.out, if_neg (by rw [hsx]; decide)]
    clear HE hn hN hfk hfa hg1 hg2 hg3 hP3 hgA hP p2
    go_wp2_with (go_at_call 67; refine hMc.mono ?_; rintro e w5 ⟨rfl, hP5, hg5⟩; refine Hid.out ?_)
    have HDx := ld (HD3.out.on hg5 hP5)
    have hlx := HDx.out.len
    have hPx := hP5
    clear HD3 hg5 hP5 hMc hPm hlf
    have HRx := ld (HR.out.trans (decl_of HNx.out))
    clear HNx
    have hTk := rtake_any b g cap T s2 ⟨#[58]⟩ _ hPx
    rw [show ((⟨#[58]⟩ : ByteArray)).data.toList = [58] from rfl] at hTk
    have hKd := fun wx (hx : Rp wx b g cap T (Gram.Rf.take T [58] s2)) => rkindm_any b g cap T (Gram.Rf.take T [58] s2) wx hx
    generalize Gram.Rf.kind T (Gram.Rf.take T [58] s2) = kk at hKd HRx
    obtain ⟨kd, t1⟩ := kk
    simp only at hKd
    refine ld ?_
    go_wp2_with (first | (go_at_call 84; refine (hKd _ hPa).mono ?_; rintro e wb ⟨rfl, hPb, hgb⟩; refine Hid.out ?_) | (go_at_call 64; refine hTk.mono ?_; rintro e wa ⟨rfl, hPa, hga⟩))
    have hDb := (HDx.out.on hga hPa).on hgb hPb
    have hvlt := hDb.gro.lt
    have hy8 : ∀ k, v'.ownBlock = some k → k < wb.heap.size := fun k e => hvlt k (by rw [e]; simp)
    have hMb := rmaybe_any b g cap T t1 ⟨#[94]⟩ _ (hPb.alloc (.cells #[.int .i64 kd, .int .i64 0] 34))
    unfold Gram.Rf.maybe at hMb
    rw [show ((⟨#[94]⟩ : ByteArray)).data.toList = [94] from rfl] at hMb
    have HDb := ld hDb
    have hblb := hPb.bl
    clear hDb hvlt hTk hKd hPa hga hgb HDx
    cases hq : Gram.Rf.is T [94] t1 with
    | true =>
     rw [hq, if_pos rfl] at hMb
     have hSz := fun wx (hx : Rp wx b g cap T (Gram.Rf.adv t1)) => rsize_any b g cap T (Gram.Rf.adv t1) wx hx
     have HRy : Hid (R = some (vars ++ (acc ++ [(nx, (ya : Int))]).map (mkTr (kd, (Gram.Rf.size T (Gram.Rf.adv t1)).1)), (Gram.Rf.size T (Gram.Rf.adv t1)).2)) := by show _ = _; rw [HRx.out]; (try simp only); rw [hq, if_pos rfl]
     clear HRx
     generalize Gram.Rf.size T (Gram.Rf.adv t1) = zz at hSz HRy
     obtain ⟨zl, t2⟩ := zz
     simp only at hSz
     have HRy : Hid (R = some (vars ++ (acc ++ [(nx, (ya : Int))]).map (mkTr (kd, zl)), t2)) := HRy
     refine ld ?_
     go_wp2_with (first | (go_at_call 85; refine (hSz _ hPc).mono ?_; rintro e wd ⟨rfl, hPd, hgd⟩; refine Hid.out ?_) | (go_at_call 67; refine hMb.mono ?_; rintro e wc ⟨rfl, hPc, hgc⟩))
     have hgcd : (wb.alloc (.cells #[.int .i64 kd, .int .i64 0] 34)).grownBy wd (some b) := hgc.trans hgd
     have hrowT : wd.heap[wb.heap.size]? = some (.cells #[.int .i64 kd, .int .i64 0] 34 (0, 0)) := (hgcd.block wb.heap.size (by simp) (by simp; omega)).trans (heap_alloc_new wb _)
     obtain ⟨z0, z1, zf⟩ := rcells_2 hrowT
     have hgbd : wb.grownBy wd (some b) := (ga wb _ (some b)).trans hgcd
     have hX := Rp.setX HDb.out.pa hgbd hPd (Nat.le_refl wb.heap.size) 1 (.int .i64 zl)
     have hDw := HDb.out.on hX.2 hX.1
     have hrowU : (wd.setCell ⟨wb.heap.size, 1, none⟩ (.int .i64 zl)).heap[wb.heap.size]? = some (.cells #[.int .i64 kd, .int .i64 zl] 34 (0, 0)) := by rw [heap_setCell_same wd wb.heap.size 1 _ _ _ hrowT]; simp
     obtain ⟨y0, y1, _⟩ := rcells_2 hrowU
     have HDw := ld hDw
     have HY := ld (And.intro y0 y1)
     clear hDw hX hgbd hgcd hMb hSz hPc hgc hPd hgd y0 y1 hrowT hrowU
     refine ld ?_
     go_wp2
     obtain ⟨nw, hnw⟩ : ∃ nw, nw = (acc ++ [(nx, (ya : Int))]) := ⟨_, rfl⟩
     rw [← hnw] at HRy HDw
     obtain ⟨N, hNe⟩ : ∃ N, N = vars.length + nw.length := ⟨_, rfl⟩
     have hlN : ∀ (ty : TypeId) (wx : World), (Builtin.len_ #[28] ty #[v']).run Tryz.prog wx = .ok (.int .i64 (N : Int)) wx := by
      have e := HDw.out.len
      rw [List.length_append, List.length_map, ← hNe] at e
      exact e
     have HNe := ld hNe
     clear hNe hlx hnw HDb
     go_loopg [12] nw.length (fun (gz : Nat) (s12 : Value) (wq : World) => ∃ (M m : Nat), Hid (M = vars.length + m) ∧ m + gz = nw.length ∧ s12 = .int .i64 (M : Int) ∧ wq.cell? ⟨wb.heap.size, 0, none⟩ = some (.int .i64 kd) ∧ wq.cell? ⟨wb.heap.size, 1, none⟩ = some (.int .i64 zl) ∧ Hid (Dr w0 wq b g cap T B t2 (vars ++ (nw.take m).map (mkTr (kd, zl)) ++ (nw.drop m).map mkVr) v'))
     case atStart => exact ⟨vars.length, 0, ld rfl, by omega, rfl, HY.out.1, HY.out.2, ld (by simpa using HDw.out)⟩
     case round =>
      obtain ⟨M, m, HM9, hm9, rfl, c0, c1, HD4⟩ := hrel
      have hN2 := HNe.out
      have hM := HM9.out
      rcases Nat.eq_zero_or_pos gk with hz1 | hz1
      ·have hnl : ¬ (M : Int) < (N : Int) := by omega
       have hme : m = nw.length := by omega
       have HD5 : Hid (Dr w0 wr b g cap T B t2 (vars ++ nw.map (mkTr (kd, zl))) v') := by
        refine ld ?_
        have e := HD4.out
        rw [hme, List.take_length, List.drop_length] at e
        simpa using e
       clear HD4 HDw hN2 hM hme hm9
       go_wp2
       go_ret
       rw [HRy.out]
       exact ⟨_, rfl, HD5.out⟩
      ·have hlt : (M : Int) < (N : Int) := by omega
       have hnn : ¬ (M : Int) < 0 := by omega
       have hml : m < nw.length := by omega
       obtain ⟨f9, hfe9⟩ : ∃ f9, gk = f9 + 1 := ⟨gk - 1, by omega⟩
       have hdr : nw.drop m = nw[m] :: nw.drop (m + 1) := List.drop_eq_getElem_cons hml
       obtain ⟨a, ha⟩ : ∃ a, a = nw[m] := ⟨_, rfl⟩
       rw [← ha] at hdr
       have hD4 := HD4.out
       rw [hdr, List.map_cons] at hD4
       have hge4 := hD4.ge
       have hgr4 := hD4.gro
       obtain ⟨xs4, ho4, _⟩ := hD4.gro
       have hl4 : (vars ++ List.map (mkTr (kd, zl)) (List.take m nw) ++ mkVr a :: List.map mkVr (List.drop (m + 1) nw)).length = N := by
        simp only [List.length_append, List.length_map, List.length_cons, List.length_take, List.length_drop]; omega
       rw [List.length_map, hl4] at ho4
       rcases ho4.2 with ⟨e4, h40⟩ | ⟨gg, cc, cur, e4, hb4, _, hncc, hccm, _⟩
       ·omega
       subst e4
       have hMb : (M : Int) + 1 < 9223372036854775808 := by unfold maxLen at hccm; omega
       have hgg : gg < wb.heap.size := hy8 gg rfl
       have hA : (vars ++ List.map (mkTr (kd, zl)) (List.take m nw)).length = M := by
        simp only [List.length_append, List.length_map, List.length_take]; omega
       obtain ⟨q1, hq1⟩ := hgr4.there (M * 5 + 1) (by rw [List.length_map, hl4]; omega)
       obtain ⟨q2, hq2⟩ := hgr4.there (M * 5 + 1 + 1) (by rw [List.length_map, hl4]; omega)
       have hfz := hgr4.free
       have hn3 : ¬ gg = wb.heap.size := by omega
       have hn3' : ¬ wb.heap.size = gg := by omega
       have hD5 := hD4.put 1 (by omega) (x' := ⟨a.1, kd, 0, [], a.2⟩) (d' := .c (.int .i64 kd)) (u := .int .i64 kd) rfl (.c _) (M * 5 + 1) (by rw [hA])
       have hD6 := hD5.put 2 (by omega) (x' := ⟨a.1, kd, zl, [], a.2⟩) (d' := .c (.int .i64 zl)) (u := .int .i64 zl) rfl (.c _) (M * 5 + 1 + 1) (by rw [hA])
       have HD6 : Hid (Dr w0 ((wr.setCell ⟨gg, M * 5 + 1, none⟩ (.int .i64 kd)).setCell ⟨gg, M * 5 + 1 + 1, none⟩ (.int .i64 zl)) b g cap T B t2 (vars ++ (nw.take (m + 1)).map (mkTr (kd, zl)) ++ (nw.drop (m + 1)).map mkVr) (.slice (some ⟨gg, 0, none⟩) N cc)) := by
        refine ld ?_
        have e : vars ++ (nw.take (m + 1)).map (mkTr (kd, zl)) ++ (nw.drop (m + 1)).map mkVr = vars ++ List.map (mkTr (kd, zl)) (List.take m nw) ++ (⟨a.1, kd, zl, [], a.2⟩ : Gram.Var) :: List.map mkVr (List.drop (m + 1) nw) := by
         rw [List.take_add_one, List.getElem?_eq_getElem hml, ← ha]
         simp [mkTr]
        rw [e]
        exact hD6
       have hc0 : ((wr.setCell ⟨gg, M * 5 + 1, none⟩ (.int .i64 kd)).setCell ⟨gg, M * 5 + 1 + 1, none⟩ (.int .i64 zl)).cell? ⟨wb.heap.size, 0, none⟩ = some (.int .i64 kd) := ((grown_set _ ⟨gg, M * 5 + 1, none⟩ _).trans (grown_set _ ⟨gg, M * 5 + 1 + 1, none⟩ _)).cell c0 (by simp; omega)
       have hc1 : ((wr.setCell ⟨gg, M * 5 + 1, none⟩ (.int .i64 kd)).setCell ⟨gg, M * 5 + 1 + 1, none⟩ (.int .i64 zl)).cell? ⟨wb.heap.size, 1, none⟩ = some (.int .i64 zl) := ((grown_set _ ⟨gg, M * 5 + 1, none⟩ _).trans (grown_set _ ⟨gg, M * 5 + 1 + 1, none⟩ _)).cell c1 (by simp; omega)
       have HC : Hid _ := ld (And.intro hc0 hc1)
       clear hD4 hD5 hD6 HD4 HDw hc0 hc1 hgr4 ho4 hdr ha hN2 hM hl4 hA HY
       go_wp2
       subst hfe9
       go_roundg f9
       case measure => exact Nat.lt_succ_self _
       case rel => exact ⟨M + 1, m + 1, ld (by rw [HM9.out]; omega), by omega, by simp, HC.out.1, HC.out.2, HD6⟩
    | false =>
     rw [hq, if_neg (by decide)] at hMb
     have HRy : Hid (R = some (vars ++ (acc ++ [(nx, (ya : Int))]).map (mkTr (kd, 0)), t1)) := by show _ = _; rw [HRx.out]; (try simp only); rw [hq, if_neg (by decide)]
     clear HRx
     refine ld ?_
     go_wp2_with (go_at_call 67; refine hMb.mono ?_; rintro e wc ⟨rfl, hPc, hgc⟩; refine Hid.out ?_)
     have hrowT : wc.heap[wb.heap.size]? = some (.cells #[.int .i64 kd, .int .i64 0] 34 (0, 0)) := (hgc.block wb.heap.size (by simp) (by simp; omega)).trans (heap_alloc_new wb _)
     obtain ⟨z0, z1, zf⟩ := rcells_2 hrowT
     have hDw := HDb.out.on ((ga wb _ (some b)).trans hgc) hPc
     have HDw := ld hDw
     have HY := ld (And.intro z0 z1)
     clear hDw hMb hPc hgc hrowT z0 z1 zf
     refine ld ?_
     go_wp2
     obtain ⟨nw, hnw⟩ : ∃ nw, nw = (acc ++ [(nx, (ya : Int))]) := ⟨_, rfl⟩
     rw [← hnw] at HRy HDw
     obtain ⟨N, hNe⟩ : ∃ N, N = vars.length + nw.length := ⟨_, rfl⟩
     have hlN : ∀ (ty : TypeId) (wx : World), (Builtin.len_ #[28] ty #[v']).run Tryz.prog wx = .ok (.int .i64 (N : Int)) wx := by
      have e := HDw.out.len
      rw [List.length_append, List.length_map, ← hNe] at e
      exact e
     have HNe := ld hNe
     clear hNe hlx hnw HDb
     go_loopg [12] nw.length (fun (gz : Nat) (s12 : Value) (wq : World) => ∃ (M m : Nat), Hid (M = vars.length + m) ∧ m + gz = nw.length ∧ s12 = .int .i64 (M : Int) ∧ wq.cell? ⟨wb.heap.size, 0, none⟩ = some (.int .i64 kd) ∧ wq.cell? ⟨wb.heap.size, 1, none⟩ = some (.int .i64 0) ∧ Hid (Dr w0 wq b g cap T B t1 (vars ++ (nw.take m).map (mkTr (kd, 0)) ++ (nw.drop m).map mkVr) v'))
     case atStart => exact ⟨vars.length, 0, ld rfl, by omega, rfl, HY.out.1, HY.out.2, ld (by simpa using HDw.out)⟩
     case round =>
      obtain ⟨M, m, HM9, hm9, rfl, c0, c1, HD4⟩ := hrel
      have hN2 := HNe.out
      have hM := HM9.out
      rcases Nat.eq_zero_or_pos gk with hz1 | hz1
      ·have hnl : ¬ (M : Int) < (N : Int) := by omega
       have hme : m = nw.length := by omega
       have HD5 : Hid (Dr w0 wr b g cap T B t1 (vars ++ nw.map (mkTr (kd, 0))) v') := by
        refine ld ?_
        have e := HD4.out
        rw [hme, List.take_length, List.drop_length] at e
        simpa using e
       clear HD4 HDw hN2 hM hme hm9
       go_wp2
       go_ret
       rw [HRy.out]
       exact ⟨_, rfl, HD5.out⟩
      ·have hlt : (M : Int) < (N : Int) := by omega
       have hnn : ¬ (M : Int) < 0 := by omega
       have hml : m < nw.length := by omega
       obtain ⟨f9, hfe9⟩ : ∃ f9, gk = f9 + 1 := ⟨gk - 1, by omega⟩
       have hdr : nw.drop m = nw[m] :: nw.drop (m + 1) := List.drop_eq_getElem_cons hml
       obtain ⟨a, ha⟩ : ∃ a, a = nw[m] := ⟨_, rfl⟩
       rw [← ha] at hdr
       have hD4 := HD4.out
       rw [hdr, List.map_cons] at hD4
       have hge4 := hD4.ge
       have hgr4 := hD4.gro
       obtain ⟨xs4, ho4, _⟩ := hD4.gro
       have hl4 : (vars ++ List.map (mkTr (kd, 0)) (List.take m nw) ++ mkVr a :: List.map mkVr (List.drop (m + 1) nw)).length = N := by
        simp only [List.length_append, List.length_map, List.length_cons, List.length_take, List.length_drop]; omega
       rw [List.length_map, hl4] at ho4
       rcases ho4.2 with ⟨e4, h40⟩ | ⟨gg, cc, cur, e4, hb4, _, hncc, hccm, _⟩
       ·omega
       subst e4
       have hMb : (M : Int) + 1 < 9223372036854775808 := by unfold maxLen at hccm; omega
       have hgg : gg < wb.heap.size := hy8 gg rfl
       have hA : (vars ++ List.map (mkTr (kd, 0)) (List.take m nw)).length = M := by
        simp only [List.length_append, List.length_map, List.length_take]; omega
       obtain ⟨q1, hq1⟩ := hgr4.there (M * 5 + 1) (by rw [List.length_map, hl4]; omega)
       obtain ⟨q2, hq2⟩ := hgr4.there (M * 5 + 1 + 1) (by rw [List.length_map, hl4]; omega)
       have hfz := hgr4.free
       have hn3 : ¬ gg = wb.heap.size := by omega
       have hn3' : ¬ wb.heap.size = gg := by omega
       have hD5 := hD4.put 1 (by omega) (x' := ⟨a.1, kd, 0, [], a.2⟩) (d' := .c (.int .i64 kd)) (u := .int .i64 kd) rfl (.c _) (M * 5 + 1) (by rw [hA])
       have hD6 := hD5.put 2 (by omega) (x' := ⟨a.1, kd, 0, [], a.2⟩) (d' := .c (.int .i64 0)) (u := .int .i64 0) rfl (.c _) (M * 5 + 1 + 1) (by rw [hA])
       have HD6 : Hid (Dr w0 ((wr.setCell ⟨gg, M * 5 + 1, none⟩ (.int .i64 kd)).setCell ⟨gg, M * 5 + 1 + 1, none⟩ (.int .i64 0)) b g cap T B t1 (vars ++ (nw.take (m + 1)).map (mkTr (kd, 0)) ++ (nw.drop (m + 1)).map mkVr) (.slice (some ⟨gg, 0, none⟩) N cc)) := by
        refine ld ?_
        have e : vars ++ (nw.take (m + 1)).map (mkTr (kd, 0)) ++ (nw.drop (m + 1)).map mkVr = vars ++ List.map (mkTr (kd, 0)) (List.take m nw) ++ (⟨a.1, kd, 0, [], a.2⟩ : Gram.Var) :: List.map mkVr (List.drop (m + 1) nw) := by
         rw [List.take_add_one, List.getElem?_eq_getElem hml, ← ha]
         simp [mkTr]
        rw [e]
        exact hD6
       have hc0 : ((wr.setCell ⟨gg, M * 5 + 1, none⟩ (.int .i64 kd)).setCell ⟨gg, M * 5 + 1 + 1, none⟩ (.int .i64 0)).cell? ⟨wb.heap.size, 0, none⟩ = some (.int .i64 kd) := ((grown_set _ ⟨gg, M * 5 + 1, none⟩ _).trans (grown_set _ ⟨gg, M * 5 + 1 + 1, none⟩ _)).cell c0 (by simp; omega)
       have hc1 : ((wr.setCell ⟨gg, M * 5 + 1, none⟩ (.int .i64 kd)).setCell ⟨gg, M * 5 + 1 + 1, none⟩ (.int .i64 0)).cell? ⟨wb.heap.size, 1, none⟩ = some (.int .i64 0) := ((grown_set _ ⟨gg, M * 5 + 1, none⟩ _).trans (grown_set _ ⟨gg, M * 5 + 1 + 1, none⟩ _)).cell c1 (by simp; omega)
       have HC : Hid _ := ld (And.intro hc0 hc1)
       clear hD4 hD5 hD6 HD4 HDw hc0 hc1 hgr4 ho4 hdr ha hN2 hM hl4 hA HY
       go_wp2
       subst hfe9
       go_roundg f9
       case measure => exact Nat.lt_succ_self _
       case rel => exact ⟨M + 1, m + 1, ld (by rw [HM9.out]; omega), by omega, by simp, HC.out.1, HC.out.2, HD6⟩
  ·have b0 : (s'.e == 0) = false := by rw [beq_eq_false_iff_ne]; exact he
   have HNx : Hid (Gram.Rf.names T f vars s = some ((vars ++ acc.map mkVr, false), s')) := by show _ = _; rw [HN.out, if_neg he]
   clear HN he
   generalize s'.e = e0 at p2 b0
   have HDx := HD
   have hlx := hlf
   have hPx := hP
   clear HD hlf
   have HRx := ld (HR.out.trans (decl_of HNx.out))
   clear HNx
   have hTk := rtake_any b g cap T s' ⟨#[58]⟩ _ hPx
   rw [show ((⟨#[58]⟩ : ByteArray)).data.toList = [58] from rfl] at hTk
   have hKd := fun wx (hx : Rp wx b g cap T (Gram.Rf.take T [58] s')) => rkindm_any b g cap T (Gram.Rf.take T [58] s') wx hx
   generalize Gram.Rf.kind T (Gram.Rf.take T [58] s') = kk at hKd HRx
   obtain ⟨kd, t1⟩ := kk
   simp only at hKd
   go_wp2_with (first | (go_at_call 84; refine (hKd _ hPa).mono ?_; rintro e wb ⟨rfl, hPb, hgb⟩; refine Hid.out ?_) | (go_at_call 64; refine hTk.mono ?_; rintro e wa ⟨rfl, hPa, hga⟩))
   have hDb := (HDx.out.on hga hPa).on hgb hPb
   have hvlt := hDb.gro.lt
   have hy8 : ∀ k, u1.ownBlock = some k → k < wb.heap.size := fun k e => hvlt k (by rw [e]; simp)
   have hMb := rmaybe_any b g cap T t1 ⟨#[94]⟩ _ (hPb.alloc (.cells #[.int .i64 kd, .int .i64 0] 34))
   unfold Gram.Rf.maybe at hMb
   rw [show ((⟨#[94]⟩ : ByteArray)).data.toList = [94] from rfl] at hMb
   have HDb := ld hDb
   have hblb := hPb.bl
   clear hDb hvlt hTk hKd hPa hga hgb HDx
   cases hq : Gram.Rf.is T [94] t1 with
   | true =>
    rw [hq, if_pos rfl] at hMb
    have hSz := fun wx (hx : Rp wx b g cap T (Gram.Rf.adv t1)) => rsize_any b g cap T (Gram.Rf.adv t1) wx hx
    have HRy : Hid (R = some (vars ++ (acc).map (mkTr (kd, (Gram.Rf.size T (Gram.Rf.adv t1)).1)), (Gram.Rf.size T (Gram.Rf.adv t1)).2)) := by show _ = _; rw [HRx.out]; (try simp only); rw [hq, if_pos rfl]
    clear HRx
    generalize Gram.Rf.size T (Gram.Rf.adv t1) = zz at hSz HRy
    obtain ⟨zl, t2⟩ := zz
    simp only at hSz
    have HRy : Hid (R = some (vars ++ (acc).map (mkTr (kd, zl)), t2)) := HRy
    refine ld ?_
    go_wp2_with (first | (go_at_call 85; refine (hSz _ hPc).mono ?_; rintro e wd ⟨rfl, hPd, hgd⟩; refine Hid.out ?_) | (go_at_call 67; refine hMb.mono ?_; rintro e wc ⟨rfl, hPc, hgc⟩))
    have hgcd : (wb.alloc (.cells #[.int .i64 kd, .int .i64 0] 34)).grownBy wd (some b) := hgc.trans hgd
    have hrowT : wd.heap[wb.heap.size]? = some (.cells #[.int .i64 kd, .int .i64 0] 34 (0, 0)) := (hgcd.block wb.heap.size (by simp) (by simp; omega)).trans (heap_alloc_new wb _)
    obtain ⟨z0, z1, zf⟩ := rcells_2 hrowT
    have hgbd : wb.grownBy wd (some b) := (ga wb _ (some b)).trans hgcd
    have hX := Rp.setX HDb.out.pa hgbd hPd (Nat.le_refl wb.heap.size) 1 (.int .i64 zl)
    have hDw := HDb.out.on hX.2 hX.1
    have hrowU : (wd.setCell ⟨wb.heap.size, 1, none⟩ (.int .i64 zl)).heap[wb.heap.size]? = some (.cells #[.int .i64 kd, .int .i64 zl] 34 (0, 0)) := by rw [heap_setCell_same wd wb.heap.size 1 _ _ _ hrowT]; simp
    obtain ⟨y0, y1, _⟩ := rcells_2 hrowU
    have HDw := ld hDw
    have HY := ld (And.intro y0 y1)
    clear hDw hX hgbd hgcd hMb hSz hPc hgc hPd hgd y0 y1 hrowT hrowU
    refine ld ?_
    go_wp2
    obtain ⟨nw, hnw⟩ : ∃ nw, nw = (acc) := ⟨_, rfl⟩
    rw [← hnw] at HRy HDw
    obtain ⟨N, hNe⟩ : ∃ N, N = vars.length + nw.length := ⟨_, rfl⟩
    have hlN : ∀ (ty : TypeId) (wx : World), (Builtin.len_ #[28] ty #[u1]).run Tryz.prog wx = .ok (.int .i64 (N : Int)) wx := by
     have e := HDw.out.len
     rw [List.length_append, List.length_map, ← hNe] at e
     exact e
    have HNe := ld hNe
    clear hNe hlx hnw HDb
    go_loopg [12] nw.length (fun (gz : Nat) (s12 : Value) (wq : World) => ∃ (M m : Nat), Hid (M = vars.length + m) ∧ m + gz = nw.length ∧ s12 = .int .i64 (M : Int) ∧ wq.cell? ⟨wb.heap.size, 0, none⟩ = some (.int .i64 kd) ∧ wq.cell? ⟨wb.heap.size, 1, none⟩ = some (.int .i64 zl) ∧ Hid (Dr w0 wq b g cap T B t2 (vars ++ (nw.take m).map (mkTr (kd, zl)) ++ (nw.drop m).map mkVr) u1))
    case atStart => exact ⟨vars.length, 0, ld rfl, by omega, rfl, HY.out.1, HY.out.2, ld (by simpa using HDw.out)⟩
    case round =>
     obtain ⟨M, m, HM9, hm9, rfl, c0, c1, HD4⟩ := hrel
     have hN2 := HNe.out
     have hM := HM9.out
     rcases Nat.eq_zero_or_pos gk with hz1 | hz1
     ·have hnl : ¬ (M : Int) < (N : Int) := by omega
      have hme : m = nw.length := by omega
      have HD5 : Hid (Dr w0 wr b g cap T B t2 (vars ++ nw.map (mkTr (kd, zl))) u1) := by
       refine ld ?_
       have e := HD4.out
       rw [hme, List.take_length, List.drop_length] at e
       simpa using e
      clear HD4 HDw hN2 hM hme hm9
      go_wp2
      go_ret
      rw [HRy.out]
      exact ⟨_, rfl, HD5.out⟩
     ·have hlt : (M : Int) < (N : Int) := by omega
      have hnn : ¬ (M : Int) < 0 := by omega
      have hml : m < nw.length := by omega
      obtain ⟨f9, hfe9⟩ : ∃ f9, gk = f9 + 1 := ⟨gk - 1, by omega⟩
      have hdr : nw.drop m = nw[m] :: nw.drop (m + 1) := List.drop_eq_getElem_cons hml
      obtain ⟨a, ha⟩ : ∃ a, a = nw[m] := ⟨_, rfl⟩
      rw [← ha] at hdr
      have hD4 := HD4.out
      rw [hdr, List.map_cons] at hD4
      have hge4 := hD4.ge
      have hgr4 := hD4.gro
      obtain ⟨xs4, ho4, _⟩ := hD4.gro
      have hl4 : (vars ++ List.map (mkTr (kd, zl)) (List.take m nw) ++ mkVr a :: List.map mkVr (List.drop (m + 1) nw)).length = N := by
       simp only [List.length_append, List.length_map, List.length_cons, List.length_take, List.length_drop]; omega
      rw [List.length_map, hl4] at ho4
      rcases ho4.2 with ⟨e4, h40⟩ | ⟨gg, cc, cur, e4, hb4, _, hncc, hccm, _⟩
      ·omega
      subst e4
      have hMb : (M : Int) + 1 < 9223372036854775808 := by unfold maxLen at hccm; omega
      have hgg : gg < wb.heap.size := hy8 gg rfl
      have hA : (vars ++ List.map (mkTr (kd, zl)) (List.take m nw)).length = M := by
       simp only [List.length_append, List.length_map, List.length_take]; omega
      obtain ⟨q1, hq1⟩ := hgr4.there (M * 5 + 1) (by rw [List.length_map, hl4]; omega)
      obtain ⟨q2, hq2⟩ := hgr4.there (M * 5 + 1 + 1) (by rw [List.length_map, hl4]; omega)
      have hfz := hgr4.free
      have hn3 : ¬ gg = wb.heap.size := by omega
      have hn3' : ¬ wb.heap.size = gg := by omega
      have hD5 := hD4.put 1 (by omega) (x' := ⟨a.1, kd, 0, [], a.2⟩) (d' := .c (.int .i64 kd)) (u := .int .i64 kd) rfl (.c _) (M * 5 + 1) (by rw [hA])
      have hD6 := hD5.put 2 (by omega) (x' := ⟨a.1, kd, zl, [], a.2⟩) (d' := .c (.int .i64 zl)) (u := .int .i64 zl) rfl (.c _) (M * 5 + 1 + 1) (by rw [hA])
      have HD6 : Hid (Dr w0 ((wr.setCell ⟨gg, M * 5 + 1, none⟩ (.int .i64 kd)).setCell ⟨gg, M * 5 + 1 + 1, none⟩ (.int .i64 zl)) b g cap T B t2 (vars ++ (nw.take (m + 1)).map (mkTr (kd, zl)) ++ (nw.drop (m + 1)).map mkVr) (.slice (some ⟨gg, 0, none⟩) N cc)) := by
       refine ld ?_
       have e : vars ++ (nw.take (m + 1)).map (mkTr (kd, zl)) ++ (nw.drop (m + 1)).map mkVr = vars ++ List.map (mkTr (kd, zl)) (List.take m nw) ++ (⟨a.1, kd, zl, [], a.2⟩ : Gram.Var) :: List.map mkVr (List.drop (m + 1) nw) := by
        rw [List.take_add_one, List.getElem?_eq_getElem hml, ← ha]
        simp [mkTr]
       rw [e]
       exact hD6
      have hc0 : ((wr.setCell ⟨gg, M * 5 + 1, none⟩ (.int .i64 kd)).setCell ⟨gg, M * 5 + 1 + 1, none⟩ (.int .i64 zl)).cell? ⟨wb.heap.size, 0, none⟩ = some (.int .i64 kd) := ((grown_set _ ⟨gg, M * 5 + 1, none⟩ _).trans (grown_set _ ⟨gg, M * 5 + 1 + 1, none⟩ _)).cell c0 (by simp; omega)
      have hc1 : ((wr.setCell ⟨gg, M * 5 + 1, none⟩ (.int .i64 kd)).setCell ⟨gg, M * 5 + 1 + 1, none⟩ (.int .i64 zl)).cell? ⟨wb.heap.size, 1, none⟩ = some (.int .i64 zl) := ((grown_set _ ⟨gg, M * 5 + 1, none⟩ _).trans (grown_set _ ⟨gg, M * 5 + 1 + 1, none⟩ _)).cell c1 (by simp; omega)
      have HC : Hid _ := ld (And.intro hc0 hc1)
      clear hD4 hD5 hD6 HD4 HDw hc0 hc1 hgr4 ho4 hdr ha hN2 hM hl4 hA HY
      go_wp2
      subst hfe9
      go_roundg f9
      case measure => exact Nat.lt_succ_self _
      case rel => exact ⟨M + 1, m + 1, ld (by rw [HM9.out]; omega), by omega, by simp, HC.out.1, HC.out.2, HD6⟩
   | false =>
    rw [hq, if_neg (by decide)] at hMb
    have HRy : Hid (R = some (vars ++ (acc).map (mkTr (kd, 0)), t1)) := by show _ = _; rw [HRx.out]; (try simp only); rw [hq, if_neg (by decide)]
    clear HRx
    refine ld ?_
    go_wp2_with (go_at_call 67; refine hMb.mono ?_; rintro e wc ⟨rfl, hPc, hgc⟩; refine Hid.out ?_)
    have hrowT : wc.heap[wb.heap.size]? = some (.cells #[.int .i64 kd, .int .i64 0] 34 (0, 0)) := (hgc.block wb.heap.size (by simp) (by simp; omega)).trans (heap_alloc_new wb _)
    obtain ⟨z0, z1, zf⟩ := rcells_2 hrowT
    have hDw := HDb.out.on ((ga wb _ (some b)).trans hgc) hPc
    have HDw := ld hDw
    have HY := ld (And.intro z0 z1)
    clear hDw hMb hPc hgc hrowT z0 z1 zf
    refine ld ?_
    go_wp2
    obtain ⟨nw, hnw⟩ : ∃ nw, nw = (acc) := ⟨_, rfl⟩
    rw [← hnw] at HRy HDw
    obtain ⟨N, hNe⟩ : ∃ N, N = vars.length + nw.length := ⟨_, rfl⟩
    have hlN : ∀ (ty : TypeId) (wx : World), (Builtin.len_ #[28] ty #[u1]).run Tryz.prog wx = .ok (.int .i64 (N : Int)) wx := by
     have e := HDw.out.len
     rw [List.length_append, List.length_map, ← hNe] at e
     exact e
    have HNe := ld hNe
    clear hNe hlx hnw HDb
    go_loopg [12] nw.length (fun (gz : Nat) (s12 : Value) (wq : World) => ∃ (M m : Nat), Hid (M = vars.length + m) ∧ m + gz = nw.length ∧ s12 = .int .i64 (M : Int) ∧ wq.cell? ⟨wb.heap.size, 0, none⟩ = some (.int .i64 kd) ∧ wq.cell? ⟨wb.heap.size, 1, none⟩ = some (.int .i64 0) ∧ Hid (Dr w0 wq b g cap T B t1 (vars ++ (nw.take m).map (mkTr (kd, 0)) ++ (nw.drop m).map mkVr) u1))
    case atStart => exact ⟨vars.length, 0, ld rfl, by omega, rfl, HY.out.1, HY.out.2, ld (by simpa using HDw.out)⟩
    case round =>
     obtain ⟨M, m, HM9, hm9, rfl, c0, c1, HD4⟩ := hrel
     have hN2 := HNe.out
     have hM := HM9.out
     rcases Nat.eq_zero_or_pos gk with hz1 | hz1
     ·have hnl : ¬ (M : Int) < (N : Int) := by omega
      have hme : m = nw.length := by omega
      have HD5 : Hid (Dr w0 wr b g cap T B t1 (vars ++ nw.map (mkTr (kd, 0))) u1) := by
       refine ld ?_
       have e := HD4.out
       rw [hme, List.take_length, List.drop_length] at e
       simpa using e
      clear HD4 HDw hN2 hM hme hm9
      go_wp2
      go_ret
      rw [HRy.out]
      exact ⟨_, rfl, HD5.out⟩
     ·have hlt : (M : Int) < (N : Int) := by omega
      have hnn : ¬ (M : Int) < 0 := by omega
      have hml : m < nw.length := by omega
      obtain ⟨f9, hfe9⟩ : ∃ f9, gk = f9 + 1 := ⟨gk - 1, by omega⟩
      have hdr : nw.drop m = nw[m] :: nw.drop (m + 1) := List.drop_eq_getElem_cons hml
      obtain ⟨a, ha⟩ : ∃ a, a = nw[m] := ⟨_, rfl⟩
      rw [← ha] at hdr
      have hD4 := HD4.out
      rw [hdr, List.map_cons] at hD4
      have hge4 := hD4.ge
      have hgr4 := hD4.gro
      obtain ⟨xs4, ho4, _⟩ := hD4.gro
      have hl4 : (vars ++ List.map (mkTr (kd, 0)) (List.take m nw) ++ mkVr a :: List.map mkVr (List.drop (m + 1) nw)).length = N := by
       simp only [List.length_append, List.length_map, List.length_cons, List.length_take, List.length_drop]; omega
      rw [List.length_map, hl4] at ho4
      rcases ho4.2 with ⟨e4, h40⟩ | ⟨gg, cc, cur, e4, hb4, _, hncc, hccm, _⟩
      ·omega
      subst e4
      have hMb : (M : Int) + 1 < 9223372036854775808 := by unfold maxLen at hccm; omega
      have hgg : gg < wb.heap.size := hy8 gg rfl
      have hA : (vars ++ List.map (mkTr (kd, 0)) (List.take m nw)).length = M := by
       simp only [List.length_append, List.length_map, List.length_take]; omega
      obtain ⟨q1, hq1⟩ := hgr4.there (M * 5 + 1) (by rw [List.length_map, hl4]; omega)
      obtain ⟨q2, hq2⟩ := hgr4.there (M * 5 + 1 + 1) (by rw [List.length_map, hl4]; omega)
      have hfz := hgr4.free
      have hn3 : ¬ gg = wb.heap.size := by omega
      have hn3' : ¬ wb.heap.size = gg := by omega
      have hD5 := hD4.put 1 (by omega) (x' := ⟨a.1, kd, 0, [], a.2⟩) (d' := .c (.int .i64 kd)) (u := .int .i64 kd) rfl (.c _) (M * 5 + 1) (by rw [hA])
      have hD6 := hD5.put 2 (by omega) (x' := ⟨a.1, kd, 0, [], a.2⟩) (d' := .c (.int .i64 0)) (u := .int .i64 0) rfl (.c _) (M * 5 + 1 + 1) (by rw [hA])
      have HD6 : Hid (Dr w0 ((wr.setCell ⟨gg, M * 5 + 1, none⟩ (.int .i64 kd)).setCell ⟨gg, M * 5 + 1 + 1, none⟩ (.int .i64 0)) b g cap T B t1 (vars ++ (nw.take (m + 1)).map (mkTr (kd, 0)) ++ (nw.drop (m + 1)).map mkVr) (.slice (some ⟨gg, 0, none⟩) N cc)) := by
       refine ld ?_
       have e : vars ++ (nw.take (m + 1)).map (mkTr (kd, 0)) ++ (nw.drop (m + 1)).map mkVr = vars ++ List.map (mkTr (kd, 0)) (List.take m nw) ++ (⟨a.1, kd, 0, [], a.2⟩ : Gram.Var) :: List.map mkVr (List.drop (m + 1) nw) := by
        rw [List.take_add_one, List.getElem?_eq_getElem hml, ← ha]
        simp [mkTr]
       rw [e]
       exact hD6
      have hc0 : ((wr.setCell ⟨gg, M * 5 + 1, none⟩ (.int .i64 kd)).setCell ⟨gg, M * 5 + 1 + 1, none⟩ (.int .i64 0)).cell? ⟨wb.heap.size, 0, none⟩ = some (.int .i64 kd) := ((grown_set _ ⟨gg, M * 5 + 1, none⟩ _).trans (grown_set _ ⟨gg, M * 5 + 1 + 1, none⟩ _)).cell c0 (by simp; omega)
      have hc1 : ((wr.setCell ⟨gg, M * 5 + 1, none⟩ (.int .i64 kd)).setCell ⟨gg, M * 5 + 1 + 1, none⟩ (.int .i64 0)).cell? ⟨wb.heap.size, 1, none⟩ = some (.int .i64 0) := ((grown_set _ ⟨gg, M * 5 + 1, none⟩ _).trans (grown_set _ ⟨gg, M * 5 + 1 + 1, none⟩ _)).cell c1 (by simp; omega)
      have HC : Hid _ := ld (And.intro hc0 hc1)
      clear hD4 hD5 hD6 HD4 HDw hc0 hc1 hgr4 ho4 hdr ha hN2 hM hl4 hA HY
      go_wp2
      subst hfe9
      go_roundg f9
      case measure => exact Nat.lt_succ_self _
      case rel => exact ⟨M + 1, m + 1, ld (by rw [HM9.out]; omega), by omega, by simp, HC.out.1, HC.out.2, HD6⟩
end
open Go.RowKit Go.Maps Go.WideMaps
namespace Gram.Rf
theorem fail_e {T : List Lex.Tk} {c : Int} {s : St} (hc : c ≠ 0) : (fail T c s).e ≠ 0 := by
 unfold fail
 by_cases h : s.e = 0
 ·rw [if_pos h]; exact hc
 ·rw [if_neg h]; exact h
theorem name_e {T : List Lex.Tk} {s : St} (h : (name T s).2.e = 0) : s.e = 0 ∧ (tk T s.i).kind = 1 := by
 unfold name at h
 cases hk : nameOk T s with
 | true => unfold nameOk at hk; simp at hk; exact hk
 | false => rw [hk, if_neg (by decide)] at h; exact absurd h (fail_e (by decide))
theorem take_e {T : List Lex.Tk} {w : B} {s : St} (h : (take T w s).e = 0) : s.e = 0 := by
 unfold take at h
 cases hk : is T w s with
 | true => rw [hk, if_pos rfl] at h; exact h
 | false => rw [hk, if_neg (by decide)] at h; exact absurd h (fail_e (by decide))
theorem kind_e {T : List Lex.Tk} {s : St} (h : (kind T s).2.e = 0) : s.e = 0 := by
 unfold kind at h
 cases hk : kindOk T s with
 | true => rw [hk, if_pos rfl] at h; exact h
 | false => rw [hk, if_neg (by decide)] at h; exact absurd h (fail_e (by decide))
theorem size_e {T : List Lex.Tk} {s : St} (h : (size T s).2.e = 0) : s.e = 0 := by
 unfold size at h
 cases hk : sizeOk T s with
 | true => rw [hk, if_pos rfl] at h; exact h
 | false => rw [hk, if_neg (by decide)] at h; exact absurd h (fail_e (by decide))
theorem names_len {T : List Lex.Tk} : ∀ {f : Nat} {l : List Var} {s : St} {l' : List Var} {q : Bool} {s' : St}, names T f l s = some ((l', q), s') → l.length ≤ 201 → (s.e = 0 → l.length ≤ 200) → l'.length ≤ 201 ∧ (s'.e = 0 → l'.length ≤ 200) ∧ ∃ n, l' = l ++ n
 | 0, _, _, _, _, _, h, _, _ => by rw [names] at h; cases h
 | f + 1, l, s, l', q, s', h, h1, h0 => by
  rw [names] at h
  by_cases he : s.e = 0
  ·rw [if_pos he] at h
   have h0 := h0 he
   by_cases hk : (tk T s.i).kind = 1 ∧ 200 ≤ l.length
   ·rw [if_pos hk] at h; cases h; exact ⟨h1, fun e => h0, [], by simp⟩
   ·rw [if_neg hk] at h
    simp only at h
    have hn : (name T s).2.e = 0 → l.length < 200 := fun e => by
     have := (name_e e).2
     exact Nat.lt_of_not_le (fun h9 => hk ⟨this, h9⟩)
    cases hq : is T [44] (name T s).2 with
    | true =>
     rw [hq, if_pos rfl] at h
     have e0 : (name T s).2.e = 0 := by unfold is at hq; simp at hq; exact hq.1.1
     have := hn e0
     obtain ⟨g1, g2, n, g3⟩ := names_len h (by simp; omega) (fun _ => by simp; omega)
     exact ⟨g1, g2, _ :: n, by rw [g3, List.append_assoc]; rfl⟩
    | false =>
     rw [hq, if_neg (by decide)] at h
     cases h
     exact ⟨by simp; omega, fun e => by have := hn e; simp; omega, _, rfl⟩
  ·rw [if_neg he] at h; cases h; exact ⟨h1, h0, [], by simp⟩
theorem decl_len {T : List Lex.Tk} {f : Nat} {l : List Var} {s : St} {l' : List Var} {s' : St} (h : decl T f l s = some (l', s')) (h1 : l.length ≤ 201) (h0 : s.e = 0 → l.length ≤ 200) : l'.length ≤ 201 ∧ (s'.e = 0 → l'.length ≤ 200) ∧ ∃ n, l' = l ++ n := by
 unfold decl at h
 cases hn : names T f l s with
 | none => rw [hn] at h; cases h
 | some r =>
  obtain ⟨⟨l1, q⟩, t⟩ := r
  rw [hn] at h
  obtain ⟨g1, g2, n, g3⟩ := names_len hn h1 h0
  simp only [bindS] at h
  cases q with
  | true => rw [if_pos rfl] at h; cases h; exact ⟨g1, g2, n, g3⟩
  | false =>
   rw [if_neg (by decide)] at h
   have ht : s'.e = 0 → t.e = 0 := by
    intro e
    cases h
    cases hq : is T [94] (kind T (take T [58] t)).2 with
    | true => rw [hq, if_pos rfl] at e; have e9 := size_e e; exact take_e (kind_e e9)
    | false => rw [hq, if_neg (by decide)] at e; exact take_e (kind_e e)
   have hl : ∃ m, l' = l ++ m ∧ m.length = n.length := by
    have h9 := h
    rw [g3, List.take_left, List.drop_left] at h9
    cases h9
    exact ⟨_, rfl, by simp⟩
   obtain ⟨m, hm, hmn⟩ := hl
   have : l'.length = l1.length := by rw [hm, g3]; simp [hmn]
   exact ⟨by omega, fun e => by have := g2 (ht e); omega, m, hm⟩
end Gram.Rf
section
variable (b g cap : Nat) (T : List Lex.Tk)
theorem rdecls_any (f : Nat) (s : Gram.Rf.St) (w : World) (h : Rp w b g cap T s) (hf : (Gram.Rf.decls T f s).isSome = true) :
  Calls Tryz.prog 66 #[.pointer (some ⟨b, 0, none⟩)] w fun e w' => rlPost varD 112 5 w b g cap T (Gram.Rf.decls T f s) e w' := by
 have hbw := h.bl
 have hD0 : Dr w w b g cap T w.heap.size s [] (.slice none 0 0) := ⟨⟨s, h⟩, h, World.grownBy.refl _ _, Nat.le_refl _, Nat.le_refl _, GrowD.nil _ _ _ _⟩
 obtain ⟨R, hR⟩ : ∃ R, R = Gram.Rf.decls T f s := ⟨_, rfl⟩
 rw [← hR] at hf ⊢
 unfold Gram.Rf.decls at hR
 cases hd : Gram.Rf.decl T f [] s with
 | none => rw [hR, hd] at hf; cases hf
 | some r =>
 obtain ⟨l0, s0⟩ := r
 have hc := rdecl_any b g cap T f w w w.heap.size s [] (.slice none 0 0) hD0 (by simp) (by simp) (by rw [hd]; rfl)
 simp only [hd, drPost] at hc
 obtain ⟨l1, l2, _⟩ := Gram.Rf.decl_len hd (by simp) (by simp)
 have HR : Hid (R = Gram.Rf.declsL T f l0 s0) := by show _ = _; rw [hR, hd]; rfl
 clear hR hd h hD0
 go_enter Tryz.func66, Tryz.ntmps66
 go_wp2_with (go_at_call 76; refine hc.mono ?_; rintro e w1 ⟨v1, rfl, hD1⟩; refine Hid.out ?_)
 have HD1 := ld hD1
 clear hD1 hc
 refine ld ?_
 go_wp2
 go_loopg [3] f (fun (f' : Nat) (s3 : Value) (wr : World) => ∃ (l : List Gram.Var) (s' : Gram.Rf.St), f' ≤ f ∧ l.length ≤ 201 ∧ (s'.e = 0 → l.length ≤ 200) ∧ Hid (Dr w wr b g cap T w.heap.size s' l s3 ∧ R = Gram.Rf.declsL T f' l s'))
 case atStart => exact ⟨l0, s0, Nat.le_refl _, l1, l2, ld ⟨HD1.out, HR.out⟩⟩
 case round =>
  obtain ⟨l, s', hff, ha1, ha0, HG⟩ := hrel
  obtain ⟨hD, hL⟩ := HG.out
  clear HG HD1 l1 l2 HR
  have hP := hD.pa
  have p2 := hP.st.c2
  have HD := ld hD
  clear hD
  rcases Nat.eq_zero_or_pos gk with hz0 | hz0
  ·rw [hz0] at hL; rw [hL] at hf; exact absurd hf (by simp [Gram.Rf.declsL])
  obtain ⟨f', hfe⟩ : ∃ f', gk = f' + 1 := ⟨gk - 1, by omega⟩
  subst hfe
  rw [Gram.Rf.declsL] at hL
  by_cases he : s'.e = 0
  ·have b0 : (s'.e == 0) = true := by rw [beq_iff_eq]; exact he
   have ha0 := ha0 he
   have hMc := rmaybe_any b g cap T s' ⟨#[59]⟩ wr hP
   unfold Gram.Rf.maybe at hMc
   rw [show ((⟨#[59]⟩ : ByteArray)).data.toList = [59] from rfl] at hMc
   cases hq : Gram.Rf.is T [59] s' with
   | false =>
    rw [hq, if_neg (by decide)] at hMc
    have HE : Hid (R = some (l, s')) := by show _ = _; rw [hL, if_neg (by rw [hq]; simp)]
    clear hL he hf
    generalize s'.e = e0 at p2 b0
    go_wp2_with (go_at_call 67; refine hMc.mono ?_; rintro e w2 ⟨rfl, hP2, hg2⟩)
    go_ret
    rw [HE.out]
    have hZ := HD.out.on hg2 hP2
    exact ⟨_, rfl, hZ.gro, hZ.pa, hZ.gr⟩
   | true =>
    rw [hq, if_pos rfl] at hMc
    rw [if_pos ⟨he, hq⟩] at hL
    cases hd : Gram.Rf.decl T f' l (Gram.Rf.adv s') with
    | none => rw [hL, hd] at hf; cases hf
    | some r =>
    obtain ⟨l3, s3⟩ := r
    have HE : Hid (R = Gram.Rf.declsL T f' l3 s3) := by show _ = _; rw [hL, hd]; rfl
    have hc := fun wx (hx : Dr w wx b g cap T w.heap.size (Gram.Rf.adv s') l u3) => rdecl_any b g cap T f' w wx w.heap.size (Gram.Rf.adv s') l u3 hx ha1 (fun _ => ha0) (by rw [hd]; rfl)
    simp only [hd, drPost] at hc
    obtain ⟨l4, l5, _⟩ := Gram.Rf.decl_len hd ha1 (fun _ => ha0)
    clear hL he hf hd
    generalize s'.e = e0 at p2 b0
    go_wp2_with (first | (go_at_call 76; refine (hc _ (HD.out.on hg2 hP2)).mono ?_; rintro e w3 ⟨v3, rfl, hD3⟩) | (go_at_call 67; refine hMc.mono ?_; rintro e w2 ⟨rfl, hP2, hg2⟩))
    go_roundg f'
    case measure => exact Nat.lt_succ_self _
    case rel => exact ⟨l3, s3, by omega, l4, l5, ld ⟨hD3, HE.out⟩⟩
  ·have b0 : (s'.e == 0) = false := by rw [beq_eq_false_iff_ne]; exact he
   have HE : Hid (R = some (l, s')) := by show _ = _; rw [hL, if_neg (fun e => he e.1)]
   clear hL he hf
   generalize s'.e = e0 at p2 b0
   go_wp2
   go_ret
   rw [HE.out]
   exact ⟨_, rfl, HD.out.gro, HD.out.pa, HD.out.gr⟩
end
end Go.Proofs.YtonafedbehnneaaGreat
