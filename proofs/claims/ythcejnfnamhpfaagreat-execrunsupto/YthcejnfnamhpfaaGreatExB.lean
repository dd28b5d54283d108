/- Package exec: what each instruction does (written by mkexb.py). -/
import Derived.Test.YthcejnfnamhpfaaGreatExA
namespace Go.Proofs.YthcejnfnamhpfaaGreat
open Go.RowKit Go.Maps Go.WideMaps

/-- within a method: the tick, and the instruction's own box -/
structure Bt (W w : World) (t g : Nat) (sv0 : Value) (val s : List Int) (pc : Nat) (en : Bool) (op n k : Int) (sv : Value) (V : World) : Prop where
  tk : Tk W V t g val s pc en sv
  fr : To t g w sv0 V sv
  box : V.heap[w.heap.size]? = some (.cells #[.int .i64 op, .int .i64 n, .int .i64 k] 56 (0, 0))
  nb : w.heap.size ≠ t ∧ w.heap.size ≠ g ∧ sv.ownBlock ≠ some w.heap.size
/-- .. with some stack -/
def Sb' (W w : World) (t g : Nat) (sv0 : Value) (val : List Int) (pc : Nat) (en : Bool) (op n k : Int) (V : World) : Prop := ∃ s sv, Bt W w t g sv0 val s pc en op n k sv V
/-- what a method leaves -/
def DeP (W w : World) (t g : Nat) (sv0 : Value) (val s : List Int) (pc : Nat) (en : Bool) (e : Ending) (w' : World) : Prop := e = .returned (.tuple #[]) ∧ ∃ sv', Tk W w' t g val s pc en sv' ∧ To t g w sv0 w' sv'

section
variable {W w V V' : World} {t g : Nat} {sv0 sv sv' : Value} {val s s' : List Int} {pc : Nat} {en : Bool} {op n k : Int}
theorem Bt.new (h : Tk W w t g val s pc en sv) : Bt W w t g sv val s pc en op n k sv (w.alloc (.cells #[.int .i64 op, .int .i64 n, .int .i64 k] 56)) :=
  ⟨h.on (World.grownBy_alloc w _ none), To.of (World.grownBy_alloc w _ none), heap_alloc_new w _, by have := h.lt; omega, by have := h.gg; omega, fun e => by have := (h.ob _ e).2; omega⟩
theorem Bt.drew (h : Bt W w t g sv0 val s pc en op n k sv V) : Bt W w t g sv0 val s pc en op n k sv V.drew := ⟨h.tk.drew, h.fr.drew, h.box, h.nb⟩
theorem Bt.c (h : Bt W w t g sv0 val s pc en op n k sv V) (j : Nat) {v : Value} (hv : #[Value.int .i64 op, .int .i64 n, .int .i64 k][j]? = some v) : V.cell? ⟨w.heap.size, j, none⟩ = some v := by
  unfold World.cell?
  rw [h.box]
  simpa using hv
theorem Bt.step (h : Bt W w t g sv0 val s pc en op n k sv V) (hk : Tk W V' t g val s' pc en sv') (ho : To t g V sv V' sv') : Bt W w t g sv0 val s' pc en op n k sv' V' := by
  obtain ⟨h1, h2⟩ := ho.lt (Array.getElem?_eq_some_iff.1 h.box).1 h.nb.1 h.nb.2.1 h.nb.2.2
  exact ⟨hk, h.fr.trans ho, h1.trans h.box, h.nb.1, h.nb.2.1, h2⟩
theorem Bt.still (h : Bt W w t g sv0 val s pc en op n k sv V) (hg : V.grownBy V' none) : Bt W w t g sv0 val s pc en op n k sv V' := h.step (h.tk.on hg) (To.of hg)
theorem Sb'.c (h : Sb' W w t g sv0 val pc en op n k V) (j : Nat) {v : Value} (hv : #[Value.int .i64 op, .int .i64 n, .int .i64 k][j]? = some v) : V.cell? ⟨w.heap.size, j, none⟩ = some v := by
  obtain ⟨s, sv, h⟩ := h
  exact h.c j hv
theorem Sb'.slots (h : Sb' W w t g sv0 val pc en op n k V) : V.cell? ⟨t, 0, none⟩ = some (.slice (some ⟨g, 0, none⟩) val.length val.length) := by
  obtain ⟨s, sv, h⟩ := h
  exact cell_of_row V t 0 _ _ _ h.tk.rt
theorem Sb'.next (h : Sb' W w t g sv0 val pc en op n k V) : V.cell? ⟨t, 2, none⟩ = some (.int .i64 (pc : Int)) := by
  obtain ⟨s, sv, h⟩ := h
  exact cell_of_row V t 2 _ _ _ h.tk.rt
theorem Sb'.slot (h : Sb' W w t g sv0 val pc en op n k V) {i : Nat} {y : Int} (hy : val[i]? = some y) : V.cell? ⟨g, i, none⟩ = some (.int .i64 y) := by
  obtain ⟨s, sv, h⟩ := h
  rw [cell_of_row V g i _ _ _ h.tk.rg]
  simp [hy]
theorem Sb'.free (h : Sb' W w t g sv0 val pc en op n k V) {i : Nat} (_hi : i < val.length) : V.frozen? ⟨g, i, none⟩ = false := by
  obtain ⟨s, sv, h⟩ := h
  exact frozen_of_row V g i _ _ h.tk.rg
theorem Bt.pop {a : Int} (h : Bt W w t g sv0 val (s ++ [a]) pc en op n k sv V) (hl : s.length ≤ 1000) :
    Calls Tryz.prog 88 #[.pointer (some ⟨t, 0, none⟩)] V fun e w' => e = .returned (.int .i64 a) ∧ ∃ sv', Bt W w t g sv0 val s pc en op n k sv' w' :=
  (xpop_any h.tk hl).mono fun _ _ H => ⟨H.1, let ⟨sv', h1, h2⟩ := H.2; ⟨sv', h.step h1 h2⟩⟩
theorem Bt.push (h : Bt W w t g sv0 val s pc en op n k sv V) (hl : s.length ≤ 1000) (a : Int) :
    Calls Tryz.prog 87 #[.pointer (some ⟨t, 0, none⟩), .int .i64 a] V fun e w' => e = .returned (.tuple #[]) ∧ ∃ sv', Bt W w t g sv0 val (s ++ [a]) pc en op n k sv' w' :=
  (xpush_any h.tk hl a).mono fun _ _ H => ⟨H.1, let ⟨sv', h1, h2⟩ := H.2; ⟨sv', h.step h1 h2⟩⟩
theorem Bt.un (h : Bt W w t g sv0 val s pc en op n k sv V) (o x a : Int) :
    Calls Tryz.prog 89 #[.int .i64 o, .int .i64 x, .int .i64 a] V fun e w' => e = .returned (.tuple #[.int .i64 (Bv.unN o x a), .bool (Bv.unB o x a)]) ∧ ∃ sv', Bt W w t g sv0 val s pc en op n k sv' w' :=
  (un_any o x a V).mono fun _ _ H => ⟨H.1, _, h.still (below_grown H.2)⟩
theorem Bt.cas (h : Bt W w t g sv0 val s pc en op n k sv V) (o x a : Int) :
    Calls Tryz.prog 91 #[.int .i64 o, .int .i64 x, .int .i64 a] V fun e w' => e = .returned (.tuple #[.int .i64 (Bv.casN o x a), .bool (Bv.casB o x a)]) ∧ ∃ sv', Bt W w t g sv0 val s pc en op n k sv' w' :=
  (cast_any o x a V).mono fun _ _ H => ⟨H.1, _, h.still (below_grown H.2)⟩
theorem Bt.bin (h : Bt W w t g sv0 val s pc en op n k sv V) (o x a b : Int) (hb : Bv.I64 b) :
    Calls Tryz.prog 90 #[.int .i64 o, .int .i64 x, .int .i64 a, .int .i64 b] V fun e w' => e = .returned (.tuple #[.int .i64 (Bv.binN o x a b), .int .i64 (Bv.binK o x a b), .bool (Bv.binB o x a b)]) ∧ ∃ sv', Bt W w t g sv0 val s pc en op n k sv' w' :=
  (bin_any o x a b hb V).mono fun _ _ H => ⟨H.1, _, h.still (below_grown H.2)⟩
theorem DeP.of (h : Bt W w t g sv0 val s pc en op n k sv V) : DeP W w t g sv0 val s pc en (.returned (.tuple #[])) V := ⟨rfl, sv, h.tk, h.fr⟩
theorem DeP.set {i : Nat} (h : Bt W w t g sv0 val s pc en op n k sv V) (a : Int) : DeP W w t g sv0 (val.set i a) s pc en (.returned (.tuple #[])) (V.setCell ⟨g, i, none⟩ (.int .i64 a)) := by
  have hT := h.tk
  have he : ints (val.set i a) = (ints val).set i (.int .i64 a) := by simp [List.map_set]
  refine ⟨rfl, sv, ⟨hT.kp.set (by simp) _, hT.gl, hT.tl, ?_, ?_, ?_, hT.ne⟩, h.fr.kp.set (by simp) _, h.fr.own⟩
  · rw [List.length_set]
    exact (heap_setCell_other V ⟨g, i, none⟩ t _ hT.tg).trans hT.rt
  · have := setrow (.int .i64 a) (j := i) hT.rg
    rw [he]
    simpa using this
  · exact owns_on hT.own fun k e => heap_setCell_other V ⟨g, i, none⟩ k _ (fun e2 => hT.og (by rw [e, e2]))
end
theorem wpL_skip {P : Program} {ops : Array Oper} {Q : Exit → Act → World → Prop} {md : Region.Mode} {S : World → Prop} {Z : List Nat} {i : Nat} {oi : Oper} {f : Nat} {l : Array Bool} {a : Act} {w w' : World} (hr : Region.ready md ops l = [i]) (hi : ops[i]? = some oi)
    (hdst : oi.dst = none) (hw : Region.wanted oi (yielded ops a.tmps) = true) (hrun : (execOp a.eval oi).run P w = .ok .skip w') (hS : i ∉ Z → S w') (h : wpL P md ops Q S Z f (l.setIfInBounds i true) a w') : wpL P md ops Q S Z (f + 1) l a w := by
  refine wpL_one hr (wpOp_now hi hw (fun K' hK => ?_))
  unfold Oper.wp
  rw [hrun]
  refine hK _ _ ⟨hS, ?_⟩
  rw [hdst]
  exact h

set_option maxHeartbeats 2000000 in
set_option maxRecDepth 100000 in
theorem xload_any {W w : World} {t g : Nat} {val s : List Int} {pc : Nat} {en : Bool} {sv : Value} (op n k : Int) {i : Nat} {y : Int} (hn : n = (i : Int)) (hy : val[i]? = some y) (h : Tk W w t g val s pc en sv) (hl : s.length ≤ 1000) :
    Calls Tryz.prog 68 #[.pointer (some ⟨t, 0, none⟩), .agg #[.int .i64 op, .int .i64 n, .int .i64 k]] w (DeP W w t g sv val (s ++ [y]) (pc) en) := by
  subst hn
  obtain ⟨N, hN⟩ : ∃ N, val.length = N := ⟨_, rfl⟩
  have hiN : i < N := by rw [← hN]; exact (List.getElem?_eq_some_iff.1 hy).1
  have hB0 := (Bt.new h (op := op) (n := (i : Int)) (k := k)).drew
  have hS0 : Sb' W w t g sv val pc en op (i : Int) k _ := ⟨_, _, hB0⟩
  go_enter Tryz.func68, Tryz.ntmps68
  go_wp2
  refine wp_region_L (S := Sb' W w t g sv val pc en op (i : Int) k) (Z := []) (by kernel_rfl) ?_
  refine t1 0 4 (.pointer (some ⟨t, 0, none⟩)) hS0 ?_
  (try simp only [Act.put, sA, sB, sC])
  refine t1 1 5 (.pointer (some ⟨t, 0, none⟩)) hS0 ?_
  (try simp only [Act.put, sA, sB, sC])
  refine t1 2 6 (.pointer (some ⟨t, 0, none⟩)) hS0 ?_
  (try simp only [Act.put, sA, sB, sC])
  refine t1 3 7 (.pointer (some ⟨t, 0, none⟩)) hS0 ?_
  (try simp only [Act.put, sA, sB, sC])
  refine t2 4 8 (.slice (some ⟨g, 0, none⟩) N N) (fun w' hw' => ?_) hS0 ?_
  · have hc0 := hw'.slots; rw [hN] at hc0; clear hw'; go_simp
  (try simp only [Act.put, sA, sB, sC])
  refine t1 5 9 (.pointer (some ⟨w.heap.size, 1, none⟩)) hS0 ?_
  (try simp only [Act.put, sA, sB, sC])
  refine t2 6 10 (.int .i64 (i : Int)) (fun w' hw' => ?_) hS0 ?_
  · have hc0 := hw'.c 1 rfl; clear hw'; go_simp
  (try simp only [Act.put, sA, sB, sC])
  refine t2 7 11 (.pointer (some ⟨g, i, none⟩)) (fun w' hw' => ?_) hS0 ?_
  · clear hw'; go_simp
  (try simp only [Act.put, sA, sB, sC])
  refine t2 8 12 (.int .i64 y) (fun w' hw' => ?_) hS0 ?_
  · have hc0 := hw'.slot hy; clear hw'; go_simp
  (try simp only [Act.put, sA, sB, sC])
  refine wpL_call (i := 9) (d := 13) (R := fun v w' => v = .tuple #[] ∧ ∃ sv', Bt W w t g sv val (s ++ [y]) pc en op (i : Int) k sv' w') (by kernel_rfl) rfl rfl (by kernel_rfl) (by kernel_rfl) ((hB0.push hl y).mono fun e w' he => ⟨_, he.1, rfl, he.2⟩) (fun v w' hR => let ⟨_, sv', h⟩ := hR; ⟨_, sv', h⟩) (fun v w' hR => ?_)
  obtain ⟨rfl, sv0, hB0a⟩ := hR
  have hS0a : Sb' W w t g sv val pc en op (i : Int) k w' := ⟨_, _, hB0a⟩
  (try simp only [Act.put, sA, sB, sC])
  refine wpL_done (by kernel_rfl) ?_ _
  go_wp2
  go_end0
  exact DeP.of hB0a

set_option maxHeartbeats 2000000 in
set_option maxRecDepth 100000 in
theorem xsave_any {W w : World} {t g : Nat} {val s : List Int} {pc : Nat} {en : Bool} {sv : Value} (op n k : Int) {i : Nat} {a : Int} (hn : n = (i : Int)) (hi : i < val.length) (h : Tk W w t g val (s ++ [a]) pc en sv) (hl : s.length ≤ 1000) :
    Calls Tryz.prog 69 #[.pointer (some ⟨t, 0, none⟩), .agg #[.int .i64 op, .int .i64 n, .int .i64 k]] w (DeP W w t g sv (val.set i a) (s) (pc) en) := by
  subst hn
  obtain ⟨N, hN⟩ : ∃ N, val.length = N := ⟨_, rfl⟩
  have hiN : i < N := by rw [← hN]; exact hi
  have hB0 := (Bt.new h (op := op) (n := (i : Int)) (k := k)).drew
  have hS0 : Sb' W w t g sv val pc en op (i : Int) k _ := ⟨_, _, hB0⟩
  go_enter Tryz.func69, Tryz.ntmps69
  go_wp2
  refine wp_region_L (S := Sb' W w t g sv val pc en op (i : Int) k) (Z := [9]) (by kernel_rfl) ?_
  refine t1 0 4 (.pointer (some ⟨t, 0, none⟩)) hS0 ?_
  (try simp only [Act.put, sA, sB, sC])
  refine t1 1 5 (.pointer (some ⟨t, 0, none⟩)) hS0 ?_
  (try simp only [Act.put, sA, sB, sC])
  refine t1 2 6 (.pointer (some ⟨t, 0, none⟩)) hS0 ?_
  (try simp only [Act.put, sA, sB, sC])
  refine t2 3 7 (.slice (some ⟨g, 0, none⟩) N N) (fun w' hw' => ?_) hS0 ?_
  · have hc0 := hw'.slots; rw [hN] at hc0; clear hw'; go_simp
  (try simp only [Act.put, sA, sB, sC])
  refine t1 4 8 (.pointer (some ⟨w.heap.size, 1, none⟩)) hS0 ?_
  (try simp only [Act.put, sA, sB, sC])
  refine t2 5 9 (.int .i64 (i : Int)) (fun w' hw' => ?_) hS0 ?_
  · have hc0 := hw'.c 1 rfl; clear hw'; go_simp
  (try simp only [Act.put, sA, sB, sC])
  refine t1 6 10 (.pointer (some ⟨t, 0, none⟩)) hS0 ?_
  (try simp only [Act.put, sA, sB, sC])
  refine wpL_call (i := 7) (d := 11) (R := fun v w' => v = .int .i64 a ∧ ∃ sv', Bt W w t g sv val s pc en op (i : Int) k sv' w') (by kernel_rfl) rfl rfl (by kernel_rfl) (by kernel_rfl) ((hB0.pop hl).mono fun e w' he => ⟨_, he.1, rfl, he.2⟩) (fun v w' hR => let ⟨_, sv', h⟩ := hR; ⟨_, sv', h⟩) (fun v w' hR => ?_)
  obtain ⟨rfl, sv0, hB0a⟩ := hR
  have hS0a : Sb' W w t g sv val pc en op (i : Int) k w' := ⟨_, _, hB0a⟩
  (try simp only [Act.put, sA, sB, sC])
  refine t2 8 12 (.pointer (some ⟨g, i, none⟩)) (fun w' hw' => ?_) hS0a ?_
  · clear hw'; go_simp
  (try simp only [Act.put, sA, sB, sC])
  obtain ⟨u, hu⟩ : ∃ u, val[i]? = some u := ⟨_, List.getElem?_eq_getElem hi⟩
  have hc0 := (Sb'.slot hS0a hu)
  have hf0 := (Sb'.free hS0a hi)
  refine wpL_skip (i := 9) (w' := w'.setCell ⟨g, i, none⟩ (.int .i64 a)) (by kernel_rfl) rfl rfl (by kernel_rfl) (by go_simp) (fun hz => absurd (by simp) hz) ?_
  refine wpL_done (by kernel_rfl) ?_ _
  have HF := Lib.hid (DeP.set (i := i) hB0a a)
  go_wp2
  go_end0
  exact HF.out

set_option maxHeartbeats 2000000 in
set_option maxRecDepth 100000 in
theorem xunary_any {W w : World} {t g : Nat} {val s : List Int} {pc : Nat} {en : Bool} {sv : Value} (op n k : Int) {a : Int} (h : Tk W w t g val (s ++ [a]) pc en sv) (hl : s.length ≤ 1000) :
    Calls Tryz.prog 70 #[.pointer (some ⟨t, 0, none⟩), .agg #[.int .i64 op, .int .i64 n, .int .i64 k]] w (DeP W w t g sv val (s ++ [Bv.unN n k a]) (pc) en) := by
  have hB0 := (Bt.new h (op := op) (n := n) (k := k)).drew
  have hS0 : Sb' W w t g sv val pc en op n k _ := ⟨_, _, hB0⟩
  go_enter Tryz.func70, Tryz.ntmps70
  go_wp2
  refine wp_region_L (S := Sb' W w t g sv val pc en op n k) (Z := []) (by kernel_rfl) ?_
  refine t1 0 7 (.pointer (some ⟨w.heap.size, 1, none⟩)) hS0 ?_
  (try simp only [Act.put, sA, sB, sC])
  refine t2 1 8 (.int .i64 n) (fun w' hw' => ?_) hS0 ?_
  · have hc0 := hw'.c 1 rfl; clear hw'; go_simp
  (try simp only [Act.put, sA, sB, sC])
  refine t1 2 9 (.pointer (some ⟨w.heap.size, 2, none⟩)) hS0 ?_
  (try simp only [Act.put, sA, sB, sC])
  refine t2 3 10 (.int .i64 k) (fun w' hw' => ?_) hS0 ?_
  · have hc0 := hw'.c 2 rfl; clear hw'; go_simp
  (try simp only [Act.put, sA, sB, sC])
  refine t1 4 11 (.pointer (some ⟨t, 0, none⟩)) hS0 ?_
  (try simp only [Act.put, sA, sB, sC])
  refine wpL_call (i := 5) (d := 12) (R := fun v w' => v = .int .i64 a ∧ ∃ sv', Bt W w t g sv val s pc en op n k sv' w') (by kernel_rfl) rfl rfl (by kernel_rfl) (by kernel_rfl) ((hB0.pop hl).mono fun e w' he => ⟨_, he.1, rfl, he.2⟩) (fun v w' hR => let ⟨_, sv', h⟩ := hR; ⟨_, sv', h⟩) (fun v w' hR => ?_)
  obtain ⟨rfl, sv0, hB0a⟩ := hR
  have hS0a : Sb' W w t g sv val pc en op n k w' := ⟨_, _, hB0a⟩
  (try simp only [Act.put, sA, sB, sC])
  refine wpL_call (i := 6) (d := 13) (R := fun v w' => v = .tuple #[.int .i64 (Bv.unN n k a), .bool (Bv.unB n k a)] ∧ ∃ sv', Bt W w t g sv val s pc en op n k sv' w') (by kernel_rfl) rfl rfl (by kernel_rfl) (by kernel_rfl) ((hB0a.un n k a).mono fun e w' he => ⟨_, he.1, rfl, he.2⟩) (fun v w' hR => let ⟨_, sv', h⟩ := hR; ⟨_, sv', h⟩) (fun v w' hR => ?_)
  obtain ⟨rfl, sv1, hB1a⟩ := hR
  have hS1a : Sb' W w t g sv val pc en op n k w' := ⟨_, _, hB1a⟩
  (try simp only [Act.put, sA, sB, sC])
  refine t1 7 6 (.tuple #[.int .i64 (Bv.unN n k a), .bool (Bv.unB n k a)]) hS1a ?_
  (try simp only [Act.put, sA, sB, sC])
  refine t1 8 14 (.int .i64 (Bv.unN n k a)) hS1a ?_
  (try simp only [Act.put, sA, sB, sC])
  refine t1 9 15 (.bool (Bv.unB n k a)) hS1a ?_
  (try simp only [Act.put, sA, sB, sC])
  refine t1 10 4 (.int .i64 (Bv.unN n k a)) hS1a ?_
  (try simp only [Act.put, sA, sB, sC])
  refine t1 11 5 (.bool (Bv.unB n k a)) hS1a ?_
  (try simp only [Act.put, sA, sB, sC])
  refine wpL_done (by kernel_rfl) ?_ _
  have hBm := hB1a
  go_wp2_with (go_at_call 87; refine (hBm.push hl (Bv.unN n k a)).mono ?_; rintro e w9 ⟨rfl, sv9, hB9⟩)
  go_end0
  exact DeP.of hB9

set_option maxHeartbeats 2000000 in
set_option maxRecDepth 100000 in
theorem xcast_any {W w : World} {t g : Nat} {val s : List Int} {pc : Nat} {en : Bool} {sv : Value} (op n k : Int) {a : Int} (h : Tk W w t g val (s ++ [a]) pc en sv) (hl : s.length ≤ 1000) :
    Calls Tryz.prog 72 #[.pointer (some ⟨t, 0, none⟩), .agg #[.int .i64 op, .int .i64 n, .int .i64 k]] w (DeP W w t g sv val (s ++ [Bv.casN n k a]) (pc) en) := by
  have hB0 := (Bt.new h (op := op) (n := n) (k := k)).drew
  have hS0 : Sb' W w t g sv val pc en op n k _ := ⟨_, _, hB0⟩
  go_enter Tryz.func72, Tryz.ntmps72
  go_wp2
  refine wp_region_L (S := Sb' W w t g sv val pc en op n k) (Z := []) (by kernel_rfl) ?_
  refine t1 0 7 (.pointer (some ⟨w.heap.size, 1, none⟩)) hS0 ?_
  (try simp only [Act.put, sA, sB, sC])
  refine t2 1 8 (.int .i64 n) (fun w' hw' => ?_) hS0 ?_
  · have hc0 := hw'.c 1 rfl; clear hw'; go_simp
  (try simp only [Act.put, sA, sB, sC])
  refine t1 2 9 (.pointer (some ⟨w.heap.size, 2, none⟩)) hS0 ?_
  (try simp only [Act.put, sA, sB, sC])
  refine t2 3 10 (.int .i64 k) (fun w' hw' => ?_) hS0 ?_
  · have hc0 := hw'.c 2 rfl; clear hw'; go_simp
  (try simp only [Act.put, sA, sB, sC])
  refine t1 4 11 (.pointer (some ⟨t, 0, none⟩)) hS0 ?_
  (try simp only [Act.put, sA, sB, sC])
  refine wpL_call (i := 5) (d := 12) (R := fun v w' => v = .int .i64 a ∧ ∃ sv', Bt W w t g sv val s pc en op n k sv' w') (by kernel_rfl) rfl rfl (by kernel_rfl) (by kernel_rfl) ((hB0.pop hl).mono fun e w' he => ⟨_, he.1, rfl, he.2⟩) (fun v w' hR => let ⟨_, sv', h⟩ := hR; ⟨_, sv', h⟩) (fun v w' hR => ?_)
  obtain ⟨rfl, sv0, hB0a⟩ := hR
  have hS0a : Sb' W w t g sv val pc en op n k w' := ⟨_, _, hB0a⟩
  (try simp only [Act.put, sA, sB, sC])
  refine wpL_call (i := 6) (d := 13) (R := fun v w' => v = .tuple #[.int .i64 (Bv.casN n k a), .bool (Bv.casB n k a)] ∧ ∃ sv', Bt W w t g sv val s pc en op n k sv' w') (by kernel_rfl) rfl rfl (by kernel_rfl) (by kernel_rfl) ((hB0a.cas n k a).mono fun e w' he => ⟨_, he.1, rfl, he.2⟩) (fun v w' hR => let ⟨_, sv', h⟩ := hR; ⟨_, sv', h⟩) (fun v w' hR => ?_)
  obtain ⟨rfl, sv1, hB1a⟩ := hR
  have hS1a : Sb' W w t g sv val pc en op n k w' := ⟨_, _, hB1a⟩
  (try simp only [Act.put, sA, sB, sC])
  refine t1 7 6 (.tuple #[.int .i64 (Bv.casN n k a), .bool (Bv.casB n k a)]) hS1a ?_
  (try simp only [Act.put, sA, sB, sC])
  refine t1 8 14 (.int .i64 (Bv.casN n k a)) hS1a ?_
  (try simp only [Act.put, sA, sB, sC])
  refine t1 9 15 (.bool (Bv.casB n k a)) hS1a ?_
  (try simp only [Act.put, sA, sB, sC])
  refine t1 10 4 (.int .i64 (Bv.casN n k a)) hS1a ?_
  (try simp only [Act.put, sA, sB, sC])
  refine t1 11 5 (.bool (Bv.casB n k a)) hS1a ?_
  (try simp only [Act.put, sA, sB, sC])
  refine wpL_done (by kernel_rfl) ?_ _
  have hBm := hB1a
  go_wp2_with (go_at_call 87; refine (hBm.push hl (Bv.casN n k a)).mono ?_; rintro e w9 ⟨rfl, sv9, hB9⟩)
  go_end0
  exact DeP.of hB9


set_option maxHeartbeats 1000000 in
theorem xlay_any {W w : World} {t g : Nat} {val s : List Int} {pc : Nat} {en : Bool} {sv : Value} (op n k : Int) (h : Tk W w t g val s pc en sv) (hl : s.length ≤ 1000) :
    Calls Tryz.prog 67 #[.pointer (some ⟨t, 0, none⟩), .agg #[.int .i64 op, .int .i64 n, .int .i64 k]] w (DeP W w t g sv val (s ++ [n]) pc en) := by
  have hB0 := Bt.new h (op := op) (n := n) (k := k)
  go_enter Tryz.func67, Tryz.ntmps67
  go_wp2_with (go_at_call 87; refine (hB0.push hl n).mono ?_; rintro e w9 ⟨rfl, sv9, hB9⟩)
  go_end0
  exact DeP.of hB9

set_option maxHeartbeats 1000000 in
theorem xend_any {W w : World} {t g : Nat} {val s : List Int} {pc : Nat} {en : Bool} {sv : Value} (op n k : Int) (h : Tk W w t g val s pc en sv) :
    Calls Tryz.prog 75 #[.pointer (some ⟨t, 0, none⟩), .agg #[.int .i64 op, .int .i64 n, .int .i64 k]] w (DeP W w t g sv val s pc true) := by
  have hB0 := Bt.new h (op := op) (n := n) (k := k)
  have c3 := cell_of_row _ t 3 _ _ _ hB0.tk.rt
  have f3 := frozen_of_row _ t 3 _ _ hB0.tk.rt
  have HF : Hid (DeP W w t g sv val s pc true (.returned (.tuple #[])) ((w.alloc (.cells #[.int .i64 op, .int .i64 n, .int .i64 k] 56)).setCell ⟨t, 3, none⟩ (.bool true))) :=
    Lib.hid ⟨rfl, sv, hB0.tk.reset (kp_set _ _ _ _) (setrow _ (j := 3) hB0.tk.rt) (owns_on hB0.tk.own (fun j e => heap_setCell_other _ ⟨t, 3, none⟩ j _ (fun e2 => h.ne (by rw [e, e2])))) h.ne, hB0.fr.kp.set (by simp) _, hB0.fr.own⟩
  clear h hB0
  go_enter Tryz.func75, Tryz.ntmps75
  go_wp2
  go_end0
  exact HF.out

set_option maxHeartbeats 1000000 in
theorem xjump_any {W w : World} {t g : Nat} {val s : List Int} {pc : Nat} {en : Bool} {sv : Value} (op n k : Int) (h : Tk W w t g val s pc en sv) (hn : 0 ≤ n) (hp : (pc : Int) + n < 1000000) :
    Calls Tryz.prog 73 #[.pointer (some ⟨t, 0, none⟩), .agg #[.int .i64 op, .int .i64 n, .int .i64 k]] w (DeP W w t g sv val s (pc + n.toNat) en) := by
  have hB0 := (Bt.new h (op := op) (n := n) (k := k)).drew
  have c2 := cell_of_row _ t 2 _ _ _ hB0.tk.rt
  have f2 := frozen_of_row _ t 2 _ _ hB0.tk.rt
  have hb1 := hB0.c 1 rfl
  have hs : (pc : Int) + n = ((pc + n.toNat : Nat) : Int) := by omega
  have hw : IntKind.i64.wrap ((pc : Int) + n) = ((pc + n.toNat : Nat) : Int) := by rw [IntKind.wrap_i64]; omega
  generalize pc + n.toNat = q at *
  have HF : Hid (DeP W w t g sv val s q en (.returned (.tuple #[])) ((w.alloc (.cells #[.int .i64 op, .int .i64 n, .int .i64 k] 56)).drew.setCell ⟨t, 2, none⟩ (.int .i64 (q : Int)))) :=
    Lib.hid ⟨rfl, sv, hB0.tk.reset (kp_set _ _ _ _) (setrow _ (j := 2) hB0.tk.rt) (owns_on hB0.tk.own (fun j e => heap_setCell_other _ ⟨t, 2, none⟩ j _ (fun e2 => h.ne (by rw [e, e2])))) h.ne, hB0.fr.kp.set (by simp) _, hB0.fr.own⟩
  have HS := Lib.hid hs
  clear hB0 hs hp hn
  generalize hV : (w.alloc (.cells #[.int .i64 op, .int .i64 n, .int .i64 k] 56)).drew = V at *
  have hV2 : Hid ((w.alloc (.cells #[.int .i64 op, .int .i64 n, .int .i64 k] 56)).drew = V) := Lib.hid hV
  clear hV
  go_enter Tryz.func73, Tryz.ntmps73
  go_wp2
  refine wp_region_L (S := fun V' => V' = V) (Z := [9]) (by kernel_rfl) ?_
  rw [hV2.out]
  have hS : V = V := rfl
  refine t1 0 4 (.pointer (some ⟨t, 0, none⟩)) hS ?_
  (try simp only [Act.put, sA, sB, sC])
  refine t1 1 5 (.pointer (some ⟨t, 0, none⟩)) hS ?_
  (try simp only [Act.put, sA, sB, sC])
  refine t1 2 6 (.pointer (some ⟨t, 2, none⟩)) hS ?_
  (try simp only [Act.put, sA, sB, sC])
  refine t2 3 7 (.int .i64 (pc : Int)) (fun w' hw' => ?_) hS ?_
  · subst hw'; go_simp
  (try simp only [Act.put, sA, sB, sC])
  refine t1 4 8 (.pointer (some ⟨w.heap.size, 1, none⟩)) hS ?_
  (try simp only [Act.put, sA, sB, sC])
  refine t2 5 9 (.int .i64 n) (fun w' hw' => ?_) hS ?_
  · subst hw'; go_simp
  (try simp only [Act.put, sA, sB, sC])
  refine t2 6 10 (.int .i64 (q : Int)) (fun w' hw' => ?_) hS ?_
  · subst hw'; go_simp
  (try simp only [Act.put, sA, sB, sC])
  refine wpL_val (i := 7) (d := 11) (v := .pointer (some ⟨t, 0, none⟩)) (w' := V) (by kernel_rfl) rfl rfl (by kernel_rfl) (by kernel_rfl) hS ?_
  (try simp only [Act.put, sA, sB, sC])
  refine t1 8 12 (.pointer (some ⟨t, 2, none⟩)) hS ?_
  (try simp only [Act.put, sA, sB, sC])
  refine wpL_skip (i := 9) (w' := V.setCell ⟨t, 2, none⟩ (.int .i64 (q : Int))) (by kernel_rfl) rfl rfl (by kernel_rfl) (by go_simp) (fun hz => absurd (by simp) hz) ?_
  refine wpL_done (by kernel_rfl) ?_ _
  go_wp2
  go_end0
  exact HF.out

set_option maxHeartbeats 1000000 in
theorem xbranch_any {W w : World} {t g : Nat} {val s : List Int} {a : Int} {pc : Nat} {en : Bool} {sv : Value} (op n k : Int) (h : Tk W w t g val (s ++ [a]) pc en sv) (hl : s.length ≤ 1000) (hn : 0 ≤ n) (hp : (pc : Int) + n < 1000000) :
    Calls Tryz.prog 74 #[.pointer (some ⟨t, 0, none⟩), .agg #[.int .i64 op, .int .i64 n, .int .i64 k]] w (DeP W w t g sv val s (if a = 0 then pc + n.toNat else pc) en) := by
  have hB0 := Bt.new h (op := op) (n := n) (k := k)
  by_cases ha : a = 0
  · have e1 : (a == 0) = true := by rw [ha]; rfl
    rw [if_pos ha]
    clear ha
    go_enter Tryz.func74, Tryz.ntmps74
    go_wp2_with (first | (go_at_call 88; refine (hB0.pop hl).mono ?_; rintro e w1 ⟨rfl, sv1, hB1⟩; have hc0 := hB1.c 0 rfl; have hc1 := hB1.c 1 rfl; have hc2 := hB1.c 2 rfl) | (go_at_call 73; refine (xjump_any op n k hB1.tk hn hp).mono ?_; rintro e w2 ⟨rfl, sv2, hT2, hF2⟩))
    go_end0
    exact ⟨rfl, sv2, hT2, hB1.fr.trans hF2⟩
  · have e1 : (a == 0) = false := by rw [beq_eq_false_iff_ne]; exact ha
    rw [if_neg ha]
    go_enter Tryz.func74, Tryz.ntmps74
    go_wp2_with (first | (go_at_call 88; refine (hB0.pop hl).mono ?_; rintro e w1 ⟨rfl, sv1, hB1⟩))
    go_end0
    exact DeP.of hB1

set_option maxHeartbeats 1000000 in
theorem xbinary_any {W w : World} {t g : Nat} {val s : List Int} {a b : Int} {pc : Nat} {en : Bool} {sv : Value} (op n k : Int) (hb : Bv.I64 b) (h : Tk W w t g val (s ++ [a] ++ [b]) pc en sv) (hl : s.length < 1000) :
    Calls Tryz.prog 71 #[.pointer (some ⟨t, 0, none⟩), .agg #[.int .i64 op, .int .i64 n, .int .i64 k]] w (DeP W w t g sv val (s ++ [Bv.binN n k a b]) pc en) := by
  have hB0 := Bt.new h (op := op) (n := n) (k := k)
  have hl1 : (s ++ [a]).length ≤ 1000 := by simp; omega
  have HI := Lib.hid hb
  have HL := Lib.hid hl
  clear hb hl h
  go_enter Tryz.func71, Tryz.ntmps71
  go_wp2_with (first | (go_at_call 88; have q := H1; refine (hB1.pop (Nat.le_of_lt HL.out)).mono ?_; rintro e w2 ⟨rfl, sv2, hB2⟩; have hc1 := hB2.c 1 rfl; have hc2 := hB2.c 2 rfl) | (go_at_call 88; refine (hB0.pop hl1).mono ?_; rintro e w1 ⟨rfl, sv1, hB1⟩; have H1 := Lib.hid hB1) | (go_at_call 90; refine (hB2.bin n k a b HI.out).mono ?_; rintro e w3 ⟨rfl, sv3, hB3⟩) | (go_at_call 87; refine (hB3.push (Nat.le_of_lt HL.out) _).mono ?_; rintro e w4 ⟨rfl, sv4, hB4⟩))
  go_end0
  exact DeP.of hB4
end Go.Proofs.YthcejnfnamhpfaaGreat
