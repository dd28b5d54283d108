/- The document's own machine (metronomeref19): in memory; New. -/
import Derived.Test.YthcejnfnamhpfaaGreatExH
namespace Go.Proofs.YthcejnfnamhpfaaGreat
open Go.RowKit Go.Maps Go.WideMaps

/-- the document's own machine in block m; its code lies in W -/
structure RMachR (W : World) (B : Nat) (w : World) (m : Nat) (c : Cd.Code) (cells : List Int) (ka : Option Addr) (kc : Nat) (ia : Option Addr) (ic : Nat) (ba : Option Addr) (bc : Nat) (cv : Value) : Prop where
  hW : W.grownBy w none
  cd : CodeAt W c ka ia ba
  row : w.heap[m]? = some (.cells #[.slice ka c.kinds.length kc, .int .i64 c.ins, .int .i64 c.outs, .int .i64 c.cells, .int .i64 c.stack, .slice ia c.init.length ic, .slice ba c.body.length bc, cv] 45 (0, 0))
  mb : W.heap.size ≤ B ∧ B ≤ m
  now : w.ownsRow B 3 1 cv cells.length (ints cells)
  nn : cv.ownBlock ≠ some m
  cl : (cells.length : Int) = c.cells
  ci : ∀ y ∈ cells, Bv.I64 y
def RMach (W : World) (B : Nat) (w : World) (m : Nat) (c : Cd.Code) (cells : List Int) : Prop := ∃ ka kc ia ic ba bc cv, RMachR W B w m c cells ka kc ia ic ba bc cv
section
variable {W : World} {B : Nat} {w w' : World} {m : Nat} {c : Cd.Code} {cells : List Int} {ka ia ba : Option Addr} {kc ic bc : Nat} {cv : Value}
theorem RMachR.on (h : RMachR W B w m c cells ka kc ia ic ba bc cv) (hg : w.grownBy w' none) : RMachR W B w' m c cells ka kc ia ic ba bc cv :=
  ⟨h.hW.trans hg, h.cd, (hg.block m (gl h.row) (by simp)).trans h.row, h.mb, h.now.kept hg (by cases cv.ownBlock <;> simp), h.nn, h.cl, h.ci⟩
theorem RMach.on (h : RMach W B w m c cells) (hg : w.grownBy w' none) : RMach W B w' m c cells := by
  obtain ⟨ka, kc, ia, ic, ba, bc, cv, h⟩ := h
  exact ⟨ka, kc, ia, ic, ba, bc, cv, h.on hg⟩
/-- what changes neither W's blocks nor those from B on -/
theorem RMachR.off (h : RMachR W B w m c cells ka kc ia ic ba bc cv) (hg : W.grownBy w' none) (hb : ∀ k, B ≤ k → k < w.heap.size → w'.heap[k]? = w.heap[k]?) : RMachR W B w' m c cells ka kc ia ic ba bc cv :=
  ⟨hg, h.cd, (hb m h.mb.2 (gl h.row)).trans h.row, h.mb, owns_on h.now (fun k e => hb k (h.now.lt k e).1 (h.now.lt k e).2), h.nn, h.cl, h.ci⟩
end
/-- append([]int(nil), l...), alone -/
theorem wpL_app0 {ops : Array Oper} {Q : Exit → Act → World → Prop} {md : Region.Mode} {S : World → Prop} {Z : List Nat} {i d : Nat} {f : Nat} {l : Array Bool} {a : Act} {w : World} {x : Operand} {oi : Oper} {la : Option Addr} {lc : Nat} (L : List Int) (hr : Region.ready md ops l = [i]) (hi : ops[i]? = some oi) (hdst : oi.dst = some d)
    (hw : Region.wanted oi (yielded ops a.tmps) = true) (ho : oi.op = .call { callee := .builtin .append, args := #[.const (.slice none 0 0), x], argTypes := #[22, 22] }) (B : Nat) (hB : B ≤ w.heap.size) (hx : a.eval x = .slice la L.length lc) (hl : NumsAt w la L) (hn : L.length ≤ 1000000)
    (hS : ∀ w', w.grownBy w' none → i ∉ Z → S w') (h : ∀ v' w', w'.ownsRow B 3 1 v' L.length (ints L) → w.grownBy w' none → wpL Tryz.prog md ops Q S Z f (l.setIfInBounds i true) (a.put (some d) v') w') : wpL Tryz.prog md ops Q S Z (f + 1) l a w := by
  refine wpL_one hr (wpOp_now hi hw (fun K' hK => wp_app_nums w x ho B hB la lc L hx hl hn (fun v' w' a1 a2 => hK _ _ ⟨hS w' a2, ?_⟩)))
  rw [hdst]
  exact h v' w' a1 a2

set_option maxHeartbeats 4000000 in
set_option maxRecDepth 100000 in
theorem rnew_any (W w : World) (hW : W.grownBy w none) (c : Cd.Code) (ka : Option Addr) (kc : Nat) (ia : Option Addr) (ic : Nat) (ba : Option Addr) (bc : Nat) (hc : CodeAt W c ka ia ba) (h64 : I64s c) (hok : Cd.check c = 0) :
    Calls Tryz.prog 13 #[.agg (codeV c ka kc ia ic ba bc)] w fun e w' => w.grownBy w' none ∧ ∃ m, e = .returned (.pointer (some ⟨m, 0, none⟩)) ∧ RMach W w.heap.size w' m c c.init := by
  have hg0 := World.grownBy_alloc w (.cells (codeV c ka kc ia ic ba bc) 25) none
  have hr0 := heap_alloc_new w (.cells (codeV c ka kc ia ic ba bc) 25)
  have H0 := Lib.hid (And.intro hg0 hr0)
  have hil : c.init.length ≤ 1000000 := by have := Ex.ok_parts hok; omega
  have HH := Lib.hid (And.intro hW (And.intro hc (And.intro h64 (And.intro hok hil))))
  clear hW hc h64 hok hg0 hr0 hil
  obtain ⟨nk, hnk⟩ : ∃ n, c.kinds.length = n := ⟨_, rfl⟩
  obtain ⟨ni, hni⟩ : ∃ n, c.init.length = n := ⟨_, rfl⟩
  obtain ⟨nb, hnb⟩ : ∃ n, c.body.length = n := ⟨_, rfl⟩
  obtain ⟨x1, hx1⟩ : ∃ n, c.ins = n := ⟨_, rfl⟩
  obtain ⟨x2, hx2⟩ : ∃ n, c.outs = n := ⟨_, rfl⟩
  obtain ⟨x3, hx3⟩ : ∃ n, c.cells = n := ⟨_, rfl⟩
  obtain ⟨x4, hx4⟩ : ∃ n, c.stack = n := ⟨_, rfl⟩
  unfold codeV at H0 ⊢
  simp only [hnk, hni, hnb, hx1, hx2, hx3, hx4] at H0 ⊢
  have HN := Lib.hid (And.intro hnk (And.intro hni (And.intro hnb (And.intro hx1 (And.intro hx2 (And.intro hx3 hx4))))))
  clear hnk hni hnb hx1 hx2 hx3 hx4
  go_enter Tryz.func13, Tryz.ntmps13
  go_wp2
  obtain ⟨bx, hbx⟩ : ∃ b, b = w.heap.size := ⟨_, rfl⟩
  have hS1 := H0.out.2
  rw [← hbx] at hS1 ⊢
  have HBX := Lib.hid hbx
  clear hbx
  refine wp_region_L (S := fun V => V.heap[bx]? = some (.cells #[.slice ka nk kc, .int .i64 x1, .int .i64 x2, .int .i64 x3, .int .i64 x4, .slice ia ni ic, .slice ba nb bc] 25 (0, 0))) (Z := []) (by kernel_rfl) ?_
  refine wpL_as (fun V1 hV1 => ?_)
  have hS : V1.heap[bx]? = some (.cells #[.slice ka nk kc, .int .i64 x1, .int .i64 x2, .int .i64 x3, .int .i64 x4, .slice ia ni ic, .slice ba nb bc] 25 (0, 0)) := drew_row hS1 hV1
  have HG1 : Hid (w.grownBy V1 none) := Lib.hid (by rw [hV1]; exact ⟨H0.out.1.os, H0.out.1.tape, H0.out.1.output, H0.out.1.size, H0.out.1.block⟩)
  clear hV1 hS1
  refine t2 0 3 (.agg #[.slice ka nk kc, .int .i64 x1, .int .i64 x2, .int .i64 x3, .int .i64 x4, .slice ia ni ic, .slice ba nb bc]) (fun w' hw' => ?_) hS ?_
  · exact exec_load_mid 25 _ rfl bx 0 rfl _ _ (row_range hw') Tryz.underlying25 rfl (by kernel_rfl)
  (try simp only [Act.put, sA, sB, sC])
  refine t1 1 4 (.pointer (some ⟨bx, 5, none⟩)) hS ?_
  (try simp only [Act.put, sA, sB, sC])
  refine t2 2 5 (.slice ia ni ic) (fun w' hw' => ?_) hS ?_
  · have hc0 := cell_of_row w' _ 5 _ _ _ hw'; clear hw'; go_simp
  (try simp only [Act.put, sA, sB, sC])
  refine wpL_app0 (i := 3) (d := 6) (x := .tmp 5) (la := ia) (lc := ic) c.init (by kernel_rfl) rfl rfl (by kernel_rfl) rfl w.heap.size HG1.out.size (by rw [HN.out.2.1]; rfl) ((HH.out.2.1.init.on HH.out.1).on HG1.out) HH.out.2.2.2.2 (fun w' hg _ => (hg.block _ (gl hS) (by simp)).trans hS) (fun v' V2 ho hg => ?_)
  replace hS := (hg.block _ (gl hS) (by simp)).trans hS
  obtain ⟨a1, k1, rfl⟩ := own_form ho
  (try simp only [Act.put, sA, sB, sC])
  refine t2 4 7 (.agg #[.slice ka nk kc, .int .i64 x1, .int .i64 x2, .int .i64 x3, .int .i64 x4, .slice ia ni ic, .slice ba nb bc, .slice a1 c.init.length k1]) (fun w' hw' => ?_) hS ?_
  · kernel_rfl
  (try simp only [Act.put, sA, sB, sC])
  refine wpL_val (i := 5) (d := 8) (v := .pointer (some ⟨V2.heap.size, 0, none⟩)) (w' := V2.alloc (.cells #[.slice ka nk kc, .int .i64 x1, .int .i64 x2, .int .i64 x3, .int .i64 x4, .slice ia ni ic, .slice ba nb bc, .slice a1 c.init.length k1] 45)) (by kernel_rfl) rfl rfl (by kernel_rfl) (by kernel_rfl) ((heap_alloc_old V2 _ (gl hS)).trans hS) ?_
  (try simp only [Act.put, sA, sB, sC])
  refine t1 6 2 (.pointer (some ⟨V2.heap.size, 0, none⟩)) ((heap_alloc_old V2 _ (gl hS)).trans hS) ?_
  (try simp only [Act.put, sA, sB, sC])
  refine wpL_done (by kernel_rfl) ?_ _
  have hgal := World.grownBy_alloc V2 (.cells #[.slice ka nk kc, .int .i64 x1, .int .i64 x2, .int .i64 x3, .int .i64 x4, .slice ia ni ic, .slice ba nb bc, .slice a1 c.init.length k1] 45) none
  have hnew := heap_alloc_new V2 (.cells #[.slice ka nk kc, .int .i64 x1, .int .i64 x2, .int .i64 x3, .int .i64 x4, .slice ia ni ic, .slice ba nb bc, .slice a1 c.init.length k1] 45)
  have HF := Lib.hid (And.intro hgal (And.intro hnew (And.intro hg ho)))
  clear hgal hnew hg ho hS
  generalize V2.alloc (.cells #[.slice ka nk kc, .int .i64 x1, .int .i64 x2, .int .i64 x3, .int .i64 x4, .slice ia ni ic, .slice ba nb bc, .slice a1 c.init.length k1] 45) = V3 at HF ⊢
  go_wp2
  go_ret
  obtain ⟨f1, f2, f3, f4⟩ := HF.out
  have hw3 : w.grownBy V3 none := HG1.out.trans (f3.trans f1)
  obtain ⟨n1, n2, n3, n4, n5, n6, n7⟩ := HN.out
  refine ⟨hw3, _, rfl, ka, kc, ia, ic, ba, bc, _, ⟨HH.out.1.trans hw3, HH.out.2.1, ?_, ⟨HH.out.1.size, Nat.le_trans HG1.out.size f3.size⟩, f4.kept f1 (by cases (Value.slice a1 c.init.length k1).ownBlock <;> simp), fun e => by have := (f4.lt _ e).2; omega, (Ex.ok_parts HH.out.2.2.2.1).2.2.2.2.2.2.2.2.1, HH.out.2.2.1.2.2.2.2.2.1⟩⟩
  rw [n1, n3, n4, n5, n6, n7, f2, n2]
end Go.Proofs.YthcejnfnamhpfaaGreat
