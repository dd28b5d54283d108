/- Package exec: a machine in memory; New. -/
import Derived.Test.YthcejnfnamhpfaaGreatExE
namespace Go.Proofs.YthcejnfnamhpfaaGreat
open Go.RowKit Go.Maps Go.WideMaps

/-- a machine in block m, all that it hangs on in blocks from B on -/
structure MachR (B : Nat) (w : World) (m : Nat) (c : Cd.Code) (cells : List Int) (iv nv kv bv : Value) : Prop where
  row : w.heap[m]? = some (.cells #[iv, nv, kv, .int .i64 c.ins, .int .i64 c.outs, .int .i64 c.cells, .int .i64 c.stack, iv, bv] 65 (0, 0))
  mb : B ≤ m
  init : w.ownsRow B 3 1 iv c.init.length (ints c.init)
  now : w.ownsRow B 3 1 nv cells.length (ints cells)
  kinds : w.ownsRow B 3 1 kv c.kinds.length (ints c.kinds)
  body : w.ownsRow B 56 3 bv c.body.length (insC c.body)
  ni : iv.ownBlock ≠ some m
  nn : nv.ownBlock ≠ some m
  nk : kv.ownBlock ≠ some m
  nb : bv.ownBlock ≠ some m
  cl : (cells.length : Int) = c.cells
  ci : ∀ y ∈ cells, Bv.I64 y
theorem xowns_base {w : World} {B B' : Nat} {T : TypeId} {s : Nat} {v : Value} {n : Nat} {xs : List Value} (h : w.ownsRow B T s v n xs) (hb : B' ≤ B) : w.ownsRow B' T s v n xs := by
  refine ⟨h.1, h.2.imp id ?_⟩
  rintro ⟨g, cap, cur, e, h1, h2⟩
  exact ⟨g, cap, cur, e, Nat.le_trans hb h1, h2⟩
def Mach (B : Nat) (w : World) (m : Nat) (c : Cd.Code) (cells : List Int) : Prop := ∃ iv nv kv bv, MachR B w m c cells iv nv kv bv

section
variable {B : Nat} {w w' : World} {m : Nat} {c : Cd.Code} {cells : List Int} {iv nv kv bv : Value}
theorem MachR.on (h : MachR B w m c cells iv nv kv bv) (hg : w.grownBy w' none) : MachR B w' m c cells iv nv kv bv :=
  ⟨(hg.block m (gl h.row) (by simp)).trans h.row, h.mb, h.init.kept hg (by cases iv.ownBlock <;> simp), h.now.kept hg (by cases nv.ownBlock <;> simp), h.kinds.kept hg (by cases kv.ownBlock <;> simp), h.body.kept hg (by cases bv.ownBlock <;> simp), h.ni, h.nn, h.nk, h.nb, h.cl, h.ci⟩
theorem Mach.on (h : Mach B w m c cells) (hg : w.grownBy w' none) : Mach B w' m c cells := by
  obtain ⟨iv, nv, kv, bv, h⟩ := h
  exact ⟨iv, nv, kv, bv, h.on hg⟩
/-- what changes blocks below B alone -/
theorem MachR.off (h : MachR B w m c cells iv nv kv bv) (hb : ∀ k, B ≤ k → k < w.heap.size → w'.heap[k]? = w.heap[k]?) : MachR B w' m c cells iv nv kv bv :=
  ⟨(hb m h.mb (gl h.row)).trans h.row, h.mb, owns_on h.init (fun k e => hb k (h.init.lt k e).1 (h.init.lt k e).2), owns_on h.now (fun k e => hb k (h.now.lt k e).1 (h.now.lt k e).2), owns_on h.kinds (fun k e => hb k (h.kinds.lt k e).1 (h.kinds.lt k e).2), owns_on h.body (fun k e => hb k (h.body.lt k e).1 (h.body.lt k e).2), h.ni, h.nn, h.nk, h.nb, h.cl, h.ci⟩
/-- the machine's code as a value -/
theorem MachR.code (h : MachR B w m c cells iv nv kv bv) : ∃ ka kc ia ic ba bc, kv = .slice ka c.kinds.length kc ∧ iv = .slice ia c.init.length ic ∧ bv = .slice ba c.body.length bc ∧ CodeAt w c ka ia ba ∧ c.kinds.length ≤ kc := by
  obtain ⟨ka, kc, rfl, h1⟩ := NumsAt.own h.kinds
  obtain ⟨ia, ic, rfl, h2⟩ := NumsAt.own h.init
  obtain ⟨ba, bc, rfl, h3⟩ := InssAt.own h.body
  exact ⟨ka, kc, ia, ic, ba, bc, rfl, rfl, rfl, ⟨h1, h2, h3⟩, own_room h.kinds⟩
theorem MachR.nowAt (h : MachR B w m c cells iv nv kv bv) : ∃ na nc, nv = .slice na cells.length nc ∧ NumsAt w na cells := NumsAt.own h.now
end
/-- a store that alone may come up, of a value of one cell -/
theorem wpL_valZ {P : Program} {ops : Array Oper} {Q : Exit → Act → World → Prop} {md : Region.Mode} {S : World → Prop} {Z : List Nat} {i d : Nat} {oi : Oper} {v : Value} {f : Nat} {l : Array Bool} {a : Act} {w w' : World} (hr : Region.ready md ops l = [i]) (hi : ops[i]? = some oi) (hdst : oi.dst = some d)
    (hw : Region.wanted oi (yielded ops a.tmps) = true) (hrun : (execOp a.eval oi).run P w = .ok (.value v) w') (hS : i ∉ Z → S w') (h : wpL P md ops Q S Z f (l.setIfInBounds i true) (a.put (some d) v) w') : wpL P md ops Q S Z (f + 1) l a w :=
  wpL_one hr (wpOp_val hi hdst hw hrun ⟨hS, h⟩)

/-- what New answers -/
def NewP (w : World) (c : Cd.Code) (e : Ending) (w' : World) : Prop := w.grownBy w' none ∧ (Cd.check c ≠ 0 → e = .returned (.tuple #[.pointer none, .int .i64 40])) ∧ (Cd.check c = 0 → ∃ m, e = .returned (.tuple #[.pointer (some ⟨m, 0, none⟩), .int .i64 0]) ∧ Mach w.heap.size w' m c c.init)

theorem setrow2 {w : World} {b j : Nat} {cs cs' : Array Value} {T : TypeId} (v : Value) (h : w.heap[b]? = some (.cells cs T (0, 0))) (e : cs.setIfInBounds j v = cs') : (w.setCell ⟨b, j, none⟩ v).heap[b]? = some (.cells cs' T (0, 0)) := by
  rw [← e]
  exact setrow v h

set_option maxHeartbeats 4000000 in
set_option maxRecDepth 100000 in
theorem new_any (w : World) (c : Cd.Code) (ka : Option Addr) (kc : Nat) (ia : Option Addr) (ic : Nat) (ba : Option Addr) (bc : Nat) (hc : CodeAt w c ka ia ba) (h64 : I64s c) (hkc : c.kinds.length ≤ kc) :
    Calls Tryz.prog 10 #[.agg (codeV c ka kc ia ic ba bc)] w (NewP w c) := by
  have hck := fun V (hg : w.grownBy V none) => ccheck_any V c ka kc ia ic ba bc (hc.on hg) h64 hkc
  obtain ⟨R, hR⟩ : ∃ R, R = Cd.check c := ⟨_, rfl⟩
  rw [← hR] at hck
  have hg0 := World.grownBy_alloc w (.cells (codeV c ka kc ia ic ba bc) 25) none
  have hr0 := heap_alloc_new w (.cells (codeV c ka kc ia ic ba bc) 25)
  have H0 := Lib.hid (And.intro hg0 hr0)
  have HH := Lib.hid (And.intro hc (And.intro h64 (And.intro hkc hR)))
  have HCK := Lib.hid hck
  clear hck hc h64 hkc hR hg0 hr0
  obtain ⟨nk, hnk⟩ : ∃ n, c.kinds.length = n := ⟨_, rfl⟩
  obtain ⟨ni, hni⟩ : ∃ n, c.init.length = n := ⟨_, rfl⟩
  obtain ⟨nb, hnb⟩ : ∃ n, c.body.length = n := ⟨_, rfl⟩
  obtain ⟨x1, hx1⟩ : ∃ n, c.ins = n := ⟨_, rfl⟩
  obtain ⟨x2, hx2⟩ : ∃ n, c.outs = n := ⟨_, rfl⟩
  obtain ⟨x3, hx3⟩ : ∃ n, c.cells = n := ⟨_, rfl⟩
  obtain ⟨x4, hx4⟩ : ∃ n, c.stack = n := ⟨_, rfl⟩
  unfold codeV at HCK H0 ⊢
  simp only [hnk, hni, hnb, hx1, hx2, hx3, hx4] at HCK H0 ⊢
  have HN := Lib.hid (And.intro hnk (And.intro hni (And.intro hnb (And.intro hx1 (And.intro hx2 (And.intro hx3 hx4))))))
  clear hnk hni hnb hx1 hx2 hx3 hx4
  by_cases h0 : R = 0
  · subst h0
    go_enter Tryz.func10, Tryz.ntmps10
    go_wp2_with (go_at_call 26; refine (HCK.out _ H0.out.1).mono ?_; rintro e w1 ⟨rfl, hg1⟩; have H1 := Lib.hid (And.intro (H0.out.1.trans hg1) ((hg1.block _ (gl H0.out.2) (by simp)).trans H0.out.2)); clear hg1)
    obtain ⟨bx, hbx⟩ : ∃ b, b = w.heap.size := ⟨_, rfl⟩
    have hS1 := H1.out.2
    rw [← hbx] at hS1 ⊢
    have HBX := Lib.hid hbx
    clear hbx
    refine wp_region_L (S := fun V => V.heap[bx]? = some (.cells #[.slice ka nk kc, .int .i64 x1, .int .i64 x2, .int .i64 x3, .int .i64 x4, .slice ia ni ic, .slice ba nb bc] 25 (0, 0))) (Z := [10, 11, 12, 13, 14]) (by kernel_rfl) ?_
    refine wpL_as (fun V1 hV1 => ?_)
    have hS : V1.heap[bx]? = some (.cells #[.slice ka nk kc, .int .i64 x1, .int .i64 x2, .int .i64 x3, .int .i64 x4, .slice ia ni ic, .slice ba nb bc] 25 (0, 0)) := by rw [hV1]; exact hS1
    have HG1 : Hid (w.grownBy V1 none) := Lib.hid (by rw [hV1]; exact ⟨H1.out.1.os, H1.out.1.tape, H1.out.1.output, H1.out.1.size, H1.out.1.block⟩)
    clear hV1 hS1
    (try simp only [Act.put, sA, sB, sC])
    refine t1 0 7 (.pointer (some ⟨bx, 0, none⟩)) hS ?_
    (try simp only [Act.put, sA, sB, sC])
    refine t2 1 8 (.slice ka nk kc) (fun w' hw' => ?_) hS ?_
    · have hc0 := cell_of_row w' _ 0 _ _ _ hw'; clear hw'; go_simp
    (try simp only [Act.put, sA, sB, sC])
    refine t1 3 10 (.pointer (some ⟨bx, 5, none⟩)) hS ?_
    (try simp only [Act.put, sA, sB, sC])
    refine t2 4 11 (.slice ia ni ic) (fun w' hw' => ?_) hS ?_
    · have hc0 := cell_of_row w' _ 5 _ _ _ hw'; clear hw'; go_simp
    (try simp only [Act.put, sA, sB, sC])
    refine t1 6 13 (.pointer (some ⟨bx, 6, none⟩)) hS ?_
    (try simp only [Act.put, sA, sB, sC])
    refine t2 7 14 (.slice ba nb bc) (fun w' hw' => ?_) hS ?_
    · have hc0 := cell_of_row w' _ 6 _ _ _ hw'; clear hw'; go_simp
    (try simp only [Act.put, sA, sB, sC])
    have hbl : bx < V1.heap.size := gl hS
    obtain ⟨p1, p2, p3, _⟩ := HH.out
    have q1 := clone_ints V1 ka c.kinds kc (p1.kinds.on HG1.out) (by have := p2.2.2.2.2.2.2.2.1; have := Ex.ok_parts HH.out.2.2.2.symm; omega)
    rw [HN.out.1] at q1
    refine wpL_call (i := 2) (d := 9) (R := fun v V => V.ownsRow V1.heap.size 3 1 v nk (ints c.kinds) ∧ V1.grownBy V none) (by kernel_rfl) rfl rfl (by kernel_rfl) (by kernel_rfl) (q1.mono fun e w' he => he) (fun v V h => (h.2.block _ (gl hS) (by simp)).trans hS) (fun v1 V2 hV2 => ?_)
    replace hS := (hV2.2.block _ (gl hS) (by simp)).trans hS
    (try simp only [Act.put, sA, sB, sC])
    refine t1 9 16 (.pointer (some ⟨bx, 0, none⟩)) hS ?_
    (try simp only [Act.put, sA, sB, sC])
    have q2 := clone_ints V2 ia c.init ic (p1.init.on (HG1.out.trans hV2.2)) (by have := p2.2.2.2.2.2.2.2.2.1; have := Ex.ok_parts HH.out.2.2.2.symm; omega)
    rw [HN.out.2.1] at q2
    refine wpL_call (i := 5) (d := 12) (R := fun v V => V.ownsRow V2.heap.size 3 1 v ni (ints c.init) ∧ V2.grownBy V none) (by kernel_rfl) rfl rfl (by kernel_rfl) (by kernel_rfl) (q2.mono fun e w' he => he) (fun v V h => (h.2.block _ (gl hS) (by simp)).trans hS) (fun v2 V3 hV3 => ?_)
    replace hS := (hV3.2.block _ (gl hS) (by simp)).trans hS
    (try simp only [Act.put, sA, sB, sC])
    have q3 := clone_inss V3 ba c.body bc (p1.body.on (HG1.out.trans (hV2.2.trans hV3.2))) (by have := Ex.ok_parts HH.out.2.2.2.symm; omega)
    rw [HN.out.2.2.1] at q3
    refine wpL_call (i := 8) (d := 15) (R := fun v V => V.ownsRow V3.heap.size 56 3 v nb (insC c.body) ∧ V3.grownBy V none) (by kernel_rfl) rfl rfl (by kernel_rfl) (by kernel_rfl) (q3.mono fun e w' he => he) (fun v V h => (h.2.block _ (gl hS) (by simp)).trans hS) (fun v3 V4 hV4 => ?_)
    replace hS := (hV4.2.block _ (gl hS) (by simp)).trans hS
    (try simp only [Act.put, sA, sB, sC])
    obtain ⟨a1, k1, rfl⟩ := own_form hV2.1
    obtain ⟨a2, k2, rfl⟩ := own_form hV3.1
    obtain ⟨a3, k3, rfl⟩ := own_form hV4.1
    have HO : Hid (w.grownBy V4 none ∧ V4.ownsRow V1.heap.size 3 1 (.slice a1 nk k1) nk (ints c.kinds) ∧ V4.ownsRow V1.heap.size 3 1 (.slice a2 ni k2) ni (ints c.init) ∧ V4.ownsRow V1.heap.size 56 3 (.slice a3 nb k3) nb (insC c.body)) := Lib.hid
      ⟨HG1.out.trans (hV2.2.trans (hV3.2.trans hV4.2)), hV2.1.kept (hV3.2.trans hV4.2) (by cases (Value.slice a1 nk k1).ownBlock <;> simp), xowns_base (hV3.1.kept hV4.2 (by cases (Value.slice a2 ni k2).ownBlock <;> simp)) hV2.2.size, xowns_base hV4.1 (Nat.le_trans hV2.2.size hV3.2.size)⟩
    clear hV2 hV3 hV4 q1 q2 q3 p1 p2 p3
    have c0 := cell_of_row V4 bx 0 _ _ _ hS
    have f0 := frozen_of_row V4 bx 0 _ _ hS
    refine wpL_skip (i := 10) (w' := V4.setCell ⟨bx, 0, none⟩ (.slice a1 nk k1)) (by kernel_rfl) rfl rfl (by kernel_rfl) (by go_simp) (fun hz => absurd (by simp) hz) ?_
    have hS5 := setrow2 (.slice a1 nk k1) (j := 0) hS rfl
    refine wpL_valZ (i := 11) (d := 17) (v := .pointer (some ⟨bx, 5, none⟩)) (w' := V4.setCell ⟨bx, 0, none⟩ (.slice a1 nk k1)) (by kernel_rfl) rfl rfl (by kernel_rfl) (by kernel_rfl) (fun hz => absurd (by simp) hz) ?_
    (try simp only [Act.put, sA, sB, sC])
    clear c0 f0
    have hk5 := Kp.set (Kp.refl [bx] V4) (k := bx) (o := 0) (by simp) (.slice a1 nk k1)
    generalize V4.setCell ⟨bx, 0, none⟩ (.slice a1 nk k1) = V5 at hS5 hk5 ⊢
    have c0 := cell_of_row V5 bx 5 _ _ _ hS5
    have f0 := frozen_of_row V5 bx 5 _ _ hS5
    refine wpL_skip (i := 12) (w' := V5.setCell ⟨bx, 5, none⟩ (.slice a2 ni k2)) (by kernel_rfl) rfl rfl (by kernel_rfl) (by go_simp) (fun hz => absurd (by simp) hz) ?_
    have hS6 := setrow2 (.slice a2 ni k2) (j := 5) hS5 rfl
    refine wpL_valZ (i := 13) (d := 18) (v := .pointer (some ⟨bx, 6, none⟩)) (w' := V5.setCell ⟨bx, 5, none⟩ (.slice a2 ni k2)) (by kernel_rfl) rfl rfl (by kernel_rfl) (by kernel_rfl) (fun hz => absurd (by simp) hz) ?_
    (try simp only [Act.put, sA, sB, sC])
    clear c0 f0
    have hk6 := Kp.set hk5 (k := bx) (o := 5) (by simp) (.slice a2 ni k2)
    generalize V5.setCell ⟨bx, 5, none⟩ (.slice a2 ni k2) = V6 at hS6 hk6 ⊢
    have c0 := cell_of_row V6 bx 6 _ _ _ hS6
    have f0 := frozen_of_row V6 bx 6 _ _ hS6
    refine wpL_skip (i := 14) (w' := V6.setCell ⟨bx, 6, none⟩ (.slice a3 nb k3)) (by kernel_rfl) rfl rfl (by kernel_rfl) (by go_simp) (fun hz => absurd (by simp) hz) ?_
    have hS7 := setrow2 (.slice a3 nb k3) (j := 6) hS6 rfl
    clear c0 f0
    have hk7 := Kp.set hk6 (k := bx) (o := 6) (by simp) (.slice a3 nb k3)
    generalize V6.setCell ⟨bx, 6, none⟩ (.slice a3 nb k3) = V7 at hS7 hk7 ⊢
    refine wpL_done (by kernel_rfl) ?_ _
    have u0 := cell_of_row V7 bx 0 _ _ _ hS7
    have u1 := cell_of_row V7 bx 1 _ _ _ hS7
    have u2 := cell_of_row V7 bx 2 _ _ _ hS7
    have u3 := cell_of_row V7 bx 3 _ _ _ hS7
    have u4 := cell_of_row V7 bx 4 _ _ _ hS7
    have u5 := cell_of_row V7 bx 5 _ _ _ hS7
    have u6 := cell_of_row V7 bx 6 _ _ _ hS7
    have HZ := Lib.hid (And.intro hk7 hbl)
    clear hS hS5 hS6 hS7 hk5 hk6 hk7 hbl
    have HF : Hid (NewP w c (.returned (.tuple #[.pointer (some ⟨V7.heap.size, 0, none⟩), .int .i64 0])) (V7.alloc (.cells #[.slice a2 ni k2, .slice a2 ni k2, .slice a1 nk k1, .int .i64 x1, .int .i64 x2, .int .i64 x3, .int .i64 x4, .slice a2 ni k2, .slice a3 nb k3] 65))) := Lib.hid (by
      obtain ⟨z1, z2⟩ := HZ.out
      obtain ⟨y0, y1, y2, y3⟩ := HO.out
      have hwV : w.heap.size ≤ V1.heap.size := HG1.out.size
      have gal := World.grownBy_alloc V7 (.cells #[.slice a2 ni k2, .slice a2 ni k2, .slice a1 nk k1, .int .i64 x1, .int .i64 x2, .int .i64 x3, .int .i64 x4, .slice a2 ni k2, .slice a3 nb k3] 65) none
      have go : ∀ {T : TypeId} {z n : Nat} {v : Value} {xs : List Value}, V4.ownsRow V1.heap.size T z v n xs → (V7.alloc (.cells #[.slice a2 ni k2, .slice a2 ni k2, .slice a1 nk k1, .int .i64 x1, .int .i64 x2, .int .i64 x3, .int .i64 x4, .slice a2 ni k2, .slice a3 nb k3] 65)).ownsRow w.heap.size T z v n xs ∧ v.ownBlock ≠ some V7.heap.size := fun {T z n v xs} h => by
        refine ⟨(xowns_base (owns_on h (fun k e => z1.block k (h.lt k e).2 (by have := (h.lt k e).1; simp; omega))) hwV).alloc _, fun e => ?_⟩
        have := (h.lt _ e).2
        have := z1.size
        omega
      obtain ⟨r1, r2⟩ := go y1
      obtain ⟨r3, r4⟩ := go y2
      obtain ⟨r5, r6⟩ := go y3
      obtain ⟨n1, n2, n3, n4, n5, n6, n7⟩ := HN.out
      have hw7 : w.grownBy V7 none := Kp.grown y0 z1 (fun k hk => by simp at hk; rw [hk, HBX.out]; exact Nat.le_refl _)
      refine ⟨hw7.trans gal, fun h => absurd HH.out.2.2.2.symm h, fun hok => ⟨V7.heap.size, rfl, _, _, _, _, ⟨?_, hw7.size, by rw [n2]; exact r3, by rw [n2]; exact r3, by rw [n1]; exact r1, by rw [n3]; exact r5, r4, r4, r2, r6, (Ex.ok_parts hok).2.2.2.2.2.2.2.2.1, HH.out.2.1.2.2.2.2.2.1⟩⟩⟩
      rw [heap_alloc_new, n4, n5, n6, n7])
    clear HZ HO HG1 HBX
    go_wp2
    go_ret2
    exact HF.out
  · have e0 : (R != 0) = true := by simp [h0]
    have HR0 := Lib.hid h0
    clear h0
    go_enter Tryz.func10, Tryz.ntmps10
    go_wp2_with (go_at_call 26; refine (HCK.out _ H0.out.1).mono ?_; rintro e w1 ⟨rfl, hg1⟩; have H1 := Lib.hid (H0.out.1.trans hg1); clear hg1)
    go_ret2
    exact ⟨H1.out, fun _ => rfl, fun e => absurd (by rw [HH.out.2.2.2]; exact e) HR0.out⟩
end Go.Proofs.YthcejnfnamhpfaaGreat
