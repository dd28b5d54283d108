/- Package exec: the deeds by their number; what the slots begin with. -/
import Derived.Test.YthcejnfnamhpfaaGreatExB
import Derived.Deep.OwnRows
namespace Go.Proofs.YthcejnfnamhpfaaGreat
open Go.RowKit Go.Maps Go.WideMaps

def deedsV : List Value := [.nilFunc, .func (.func 67) #[] #[], .func (.func 68) #[] #[], .func (.func 69) #[] #[], .func (.func 70) #[] #[], .func (.func 71) #[] #[], .func (.func 72) #[] #[], .func (.func 73) #[] #[], .func (.func 74) #[] #[], .func (.func 75) #[] #[]]
theorem deedsOf_any (w : World) : Calls Tryz.prog 48 #[] w fun e w' => e = .returned (.agg deedsV.toArray) ∧ w.grownBy w' none := by
  have hr := heap_alloc_new w (.cells deedsV.toArray 85)
  have HG := Lib.hid (And.intro (World.grownBy_alloc w (.cells deedsV.toArray 85) none) hr)
  clear hr
  go_enter Tryz.func48, Tryz.ntmps48
  go_wp2
  exact bodyPost_ret (results_cell_row rfl _ _ w.heap.size 85 _ (0, 0) _ rfl HG.out.2 Tryz.underlying85 rfl (by kernel_rfl)) rfl ⟨rfl, HG.out.1⟩
theorem DeP.cast {W w w' : World} {t g : Nat} {sv : Value} {v v' s s' : List Int} {p p' : Nat} {en en' : Bool} {e : Ending} (h : DeP W w t g sv v s p en e w') (hv : v = v') (hs : s = s') (hp : p = p') (he : en = en') : DeP W w t g sv v' s' p' en' e w' := by
  subst hv hs hp he
  exact h
theorem snoc_of {s : List Int} (h : 1 ≤ s.length) : ∃ r a, s = r ++ [a] := by
  have hne : s ≠ [] := fun e => by rw [e] at h; simp at h
  exact ⟨s.dropLast, s.getLast hne, (List.dropLast_concat_getLast hne).symm⟩
/-- the deed of an instruction: which function, what it does -/
theorem deed_do {c : Cd.Code} {x : Cd.Ins} {pc : Nat} {val s : List Int} (hf : Ex.Fine c x pc val s) (hs : s.length ≤ 64) (hn : c.body.length ≤ 60000) (hpc : pc < c.body.length) (hi : ∀ y ∈ s, Bv.I64 y) :
    ∃ f, deedsV[x.op.toNat]? = some (.func (.func f) #[] #[]) ∧ (∀ args w, (callFunc f args).run Tryz.prog w = .ok (.enter f args) w) ∧
      ∀ W w t g sv, Tk W w t g val s (pc + 1) false sv → Calls Tryz.prog f #[.pointer (some ⟨t, 0, none⟩), .agg #[.int .i64 x.op, .int .i64 x.n, .int .i64 x.k]] w (DeP W w t g sv (Ex.deed x val s).1 (Ex.deed x val s).2 (Ex.nxt x pc s) (decide (x.op = 9))) := by
  obtain ⟨op, n, k⟩ := x
  obtain ⟨hop, hslot, h1, h2, _, hah⟩ := hf
  simp only at hop hslot h1 h2 hah ⊢
  rcases (show op = 1 ∨ op = 2 ∨ op = 3 ∨ op = 4 ∨ op = 5 ∨ op = 6 ∨ op = 7 ∨ op = 8 ∨ op = 9 by omega) with rfl | rfl | rfl | rfl | rfl | rfl | rfl | rfl | rfl
  · exact ⟨67, rfl, fun args w => enters Tryz.func67 (by kernel_rfl) rfl args w, fun W w t g sv h => (xlay_any 1 n k h (by omega)).mono fun e w' H => H.cast (by simp [Ex.deed]) (by simp [Ex.deed]) (by simp [Ex.nxt]) (by simp)⟩
  · refine ⟨68, rfl, fun args w => enters Tryz.func68 (by kernel_rfl) rfl args w, fun W w t g sv h => ?_⟩
    have hl := hslot (.inl rfl)
    obtain ⟨i, rfl⟩ : ∃ i : Nat, n = i := ⟨n.toNat, by omega⟩
    have hil : i < val.length := by omega
    refine (xload_any 2 i k rfl (List.getElem?_eq_getElem hil) h (by omega)).mono fun e w' H => H.cast (by simp [Ex.deed]) ?_ (by simp [Ex.nxt]) (by simp)
    simp [Ex.deed, List.getD_eq_getElem?_getD, List.getElem?_eq_getElem hil]
  · refine ⟨69, rfl, fun args w => enters Tryz.func69 (by kernel_rfl) rfl args w, fun W w t g sv h => ?_⟩
    have hl := hslot (.inr rfl)
    obtain ⟨i, rfl⟩ : ∃ i : Nat, n = i := ⟨n.toNat, by omega⟩
    obtain ⟨r, a, rfl⟩ := snoc_of (h1 (.inl rfl))
    simp only [List.length_append, List.length_singleton] at hs
    exact (xsave_any 3 i k rfl (by omega) h (by omega)).mono fun e w' H => H.cast (by simp [Ex.deed, Ex.top_snoc]) (by simp [Ex.deed]) (by simp [Ex.nxt]) (by simp)
  · refine ⟨70, rfl, fun args w => enters Tryz.func70 (by kernel_rfl) rfl args w, fun W w t g sv h => ?_⟩
    obtain ⟨r, a, rfl⟩ := snoc_of (h1 (.inr (.inl rfl)))
    simp only [List.length_append, List.length_singleton] at hs
    exact (xunary_any 4 n k h (by omega)).mono fun e w' H => H.cast (by simp [Ex.deed]) (by simp [Ex.deed, Ex.top_snoc]) (by simp [Ex.nxt]) (by simp)
  · refine ⟨71, rfl, fun args w => enters Tryz.func71 (by kernel_rfl) rfl args w, fun W w t g sv h => ?_⟩
    have hl2 := h2 rfl
    obtain ⟨r', b, rfl⟩ := snoc_of (show 1 ≤ s.length by omega)
    obtain ⟨r, a, rfl⟩ := snoc_of (show 1 ≤ r'.length by simp at hl2; omega)
    simp only [List.length_append, List.length_singleton] at hs
    exact (xbinary_any 5 n k (hi b (by simp)) h (by omega)).mono fun e w' H => H.cast (by simp [Ex.deed]) (by simp only [Ex.deed, Ex.top_snoc, List.dropLast_concat]; simp) (by simp [Ex.nxt]) (by simp)
  · refine ⟨72, rfl, fun args w => enters Tryz.func72 (by kernel_rfl) rfl args w, fun W w t g sv h => ?_⟩
    obtain ⟨r, a, rfl⟩ := snoc_of (h1 (.inr (.inr (.inl rfl))))
    simp only [List.length_append, List.length_singleton] at hs
    exact (xcast_any 6 n k h (by omega)).mono fun e w' H => H.cast (by simp [Ex.deed]) (by simp [Ex.deed, Ex.top_snoc]) (by simp [Ex.nxt]) (by simp)
  · refine ⟨73, rfl, fun args w => enters Tryz.func73 (by kernel_rfl) rfl args w, fun W w t g sv h => ?_⟩
    obtain ⟨a1, a2⟩ := hah (.inl rfl)
    exact (xjump_any 7 n k h a1 (by omega)).mono fun e w' H => H.cast (by simp [Ex.deed]) (by simp [Ex.deed]) (by simp [Ex.nxt]) (by simp)
  · refine ⟨74, rfl, fun args w => enters Tryz.func74 (by kernel_rfl) rfl args w, fun W w t g sv h => ?_⟩
    obtain ⟨a1, a2⟩ := hah (.inr rfl)
    obtain ⟨r, a, rfl⟩ := snoc_of (h1 (.inr (.inr (.inr rfl))))
    simp only [List.length_append, List.length_singleton] at hs
    exact (xbranch_any 8 n k h (by omega) a1 (by omega)).mono fun e w' H => H.cast (by simp [Ex.deed]) (by simp [Ex.deed]) (by simp [Ex.nxt, Ex.top_snoc]) (by simp)
  · exact ⟨75, rfl, fun args w => enters Tryz.func75 (by kernel_rfl) rfl args w, fun W w t g sv h => (xend_any 9 n k h).mono fun e w' H => H.cast (by simp [Ex.deed]) (by simp [Ex.deed]) (by simp [Ex.nxt]) (by simp)⟩

theorem hold_stD {P : Program} {ops : Array Oper} {rest : List Oper} {d : Option Tmp} {p v : Operand} {ty : TypeId} {s : String} {af : Array Edge} {g : Option (Nat × Bool)} {a : Act} {w : World} {Q : Exit → Act → World → Prop}
    (hK : Hid (wpList P ops Q ({ dst := d, op := Op.store 85 p v, type := ty, pos := s, after := af, guard := g } :: rest) a w)) :
    wpList P ops Q ({ dst := d, op := Op.store 85 p v, type := ty, pos := s, after := af, guard := g } :: rest) a w := hK
theorem mk_room (n : Nat) (hn : n ≤ 64) (w : World) : (Instr.makeSlice 22 (.int .i64 0) (.int .i64 (n : Int))).run Tryz.prog w = .ok (.slice (some ⟨w.heap.size, 0, none⟩) 0 n) (w.alloc (.cells (madeCells #[.int .i64 0] n) 3)) := by
  have hi : Tryz.prog.info? 3 = some ((Tryz.prog.info? 3).getD default) := by kernel_rfl
  have hz : ((Tryz.prog.info? 3).getD default).zero = some (.int .i64 0) := by kernel_rfl
  have hs : ((Tryz.prog.info? 3).getD default).size = 1 := by kernel_rfl
  have hb : ((Tryz.prog.info? 3).getD default).bytes = 8 := by kernel_rfl
  have := run_makeSlice (P := Tryz.prog) w 22 3 _ _ Tryz.underlying22 hi hz .i64 .i64 (0 : Int) (n : Int) (by omega) (by omega) (by rw [hs]; omega) (by rw [hb]; omega) (by omega)
  rw [hs] at this
  simpa only [Int.toNat_natCast, Int.toNat_zero, Value.cells, Nat.mul_one] using this
theorem mk_ints (n : Nat) (hn : n ≤ 60000) (w : World) : (Instr.makeSlice 22 (.int .i64 (n : Int)) (.int .i64 (n : Int))).run Tryz.prog w = .ok (.slice (some ⟨w.heap.size, 0, none⟩) n n) (w.alloc (.cells (madeCells #[.int .i64 0] n) 3)) :=
  run_make_row' 22 3 (.int .i64 0) 8 Tryz.underlying22 (by kernel_rfl) rfl .i64 .i64 n (by omega) (by omega) w
/-- three blocks in a row -/
theorem three_new {w W3 : World} {A B C : Obj} (h : (((w.alloc A).alloc B).alloc C).grownBy W3 none) : W3.heap[w.heap.size]? = some A ∧ W3.heap[w.heap.size + 1]? = some B ∧ W3.heap[w.heap.size + 1 + 1]? = some C ∧ w.grownBy W3 none ∧ w.heap.size + 3 ≤ W3.heap.size := by
  have sA := World.size_alloc w A
  have sB := World.size_alloc (w.alloc A) B
  have sC := World.size_alloc ((w.alloc A).alloc B) C
  have gA := World.grownBy_alloc w A none
  have gB := World.grownBy_alloc (w.alloc A) B none
  have gC := World.grownBy_alloc ((w.alloc A).alloc B) C none
  have nA := heap_alloc_new w A
  have nB := heap_alloc_new (w.alloc A) B
  have nC := heap_alloc_new ((w.alloc A).alloc B) C
  rw [sA] at nB sB
  rw [sB] at nC sC
  have hz := h.size
  refine ⟨?_, ?_, ?_, gA.trans (gB.trans (gC.trans h)), by omega⟩
  · exact ((gB.trans (gC.trans h)).block _ (by omega) (by simp)).trans nA
  · exact ((gC.trans h).block _ (by omega) (by simp)).trans nB
  · exact (h.block _ (by omega) (by simp)).trans nC
end Go.Proofs.YthcejnfnamhpfaaGreat
