/- Package exec: Tick (its drawn regions written by a program). -/
import Derived.Test.YthcejnfnamhpfaaGreatExG
import Derived.Deep.CutRange
namespace Go.Proofs.YthcejnfnamhpfaaGreat
open Go.RowKit Go.Maps Go.WideMaps

theorem made_ints (K : Nat) : madeCells #[.int .i64 0] K = (ints (List.replicate K 0)).toArray := by
  have h := toList_madeCells_one (.int .i64 0) K
  rw [← Array.toList_inj, h]
  simp
/-- where a part of a row of K cells begins -/
def partA (g K k : Nat) : Option Addr := if K = k then some ⟨g, 0, none⟩ else some ⟨g, k, none⟩
theorem part_from (g K k : Nat) (h : k ≤ K) (V : World) : (Instr.slice 22 (.slice (some ⟨g, 0, none⟩) K K) (some (.int .i64 (k : Int))) none none).run Tryz.prog V = .ok (.slice (partA g K k) (K - k) (K - k)) V := by
  have hs : ∀ V, (sizeOf (Tryz.prog.elem 22)).run Tryz.prog V = .ok 1 V := fun V => by kernel_rfl
  rw [run_slice_l (P := Tryz.prog) V 22 (some ⟨g, 0, none⟩) K K (by kernel_rfl) .i64 (k : Int) (by omega) (by omega), hs]
  simp [Result.andThen, sliced, partA, addr_at]
theorem part_of (g K k n : Nat) (h : k ≤ n) (hn : n ≤ K) (V : World) : (Instr.slice 22 (.slice (some ⟨g, 0, none⟩) K K) (some (.int .i64 (k : Int))) (some (.int .i64 (n : Int))) none).run Tryz.prog V = .ok (.slice (partA g K k) (n - k) (K - k)) V := by
  have hs : ∀ V, (sizeOf (Tryz.prog.elem 22)).run Tryz.prog V = .ok 1 V := fun V => by kernel_rfl
  rw [run_slice_lh (P := Tryz.prog) V 22 (some ⟨g, 0, none⟩) K K (by kernel_rfl) .i64 .i64 (k : Int) (n : Int) (by omega) (by omega) (by omega), hs]
  simp [Result.andThen, sliced, partA, addr_at]
theorem part_at {V : World} {g : Nat} {L : List Int} {T : TypeId} (hg : V.heap[g]? = some (.cells (ints L).toArray T (0, 0))) (k n : Nat) : NumsAt V (partA g L.length k) ((L.drop k).take n) := fun j x hj => by
  rw [List.getElem?_take] at hj
  split at hj
  · rw [List.getElem?_drop] at hj
    have hl := (List.getElem?_eq_some_iff.1 hj).1
    refine ⟨g, k, by unfold partA; rw [if_neg (by omega)], ?_⟩
    rw [cell_of_row V g (k + j) _ _ _ hg]
    simp [hj]
  · cases hj
theorem Kp.slot {w w' : World} {g m : Nat} {x : Obj} (h : Kp [g] w w') (hm : w.heap[m]? = some x) (hn : m ≠ g) : w'.heap[m]? = some x := (h.block m (gl hm) (by simp; exact hn)).trans hm

theorem NumsAt.onKp {w w1 w2 : World} {a : Option Addr} {l : List Int} {g : Nat} (h : NumsAt w a l) (hg : w.grownBy w1 none) (hk : Kp [g] w1 w2) (hgw : w.heap.size ≤ g) : NumsAt w2 a l := fun i n hi => by
  obtain ⟨b, o, e, hc⟩ := h i n hi
  refine ⟨b, o, e, hk.cell (hg.cell hc (by simp)) ?_⟩
  have := lt_of_some hc
  simp
  omega

namespace Ex
/-- what a tick answers: outputs, instructions, error; and the cells then -/
def tickR (c : Cd.Code) (cells ins : List Int) : List Int × Nat × Int × List Int :=
  if refuse c ins = 0 then (outsOf c (tick c cells ins).1, (tick c cells ins).2, 0, cellsOf c (tick c cells ins).1) else ([], 0, refuse c ins, cells)
theorem start_is {c : Cd.Code} {cells ins : List Int} (hi : (ins.length : Int) = c.ins) (ho : 0 ≤ c.outs) (hc : (cells.length : Int) = c.cells) (hs : c.ins + c.outs + c.cells ≤ c.kinds.length) (k : Nat) (hk : (k : Int) = c.ins + c.outs) :
    (List.replicate c.kinds.length (0 : Int)).take 0 ++ (ins ++ (List.replicate c.kinds.length (0 : Int)).drop (0 + ins.length)) = ins ++ List.replicate (c.kinds.length - ins.length) 0 ∧
    (ins ++ List.replicate (c.kinds.length - ins.length) (0 : Int)).take k ++ (cells ++ (ins ++ List.replicate (c.kinds.length - ins.length) (0 : Int)).drop (k + cells.length)) = start c cells ins := by
  constructor
  · simp
  · unfold start
    rw [List.take_append, List.drop_append, List.take_of_length_le (by omega), List.drop_eq_nil_of_le (by omega), List.take_replicate, List.drop_replicate, List.nil_append, List.append_assoc]
    rw [show min (k - ins.length) (c.kinds.length - ins.length) = c.outs.toNat by omega, show c.kinds.length - ins.length - (k + cells.length - ins.length) = c.kinds.length - (c.ins.toNat + c.outs.toNat + c.cells.toNat) by omega]
end Ex
theorem drew_row {w V : World} {m : Nat} {x : Obj} (h : w.heap[m]? = some x) (hV : V = w.drew) : V.heap[m]? = some x := by rw [hV]; exact h
/-- what Tick leaves -/
def TickP (B : Nat) (w : World) (m : Nat) (c : Cd.Code) (cells ins : List Int) (iv nv kv bv : Value) (e : Ending) (w' : World) : Prop :=
  Kp [m] w w' ∧ (∃ nv', MachR B w' m c (Ex.tickR c cells ins).2.2.2 iv nv' kv bv ∧ (nv' = nv ∨ ∀ k, nv'.ownBlock = some k → w.heap.size ≤ k)) ∧ ∃ v, e = .returned (.tuple #[v, .int .i64 ((Ex.tickR c cells ins).2.1 : Int), .int .i64 (Ex.tickR c cells ins).2.2.1]) ∧ w'.ownsRow w.heap.size 3 1 v (Ex.tickR c cells ins).1.length (ints (Ex.tickR c cells ins).1)

/-- what Tick leaves, and that what it answers hangs on nothing of the machine -/
def TickQ (B : Nat) (w : World) (m : Nat) (c : Cd.Code) (cells ins : List Int) (iv nv kv bv : Value) (e : Ending) (w' : World) : Prop :=
  Kp [m] w w' ∧ ∃ nv' v, MachR B w' m c (Ex.tickR c cells ins).2.2.2 iv nv' kv bv ∧ (nv' = nv ∨ ∀ k, nv'.ownBlock = some k → w.heap.size ≤ k) ∧ (∀ k, v.ownBlock = some k → nv'.ownBlock ≠ some k) ∧ e = .returned (.tuple #[v, .int .i64 ((Ex.tickR c cells ins).2.1 : Int), .int .i64 (Ex.tickR c cells ins).2.2.1]) ∧ w'.ownsRow w.heap.size 3 1 v (Ex.tickR c cells ins).1.length (ints (Ex.tickR c cells ins).1)

set_option maxHeartbeats 4000000 in
set_option maxRecDepth 100000 in
theorem xtickq_any {B : Nat} {w : World} {m : Nat} {c : Cd.Code} {cells : List Int} {iv nv kv bv : Value} (hM : MachR B w m c cells iv nv kv bv) (hok : Cd.check c = 0) (h64 : I64s c) {a : Option Addr} (cap : Nat) {ins : List Int} (hi : NumsAt w a ins) (hm : ins.length ≤ maxLen) (hii : ∀ y ∈ ins, Bv.I64 y) :
    Calls Tryz.prog 14 #[.pointer (some ⟨m, 0, none⟩), .slice a ins.length cap] w (TickQ B w m c cells ins iv nv kv bv) := by
  have h := hM
  clear hM
  obtain ⟨ka, kc, ia, ic, ba, bc, rfl, rfl, rfl, hcd, hkc⟩ := h.code
  obtain ⟨na, nc, rfl, hna⟩ := h.nowAt
  obtain ⟨o1, o2, o3, o4, o5, o6, o7, o8, o9, o10, o11, _⟩ := Ex.ok_parts hok
  have hrf := refusal_any h hok cap hi hm
  have HH := Lib.hid (And.intro h (And.intro hcd (And.intro hok (And.intro h64 (And.intro hi (And.intro hii (And.intro hna hkc)))))))
  obtain ⟨i, hx1⟩ : ∃ n : Nat, c.ins = n := ⟨c.ins.toNat, by omega⟩
  obtain ⟨o, hx2⟩ : ∃ n : Nat, c.outs = n := ⟨c.outs.toNat, by omega⟩
  obtain ⟨e, hx3⟩ : ∃ n : Nat, c.cells = n := ⟨c.cells.toNat, by omega⟩
  obtain ⟨x4, hx4⟩ : ∃ n, c.stack = n := ⟨_, rfl⟩
  obtain ⟨K, hnk⟩ : ∃ n, c.kinds.length = n := ⟨_, rfl⟩
  obtain ⟨ni, hni⟩ : ∃ n, c.init.length = n := ⟨_, rfl⟩
  obtain ⟨nb, hnb⟩ : ∃ n, c.body.length = n := ⟨_, rfl⟩
  have hce : cells.length = e := by have := h.cl; omega
  have hrow := h.row
  rw [hnk, hni, hnb, hx1, hx2, hx3, hx4, hce] at hrow
  have eb : ((nb : Int) == 0) = false := by rw [beq_eq_false_iff_ne]; omega
  obtain ⟨r, hr⟩ : ∃ r, Ex.refuse c ins = r := ⟨_, rfl⟩
  rw [hr] at hrf
  have HR := Lib.hid hr
  have d8 := cell_of_row w m 8 _ _ _ hrow
  have HX := Lib.hid (And.intro hx1 (And.intro hx2 (And.intro hx3 (And.intro hx4 (And.intro hnk (And.intro hni (And.intro hnb hce)))))))
  have hKb : K ≤ 8000 := by omega
  have hKi : i + o + e ≤ K := by omega
  clear h hcd hi hna hkc h64 hr hx1 hx2 hx3 hx4 hni hnb o1 o2 o3 o4 o5 o6 o7 o8 o9 o10 o11 hok hii
  by_cases h0 : r = 0
  · subst h0
    have hil : ins.length = i := by have := refuse_zero HR.out; have := HX.out.1; omega
    rw [hil] at hrf ⊢
    obtain ⟨k, hk⟩ : ∃ k, i + o = k := ⟨_, rfl⟩
    obtain ⟨q, hq⟩ : ∃ q, k + e = q := ⟨_, rfl⟩
    have ek : IntKind.i64.wrap ((i : Int) + (o : Int)) = (k : Int) := by rw [IntKind.wrap_i64]; omega
    have eq : IntKind.i64.wrap ((k : Int) + (e : Int)) = (q : Int) := by rw [IntKind.wrap_i64]; omega
    have hmk := fun V => mk_ints K (by omega) V
    have HK := Lib.hid (And.intro hk (And.intro hq hil))
    clear hk hq hil hm hnk hce
    go_enter Tryz.func14, Tryz.ntmps14
    go_wp2_with (go_at_call 33; refine hrf.mono ?_; rintro e' w1 ⟨rfl, hw1⟩; obtain rfl := hw1.symm)
    refine wp_region_L (S := fun V' => V' = w.drew) (Z := []) (by kernel_rfl) ?_
    refine wpL_as (fun V hV => ?_)
    rw [← hV]
    have hrV := drew_row hrow hV
    have c0 := cell_of_row V m 0 _ _ _ hrV
    have c1 := cell_of_row V m 1 _ _ _ hrV
    have c2 := cell_of_row V m 2 _ _ _ hrV
    have c3 := cell_of_row V m 3 _ _ _ hrV
    have c4 := cell_of_row V m 4 _ _ _ hrV
    have c5 := cell_of_row V m 5 _ _ _ hrV
    have c6 := cell_of_row V m 6 _ _ _ hrV
    have c7 := cell_of_row V m 7 _ _ _ hrV
    have c8 := cell_of_row V m 8 _ _ _ hrV
    have HV := Lib.hid hV
    clear hV
    have hS : V = V := rfl
    (try simp only [Act.put, sA, sB, sC])
    refine t1 0 29 (.pointer (some ⟨m, 0, none⟩)) hS ?_
    (try simp only [Act.put, sA, sB, sC])
    refine t1 1 30 (.pointer (some ⟨m, 0, none⟩)) hS ?_
    (try simp only [Act.put, sA, sB, sC])
    refine t1 2 31 (.pointer (some ⟨m, 2, none⟩)) hS ?_
    (try simp only [Act.put, sA, sB, sC])
    refine t1 3 32 (.pointer (some ⟨m, 3, none⟩)) hS ?_
    (try simp only [Act.put, sA, sB, sC])
    refine t2 4 33 (.int .i64 (i : Int)) (fun w' hw' => ?_) hS ?_
    · subst hw'; go_simp
    (try simp only [Act.put, sA, sB, sC])
    refine t1 5 34 (.pointer (some ⟨m, 0, none⟩)) hS ?_
    (try simp only [Act.put, sA, sB, sC])
    refine t1 6 35 (.pointer (some ⟨m, 0, none⟩)) hS ?_
    (try simp only [Act.put, sA, sB, sC])
    refine t1 7 36 (.pointer (some ⟨m, 2, none⟩)) hS ?_
    (try simp only [Act.put, sA, sB, sC])
    refine t1 8 37 (.pointer (some ⟨m, 3, none⟩)) hS ?_
    (try simp only [Act.put, sA, sB, sC])
    refine t2 9 38 (.int .i64 (i : Int)) (fun w' hw' => ?_) hS ?_
    · subst hw'; go_simp
    (try simp only [Act.put, sA, sB, sC])
    refine t1 10 39 (.pointer (some ⟨m, 0, none⟩)) hS ?_
    (try simp only [Act.put, sA, sB, sC])
    refine t1 11 40 (.pointer (some ⟨m, 0, none⟩)) hS ?_
    (try simp only [Act.put, sA, sB, sC])
    refine t1 12 41 (.pointer (some ⟨m, 2, none⟩)) hS ?_
    (try simp only [Act.put, sA, sB, sC])
    refine t1 13 42 (.pointer (some ⟨m, 4, none⟩)) hS ?_
    (try simp only [Act.put, sA, sB, sC])
    refine t2 14 43 (.int .i64 (o : Int)) (fun w' hw' => ?_) hS ?_
    · subst hw'; go_simp
    (try simp only [Act.put, sA, sB, sC])
    refine t2 15 44 (.int .i64 (k : Int)) (fun w' hw' => ?_) hS ?_
    · subst hw'; go_simp
    (try simp only [Act.put, sA, sB, sC])
    refine t1 16 8 (.int .i64 (i : Int)) hS ?_
    (try simp only [Act.put, sA, sB, sC])
    refine t1 17 9 (.int .i64 (k : Int)) hS ?_
    (try simp only [Act.put, sA, sB, sC])
    refine wpL_done (by kernel_rfl) ?_ _
    have HXA := Lib.hid (And.intro (fun g => part_from g K k (by have := HK.out; omega)) (And.intro (fun g => part_of g K k q (by have := HK.out; omega) (by have := HK.out; omega)) (fun g => part_of g K i k (by have := HK.out; omega) (by have := HK.out; omega))))
    go_upto_region 8 with fail
    refine wp_asx (fun W2 hW2 => ?_)
    obtain ⟨g, hg⟩ : ∃ g, g = V.heap.size := ⟨_, rfl⟩
    have hgw : w.heap.size ≤ g := by rw [hg, HV.out]; exact Nat.le_refl _
    have hrg : W2.heap[g]? = some (.cells (ints (List.replicate K 0)).toArray 3 (0, 0)) := by rw [hW2, hg, heap_alloc_new, made_ints]
    have hg2 : w.grownBy W2 none := by
      have := World.grownBy_alloc V (.cells (madeCells #[.int .i64 0] K) 3) none
      rw [hW2]
      rw [HV.out] at this ⊢
      exact ⟨this.os, this.tape, this.output, this.size, this.block⟩
    have hmg : m ≠ g := by have := gl hrow; omega
    obtain ⟨W3, hcp, hg3, hk3⟩ := copy_nums hrg (off := 0) (dl := K) (dc := K) (d := some ⟨g, 0, none⟩) ins cap (HH.out.2.2.2.2.1.on hg2) (fun _ => rfl) (by simp; have := HK.out.2.2; omega) (by have := HK.out.2.2; omega)
    rw [HK.out.2.2] at hcp
    have hr3 := hk3.slot ((hg2.block m (gl hrow) (by simp)).trans hrow) hmg
    rw [← hg]
    have HG2 := Lib.hid (And.intro hg2 hk3)
    have HG3 := Lib.hid hg3
    clear hW2 hg hrV hrg hg2 hk3 hg3 hS HV hmk hrow d8
    clear c0 c1 c2 c3 c4 c5 c6 c7 c8
    go_wp2
    clear hcp
    refine wp_region_L (S := fun V' => V'.heap[m]? = some (.cells #[.slice ia ni ic, .slice na e nc, .slice ka K kc, .int .i64 (i : Int), .int .i64 (o : Int), .int .i64 (e : Int), .int .i64 x4, .slice ia ni ic, .slice ba nb bc] 65 (0, 0))) (Z := []) (by kernel_rfl) ?_
    refine wpL_as (fun V3 hV3 => ?_)
    have hS := drew_row hr3 hV3
    have HV3 := Lib.hid hV3
    clear hV3 hr3
    have hxa := HXA.out.1 g
    have hya := HXA.out.2.1 g
    have hza := HXA.out.2.2 g
    obtain ⟨XA, hXA⟩ : ∃ XA, XA = partA g K k := ⟨_, rfl⟩
    obtain ⟨ZA, hZA⟩ : ∃ ZA, ZA = partA g K i := ⟨_, rfl⟩
    rw [← hXA] at hxa hya
    rw [← hZA] at hza
    have HPA := Lib.hid (And.intro hXA hZA)
    clear hXA hZA HXA
    (try simp only [Act.put, sA, sB, sC])
    refine t1 0 55 (.slice (some ⟨g, 0, none⟩) K K) hS ?_
    (try simp only [Act.put, sA, sB, sC])
    refine t1 1 56 (.int .i64 (k : Int)) hS ?_
    (try simp only [Act.put, sA, sB, sC])
    refine t2 2 57 (.slice XA (K - k) (K - k)) (fun w' hw' => ?_) hS ?_
    · have hq0 := hxa w'; clear hxa hza hya hw'; go_simp
    (try simp only [Act.put, sA, sB, sC])
    refine t1 3 58 (.pointer (some ⟨m, 0, none⟩)) hS ?_
    (try simp only [Act.put, sA, sB, sC])
    refine t1 4 59 (.pointer (some ⟨m, 0, none⟩)) hS ?_
    (try simp only [Act.put, sA, sB, sC])
    refine t1 5 60 (.pointer (some ⟨m, 0, none⟩)) hS ?_
    (try simp only [Act.put, sA, sB, sC])
    refine t1 6 61 (.pointer (some ⟨m, 1, none⟩)) hS ?_
    (try simp only [Act.put, sA, sB, sC])
    refine t2 7 62 (.slice na e nc) (fun w' hw' => ?_) hS ?_
    · have hc0 := cell_of_row w' m 1 _ _ _ hw'; clear hxa hza hya hw'; go_simp
    (try simp only [Act.put, sA, sB, sC])
    have hL3 : V3.heap[g]? = some (.cells (ints (ins ++ List.replicate (K - ins.length) 0)).toArray 3 (0, 0)) := by
      have := drew_row HG3.out HV3.out
      rw [this]
      simp
    obtain ⟨W4, hcp, hg4, hk4⟩ := copy_nums hL3 (off := k) (dl := K - k) (dc := K - k) (d := XA) cells nc (by
      refine HH.out.2.2.2.2.2.2.1.onKp (HG2.out.1) ?_ hgw
      rw [HV3.out]
      exact HG2.out.2.drew) (fun hne => by
        rw [HPA.out.1]
        unfold partA
        rw [if_neg]
        have := HX.out.2.2.2.2.2.2.2
        have := HK.out
        have : cells.length ≠ 0 := fun h => hne (List.eq_nil_of_length_eq_zero h)
        omega) (by simp; have := HX.out.2.2.2.2.2.2.2; have := HK.out; omega) (by have := HX.out.2.2.2.2.2.2.2; have := HK.out; omega)
    rw [HX.out.2.2.2.2.2.2.2] at hcp
    have hS4 := hk4.slot hS hmg
    refine wpL_valZ (i := 8) (d := 63) (v := goInt e) (w' := W4) (by kernel_rfl) rfl rfl (by kernel_rfl) (by clear hxa hya hza; go_simp) (fun _ => hS4) ?_
    (try simp only [Act.put, sA, sB, sC])
    refine wpL_done (by kernel_rfl) ?_ _
    have hg40 : W4.heap[g]? = some (.cells (ints (Ex.start c cells ins)).toArray 3 (0, 0)) := by
      obtain ⟨y1, y2, y3, y4, y5, y6, y7, y8⟩ := HX.out
      obtain ⟨z1, z2, z3⟩ := HK.out
      have := (Ex.start_is (c := c) (cells := cells) (ins := ins) (by omega) (by omega) (by omega) (by omega) k (by omega)).2
      rw [y5] at this
      rw [hg4, this]
    have HW4 : Hid (∃ W1, w.grownBy W1 none ∧ Kp [g] W1 W4) := Lib.hid ⟨W2, HG2.out.1, HG2.out.2.trans (by
      have := hk4
      rw [HV3.out] at this
      exact ⟨this.os, this.tape, this.output, this.size, this.block⟩)⟩
    have HG4 := Lib.hid (And.intro hg40 hS4)
    clear hcp hg4 hk4 hL3 hS HG2 HG3 HV3 hg40
    have hrun : Calls Tryz.prog 34 #[.agg #[.slice ka K kc, .int .i64 (i : Int), .int .i64 (o : Int), .int .i64 (e : Int), .int .i64 x4, .slice ia ni ic, .slice ba nb bc], .slice (some ⟨g, 0, none⟩) K K] W4 fun e' w' =>
        e' = .returned (.int .i64 ((Ex.tick c cells ins).2 : Int)) ∧ Kp [g] W4 w' ∧ w'.heap[g]? = some (.cells (ints (Ex.tick c cells ins).1).toArray 3 (0, 0)) := by
      obtain ⟨y1, y2, y3, y4, y5, y6, y7, y8⟩ := HX.out
      obtain ⟨x1, x2, x3, x4', x5, x6, x7, x8⟩ := HH.out
      obtain ⟨W1, v1, v2⟩ := HW4.out
      obtain ⟨z1, z2, z3⟩ := HK.out
      have hlen : (Ex.start c cells ins).length = c.kinds.length := Ex.start_len x3 (by omega) (by omega)
      have := xrun_any (W0 := w) (w := W4) (Kp.grown v1 v2 (fun k hk => by simp at hk; rw [hk]; exact hgw)) kc ic bc x2 x4' x3 (g := g) (val := Ex.start c cells ins) hgw HG4.out.1 hlen (Ex.start_i64 x1.ci x6)
      unfold codeV at this
      rw [hlen, y1, y2, y3, y4, y5, y6, y7] at this
      unfold Ex.tick
      rw [y7]
      exact this
    have hrW4 := hS4
    clear hS4
    have c0 := cell_of_row W4 m 0 _ _ _ hrW4
    have c1 := cell_of_row W4 m 1 _ _ _ hrW4
    have c2 := cell_of_row W4 m 2 _ _ _ hrW4
    have c3 := cell_of_row W4 m 3 _ _ _ hrW4
    have c4 := cell_of_row W4 m 4 _ _ _ hrW4
    have c5 := cell_of_row W4 m 5 _ _ _ hrW4
    have c6 := cell_of_row W4 m 6 _ _ _ hrW4
    have c7 := cell_of_row W4 m 7 _ _ _ hrW4
    have c8 := cell_of_row W4 m 8 _ _ _ hrW4
    clear hrW4 c0 c1
    go_wp2_with (go_at_call 34; refine hrun.mono ?_; rintro e' W5 ⟨rfl, hk5, hg5⟩; have H5 := Lib.hid (And.intro hk5 hg5); clear hk5 hg5)
    clear c2 c3 c4 c5 c6 c7 c8 hrun
    have hr5 := H5.out.1.slot HG4.out.2 hmg
    refine wp_region_L (S := fun V' => ∃ u, V'.heap[m]? = some (.cells #[.slice ia ni ic, u, .slice ka K kc, .int .i64 (i : Int), .int .i64 (o : Int), .int .i64 (e : Int), .int .i64 x4, .slice ia ni ic, .slice ba nb bc] 65 (0, 0))) (Z := []) (by kernel_rfl) ?_
    refine wpL_as (fun V5 hV5 => ?_)
    have hrV5 := drew_row hr5 hV5
    have hgV5 := drew_row H5.out.2 hV5
    have hS : ∃ u, V5.heap[m]? = some (.cells #[.slice ia ni ic, u, .slice ka K kc, .int .i64 (i : Int), .int .i64 (o : Int), .int .i64 (e : Int), .int .i64 x4, .slice ia ni ic, .slice ba nb bc] 65 (0, 0)) := ⟨_, hrV5⟩
    have HV5 := Lib.hid hV5
    clear hV5 hr5
    (try simp only [Act.put, sA, sB, sC])
    refine t1 0 70 (.pointer (some ⟨m, 0, none⟩)) hS ?_
    (try simp only [Act.put, sA, sB, sC])
    refine t1 1 71 (.pointer (some ⟨m, 0, none⟩)) hS ?_
    (try simp only [Act.put, sA, sB, sC])
    refine t1 2 72 (.pointer (some ⟨m, 0, none⟩)) hS ?_
    (try simp only [Act.put, sA, sB, sC])
    refine t1 3 73 (.slice (some ⟨g, 0, none⟩) K K) hS ?_
    (try simp only [Act.put, sA, sB, sC])
    refine t1 4 74 (.int .i64 (k : Int)) hS ?_
    (try simp only [Act.put, sA, sB, sC])
    refine t1 5 75 (.int .i64 (k : Int)) hS ?_
    (try simp only [Act.put, sA, sB, sC])
    refine t1 6 76 (.pointer (some ⟨m, 0, none⟩)) hS ?_
    (try simp only [Act.put, sA, sB, sC])
    refine t1 7 77 (.pointer (some ⟨m, 0, none⟩)) hS ?_
    (try simp only [Act.put, sA, sB, sC])
    refine t1 8 78 (.pointer (some ⟨m, 2, none⟩)) hS ?_
    (try simp only [Act.put, sA, sB, sC])
    refine t1 9 79 (.pointer (some ⟨m, 5, none⟩)) hS ?_
    (try simp only [Act.put, sA, sB, sC])
    refine t2 10 80 (.int .i64 (e : Int)) (fun w' hw' => ?_) hS ?_
    · obtain ⟨u, hw'⟩ := hw'; have hc0 := cell_of_row w' m 5 _ _ _ hw'; clear hxa hza hya hw'; go_simp
    (try simp only [Act.put, sA, sB, sC])
    refine t2 11 81 (.int .i64 (q : Int)) (fun w' hw' => ?_) hS ?_
    · clear hxa hza hya hw'; go_simp
    (try simp only [Act.put, sA, sB, sC])
    refine t2 12 82 (.slice XA (q - k) (K - k)) (fun w' hw' => ?_) hS ?_
    · have hq0 := hya w'; clear hxa hza hya hw'; go_simp
    (try simp only [Act.put, sA, sB, sC])
    obtain ⟨L, hL⟩ : ∃ L, L = (Ex.tick c cells ins).1 := ⟨_, rfl⟩
    rw [← hL] at hgV5
    have hLK : L.length = K := by
      obtain ⟨y1, y2, y3, y4, y5, y6, y7, y8⟩ := HX.out
      obtain ⟨z1, z2, z3⟩ := HK.out
      rw [hL]
      unfold Ex.tick
      rw [Ex.fin_len, Ex.start_len HH.out.2.2.1 (by omega) (by omega)]
      exact y5
    have hcs : Ex.cellsOf c L = (L.drop k).take (q - k) := by
      obtain ⟨y1, y2, y3, y4, y5, y6, y7, y8⟩ := HX.out
      obtain ⟨z1, z2, z3⟩ := HK.out
      unfold Ex.cellsOf
      rw [show c.ins.toNat + c.outs.toNat = k by omega, show c.cells.toNat = q - k by omega]
    have hos : Ex.outsOf c L = (L.drop i).take (k - i) := by
      obtain ⟨y1, y2, y3, y4, y5, y6, y7, y8⟩ := HX.out
      obtain ⟨z1, z2, z3⟩ := HK.out
      unfold Ex.outsOf
      rw [show c.ins.toNat = i by omega, show c.outs.toNat = k - i by omega]
    have hcl : (Ex.cellsOf c L).length = q - k := by
      have := HK.out
      rw [hcs, List.length_take, List.length_drop, hLK]
      omega
    have hol : (Ex.outsOf c L).length = k - i := by
      have := HK.out
      rw [hos, List.length_take, List.length_drop, hLK]
      omega
    have hkeep := keep_any hrV5 rfl XA (q - k) (Ex.cellsOf c L) (K - k) hcl (by rw [hcs, HPA.out.1, ← hLK]; exact part_at hgV5 _ _) (by have := HK.out; omega)
    refine wpL_call (i := 13) (d := 83) (R := fun v V => v = .tuple #[] ∧ ∃ v1 w1, V5.grownBy w1 none ∧ w1.ownsRow V5.heap.size 3 1 v1 (q - k) (ints (Ex.cellsOf c L)) ∧ V = w1.setCell ⟨m, 1, none⟩ v1) (by kernel_rfl) rfl rfl (by kernel_rfl) (by kernel_rfl) (hkeep.mono fun e w' he => ⟨_, he.1, rfl, he.2⟩)
      (fun v V h => by
        obtain ⟨_, v1, w1, h1, h2, h3⟩ := h
        exact ⟨v1, by rw [h3]; exact setrow2 v1 ((h1.block m (gl hrV5) (by simp)).trans hrV5) rfl⟩) (fun v W6 hR => ?_)
    obtain ⟨rfl, v1, w1, h1, h2, h3⟩ := hR
    (try simp only [Act.put, sA, sB, sC])
    refine wpL_done (by kernel_rfl) ?_ _
    have hr6 : W6.heap[m]? = some (.cells #[.slice ia ni ic, v1, .slice ka K kc, .int .i64 (i : Int), .int .i64 (o : Int), .int .i64 (e : Int), .int .i64 x4, .slice ia ni ic, .slice ba nb bc] 65 (0, 0)) := by rw [h3]; exact setrow2 v1 ((h1.block m (gl hrV5) (by simp)).trans hrV5) rfl
    have hg6 : W6.heap[g]? = some (.cells (ints L).toArray 3 (0, 0)) := by rw [h3, heap_setCell_other _ ⟨m, 1, none⟩ g _ (fun e => hmg e.symm)]; exact (h1.block g (gl hgV5) (by simp)).trans hgV5
    have hclone := clone_n W6 ZA (k - i) (Ex.outsOf c L) (K - i) hol (by rw [hos, HPA.out.2, ← hLK]; exact part_at hg6 _ _) (by have := HK.out; omega)
    have hn1 : v1.ownBlock ≠ some m := fun e => by have := (h2.lt _ e).1; have := gl hrV5; omega
    have ho6 : W6.ownsRow V5.heap.size 3 1 v1 (q - k) (ints (Ex.cellsOf c L)) := by rw [h3]; exact owns_on h2 (fun j e => heap_setCell_other w1 ⟨m, 1, none⟩ j v1 (fun e2 => hn1 (by rw [e, e2])))
    have hk6 : Kp [m] w W6 := by
      obtain ⟨W1, a1, a2⟩ := HW4.out
      have b1 : w.grownBy W4 none := Kp.grown a1 a2 (fun k hk => by simp at hk; rw [hk]; exact hgw)
      have b2 : w.grownBy W5 none := Kp.grown b1 H5.out.1 (fun k hk => by simp at hk; rw [hk]; exact hgw)
      have b3 : Kp [m] w V5 := by rw [HV5.out]; exact (Kp.of0 b2 _).drew
      rw [h3]
      exact (b3.trans (Kp.of0 h1 _)).set (by simp) v1
    have HE := Lib.hid (And.intro hr6 (And.intro ho6 (And.intro hk6 (And.intro hn1 (And.intro hL (And.intro hcl (And.intro hol (show w.heap.size ≤ V5.heap.size by
      obtain ⟨W1, a1, a2⟩ := HW4.out
      rw [HV5.out]
      exact Nat.le_trans a1.size (Nat.le_trans a2.size H5.out.1.size)))))))))
    clear hr6 ho6 hk6 hn1 hL hcl hol h1 h2 h3 hkeep hcs hos hS hrV5 hgV5 hg6 HV5 H5 HW4 HG4
    have hclone2 := hclone
    clear hclone hxa hya
    go_wp2_with (go_at_call 27; refine hclone2.mono ?_; rintro e' W7 ⟨v7, rfl, ho7, hg7⟩; have H7 := Lib.hid (And.intro ho7 hg7); clear ho7 hg7)
    refine bodyPost_ret (results_tmp3 rfl _ _ _) rfl ?_
    obtain ⟨e1, e2, e3, e4, e5, e6, e7, e8⟩ := HE.out
    obtain ⟨x1, x2, x3, x4', x5, x6, x7, x8⟩ := HH.out
    obtain ⟨y1, y2, y3, y4, y5, y6, y7, y8⟩ := HX.out
    have ht : Ex.tickR c cells ins = (Ex.outsOf c L, (Ex.tick c cells ins).2, 0, Ex.cellsOf c L) := by
      unfold Ex.tickR
      rw [if_pos HR.out, ← e5]
    have hk7 : Kp [m] w W7 := e3.trans (Kp.of0 H7.out.2 _)
    have hown : ∀ {T : TypeId} {z n : Nat} {v : Value} {xs : List Value}, w.ownsRow B T z v n xs → v.ownBlock ≠ some m → W7.ownsRow B T z v n xs := fun {T z n v xs} h hn => owns_on h (fun k he => hk7.block k (h.lt k he).2 (by simp; intro e9; exact hn (by rw [he, e9])))
    refine ⟨hk7, v1, v7, ?_⟩
    rw [ht]
    refine ⟨?_, .inr (fun k he => Nat.le_trans e8 (e2.lt k he).1), fun k h1 h2 => ?_, rfl, ?_⟩
    · refine ⟨?_, x1.mb, hown x1.init x1.ni, ?_, hown x1.kinds x1.nk, hown x1.body x1.nb, x1.ni, e4, x1.nk, x1.nb, ?_, ?_⟩
      · rw [y1, y2, y3, y4, y5, y6, y7]
        exact (H7.out.2.block m (gl e1) (by simp)).trans e1
      · rw [e6]
        exact xowns_base (e2.kept H7.out.2 (by cases v1.ownBlock <;> simp)) (Nat.le_trans x1.mb (Nat.le_trans (Nat.le_of_lt (gl x1.row)) e8))
      · rw [e6, y3]
        have := HK.out
        omega
      · refine Ex.cells_i64 ?_
        rw [e5]
        exact Ex.fin_i64 (fun x hx => (x4'.2.2.2.2.2.2.1 x hx).2.1) _ _ _ _ _ (Ex.start_i64 x1.ci x6) (by simp)
    · have := (H7.out.1.lt k h1).1
      have := (e2.lt k h2).2
      omega
    · rw [e7]
      exact xowns_base H7.out.1 (Nat.le_trans e3.size (Nat.le_refl _))
  · have e0 : (r != 0) = true := by simp [h0]
    have ht : Ex.tickR c cells ins = ([], 0, r, cells) := by
      unfold Ex.tickR
      rw [if_neg (by rw [HR.out]; exact h0), HR.out]
    have HT := Lib.hid ht
    obtain ⟨N, hN⟩ : ∃ N, ins.length = N := ⟨_, rfl⟩
    rw [hN] at hrf ⊢
    clear ht hm hnk hce h0 hN
    go_enter Tryz.func14, Tryz.ntmps14
    go_wp2_with (go_at_call 33; refine hrf.mono ?_; rintro e' w1 ⟨rfl, hw1⟩; obtain rfl := hw1.symm)
    refine bodyPost_ret (results_tmp3 rfl _ _ _) rfl ?_
    refine ⟨Kp.refl _ _, .slice na cells.length nc, .slice none 0 0, ?_⟩
    rw [HT.out]
    exact ⟨HH.out.1, .inl rfl, fun k h1 => (by cases h1), rfl, World.ownsRow_nil _ _ _ _⟩
theorem xtick_any {B : Nat} {w : World} {m : Nat} {c : Cd.Code} {cells : List Int} {iv nv kv bv : Value} (hM : MachR B w m c cells iv nv kv bv) (hok : Cd.check c = 0) (h64 : I64s c) {a : Option Addr} (cap : Nat) {ins : List Int} (hi : NumsAt w a ins) (hm : ins.length ≤ maxLen) (hii : ∀ y ∈ ins, Bv.I64 y) :
    Calls Tryz.prog 14 #[.pointer (some ⟨m, 0, none⟩), .slice a ins.length cap] w (TickP B w m c cells ins iv nv kv bv) :=
  (xtickq_any hM hok h64 cap hi hm hii).mono fun _ _ ⟨h1, nv', v, h2, h3, _, h5, h6⟩ => ⟨h1, ⟨nv', h2, h3⟩, v, h5, h6⟩
end Go.Proofs.YthcejnfnamhpfaaGreat
