/- cnf: the text of a formula. -/
import Derived.Test.YtdhgopcfjomjaaaDoorCnN
import Derived.Test.YtdhgopcfjomjaaaDoorShelfB
import Derived.Lib.AppendIntMem
import Derived.Lib.AppendStr
import Derived.Lib.SlBytesConst
import Derived.Lib.ItoaLen
namespace Go.Proofs.YtdhgopcfjomjaaaDoor
open Go.RowKit Go.Maps Go.WideMaps
open Go.Lib hiding intOf
open Cn (I64)

namespace Cn
/-- a clause's text -/
def clT (c : List Int) : List UInt8 := (c.map fun l => itoa l ++ [32]).flatten ++ [48, 10]
def clsT (L : List (List Int)) : List UInt8 := (L.map clT).flatten
def headT (f : Fm) : List UInt8 := [112, 32, 99, 110, 102, 32] ++ itoa f.vars ++ [32] ++ itoa (f.cl.length : Int) ++ [10]
def txt (f : Fm) : List UInt8 := headT f ++ clsT f.cl
def litsT (c : List Int) : List UInt8 := (c.map fun l => itoa l ++ [32]).flatten
theorem clT_eq (c : List Int) : clT c = litsT c ++ [48, 10] := rfl
theorem litsT_step {c : List Int} {t : Nat} {x : Int} (h : c[t]? = some x) : litsT (c.take (t + 1)) = litsT (c.take t) ++ (itoa x ++ [32]) := by
  unfold litsT
  rw [List.take_add_one, h]
  simp
theorem clsT_step {L : List (List Int)} {t : Nat} {c : List Int} (h : L[t]? = some c) : clsT (L.take (t + 1)) = clsT (L.take t) ++ clT c := by
  unfold clsT
  rw [List.take_add_one, h]
  simp
theorem litsT_len : ∀ (c : List Int), (∀ y ∈ c, I64 y) → (litsT c).length ≤ 22 * c.length
  | [], _ => by simp [litsT]
  | x :: r, h => by
    have h1 := itoa_length_le x (h x (by simp)).1 (h x (by simp)).2
    have h2 := litsT_len r (fun y hy => h y (by simp [hy]))
    have e : litsT (x :: r) = (itoa x ++ [32]) ++ litsT r := rfl
    rw [e]
    simp only [List.length_append, List.length_cons, List.length_nil]
    omega
theorem clsT_len : ∀ (L : List (List Int)), (∀ l ∈ L, ∀ y ∈ l, I64 y) → (clsT L).length ≤ 22 * wt L
  | [], _ => by simp [clsT]
  | c :: r, h => by
    have h1 := litsT_len c (h c (by simp))
    have h2 := clsT_len r (fun l hl => h l (by simp [hl]))
    have e : clsT (c :: r) = (litsT c ++ [48, 10]) ++ clsT r := rfl
    rw [e, List.length_append, List.length_append, wt]
    simp only [List.length_cons, List.length_nil]
    omega
end Cn

/-- the library's table of powers is laid -/
def Tab (w : World) : Prop := TabIs Tryd.prog w "internal/strconv.uint64pow10" .u64 pow10Tab
theorem gTab : Tryd.prog.globalNamed "internal/strconv.uint64pow10" = some 0 := by kernel_rfl
theorem Tab.block {w w' : World} (h : Tab w) (hb : w'.heap[0]? = w.heap[0]?) : Tab w' := by
  unfold Tab TabIs World.var? at *
  rw [gTab] at h ⊢
  simp only [Option.bind_some] at h ⊢
  rw [hb]
  exact h
theorem Tab.lt {w : World} (h : Tab w) : 0 < w.heap.size := by
  unfold Tab TabIs World.var? at h
  rw [gTab] at h
  simp only [Option.bind_some] at h
  rcases Nat.lt_or_ge 0 w.heap.size with h1 | h1
  · exact h1
  · rw [Array.getElem?_eq_none h1] at h; cases h
theorem Tab.on {w w' : World} (h : Tab w) (hg : w.grownBy w' none) : Tab w' := h.block (hg.block _ h.lt (by simp))
theorem fz_grow (w : World) (k : Nat) (os : Array Obj) : w.grownBy (Go.Sort.grow (w.drewN k) os) none :=
  have h := below_grow w.heap.size w (Nat.le_refl _) k os
  ⟨h.os, h.tape, h.output, h.size, fun i hi _ => h.block i hi⟩
theorem info_u8 : (Tryd.prog.info? 5).map (fun i => (i.zero, i.size, i.bytes)) = some (some (.int .u8 0), 1, 1) := by kernel_rfl
theorem strCells_bytes (l : List UInt8) : strCells ⟨l.toArray⟩ = byteCells l := by rw [strCells_eq]
theorem byteCells_app (a b : List UInt8) : byteCells (a ++ b) = byteCells a ++ byteCells b := by simp [byteCells]
theorem below_none {B : Nat} {w w' : World} (h : w.grownBy w' none) (hB : B ≤ w.heap.size) : Below B w w' := ⟨h.os, h.tape, h.output, h.size, fun k hk => h.block k (by omega) (by simp)⟩

/-- one byte more -/
theorem wpList_tx1 {ops : Array Oper} {rest : List Oper} {o : Oper} {a : Act} {Q : Exit → Act → World → Prop} {w : World} (hgd : o.guard = none) (s x : Operand)
    (ho : o.op = .call { callee := .builtin .append, args := #[s, x], argTypes := #[66, 66] }) {B : Nat} {v : Value} {t : List UInt8} (hs : a.eval s = v) (hown : w.ownsRow B 5 1 v t.length (byteCells t))
    (g : Nat) (y : UInt8) (hx : a.eval x = .slice (some ⟨g, 0, none⟩) 1 1) (hg : w.heap[g]? = some (.cells #[.int .u8 (y.toNat : Int)] 5 (0, 0))) (hl : t.length ≤ 1000000000) (hB : B ≤ w.heap.size)
    (h : ∀ v' w', w'.ownsRow B 5 1 v' (t ++ [y]).length (byteCells (t ++ [y])) → Below B w w' → wpList Tryd.prog ops Q rest (a.put o.dst v') w') : wpList Tryd.prog ops Q (o :: rest) a w := by
  obtain ⟨i0, hi, hz0, hzs, hzb⟩ := info_parts info_u8
  refine wpList_append_own w hgd s x 66 ho B 5 i0 _ 1 1 Tryd.underlying66 hi hz0 hzs hzb rfl (by decide) v t.length (byteCells t) hs hown ⟨g, 0, none⟩ 1 1 [.int .u8 (y.toNat : Int)] hx rfl (fun j u hj => ?_) (fun u hu => by rw [List.mem_singleton.1 hu]; rfl) (by unfold maxLen; omega) (by omega) hB ?_
  · cases j with
    | zero => simp at hj; subst hj; rw [addr_at]; exact cell_of_row _ _ 0 _ _ _ hg
    | succ j => simp at hj
  · intro v' w' h1 h2 _
    refine h v' w' (by rw [List.length_append, List.length_singleton, byteCells_app]; exact h1) ((Below.refl B w).grown h2 hB (fun k e => (hown.lt k e).1))
/-- a text more -/
theorem wpList_txs {ops : Array Oper} {rest : List Oper} {o : Oper} {a : Act} {Q : Exit → Act → World → Prop} {w : World} (hgd : o.guard = none) (s x : Operand)
    (ho : o.op = .call { callee := .builtin .append, args := #[s, x], argTypes := #[66, 9] }) {B : Nat} {v : Value} {t : List UInt8} (hs : a.eval s = v) (hown : w.ownsRow B 5 1 v t.length (byteCells t))
    (y : List UInt8) (hx : a.eval x = .string ⟨y.toArray⟩) (hy : y.length ≤ 1000000) (hl : t.length ≤ 1000000000) (hB : B ≤ w.heap.size)
    (h : ∀ v' w', w'.ownsRow B 5 1 v' (t ++ y).length (byteCells (t ++ y)) → Below B w w' → wpList Tryd.prog ops Q rest (a.put o.dst v') w') : wpList Tryd.prog ops Q (o :: rest) a w := by
  obtain ⟨i0, hi, hz0, hzs, hzb⟩ := info_parts info_u8
  have e1 : (⟨y.toArray⟩ : ByteArray).size = y.length := by simp [ByteArray.size]
  refine wpList_append_own_string w hgd s x 66 9 ho B 5 i0 Tryd.underlying66 Tryd.underlying9 hi hz0 hzs hzb v t.length (byteCells t) hs hown ⟨y.toArray⟩ hx (by unfold maxLen; omega) (by omega) hB ?_
  intro v' w' h1 h2 _
  rw [e1, strCells_bytes, ← byteCells_app, ← List.length_append] at h1
  exact h v' w' h1 ((Below.refl B w).grown h2 hB (fun k e => (hown.lt k e).1))
/-- a text behind a constant one, which has no room -/
theorem wpList_txn {ops : Array Oper} {rest : List Oper} {o : Oper} {a : Act} {Q : Exit → Act → World → Prop} {w : World} (hgd : o.guard = none) (s x : Operand)
    (ho : o.op = .call { callee := .builtin .append, args := #[s, x], argTypes := #[66, 9] }) {B g : Nat} {t : List UInt8} (hs : a.eval s = .slice (some ⟨g, 0, none⟩) t.length t.length) (hc : ∀ j u, (byteCells t)[j]? = some u → w.cell? ⟨g, j, none⟩ = some u)
    (y : List UInt8) (hx : a.eval x = .string ⟨y.toArray⟩) (hy0 : 0 < y.length) (hy : y.length ≤ 1000000) (hl : t.length ≤ 1000000000) (hB : B ≤ w.heap.size)
    (h : ∀ v' w', w'.ownsRow B 5 1 v' (t ++ y).length (byteCells (t ++ y)) → Below B w w' → wpList Tryd.prog ops Q rest (a.put o.dst v') w') : wpList Tryd.prog ops Q (o :: rest) a w := by
  obtain ⟨i0, hi, hz0, hzs, hzb⟩ := info_parts info_u8
  have e1 : (⟨y.toArray⟩ : ByteArray).size = y.length := by simp [ByteArray.size]
  have hr := run_append_grow_string (P := Tryd.prog) w 66 9 o.type 5 i0 _ Tryd.underlying66 Tryd.underlying9 hi hz0 ⟨g, 0, none⟩ t.length t.length (byteCells t) (by rw [hzs, byteCells_length, Nat.mul_one]) (fun j u hj => by rw [addr_at, Nat.zero_add]; exact hc j u hj) ⟨y.toArray⟩ (by omega) (by omega) (by rw [hzb]; exact growslice_fits (by omega) (by omega))
  rw [e1, strCells_bytes] at hr
  have hge := grownCap_ge w (t.length + y.length) t.length 5
  have hcm : grownCap w (t.length + y.length) t.length 5 ≤ maxLen := grownCap_le_maxLen w _ t.length 5 (by unfold maxLen; omega)
  refine wpList_plain hgd fun K hK => ?_
  unfold Oper.wp execOp
  simp only [ho, resolve, invoke, builtin, Sem.run_bind, Sem.run_pure, Result.andThen_ok, List.map_toArray, List.map_cons, List.map_nil, hs, hx, hr]
  refine hK _ _ (h _ _ ⟨by rw [byteCells_length, Nat.mul_one], .inr ⟨w.heap.size, _, _, by rw [List.length_append], hB, heap_alloc_new w.drew _, by rw [List.length_append]; exact hge, hcm, ?_, ?_⟩⟩ (below_none ⟨rfl, rfl, rfl, by simp, fun k hk _ => heap_alloc_old w.drew _ hk⟩ hB))
  · have hz1 : (Value.int IntKind.u8 0).cells.size = 1 := rfl
    simp only [Array.size_append, List.size_toArray, size_zeroCells, hz1, byteCells_length]
    omega
  · simp only [Array.toList_append, List.append_assoc]
    rw [← List.append_assoc, ← byteCells_app, show (t ++ y).length * 1 = (byteCells (t ++ y)).length by rw [byteCells_length, Nat.mul_one]]
    exact List.take_left
end Go.Proofs.YtdhgopcfjomjaaaDoor
