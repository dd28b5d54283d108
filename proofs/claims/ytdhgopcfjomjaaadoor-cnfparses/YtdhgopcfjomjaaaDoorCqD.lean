/- cnf: the reader: word, count, literal. -/
import Derived.Test.YtdhgopcfjomjaaaDoorCqC
import Derived.Test.YtdhgopcfjomjaaaDoorShelfC
import Derived.Shelf.Strings.SlTrimAscii
namespace Go.Proofs.YtdhgopcfjomjaaaDoor
open Go.RowKit Go.Maps Go.WideMaps
open Go.Lib hiding intOf run_convert_string_bytes
open Cn (I64)

/-- the reader at rb -/
def Rd (w : World) (rb : Nat) (rest : List UInt8) (bad : Bool) : Prop := w.heap[rb]? = some (.cells #[.string ⟨rest.toArray⟩, .bool bad] 70 (0, 0))
theorem Rd.c0 {w : World} {rb : Nat} {rest : List UInt8} {bad : Bool} (h : Rd w rb rest bad) : w.cell? ⟨rb, 0, none⟩ = some (.string ⟨rest.toArray⟩) := cell_of_row w rb 0 _ _ _ h
theorem Rd.c1 {w : World} {rb : Nat} {rest : List UInt8} {bad : Bool} (h : Rd w rb rest bad) : w.cell? ⟨rb, 1, none⟩ = some (.bool bad) := cell_of_row w rb 1 _ _ _ h
theorem Rd.f {w : World} {rb : Nat} {rest : List UInt8} {bad : Bool} (h : Rd w rb rest bad) (j : Nat) : w.frozen? ⟨rb, j, none⟩ = false := frozen_of_row w rb j _ _ h
theorem Rd.set0 {w : World} {rb : Nat} {rest : List UInt8} {bad : Bool} (h : Rd w rb rest bad) (r : List UInt8) : Rd (w.setCell ⟨rb, 0, none⟩ (.string ⟨r.toArray⟩)) rb r bad := heap_setCell_same w rb 0 _ _ _ h
theorem Rd.set1 {w : World} {rb : Nat} {rest : List UInt8} {bad : Bool} (h : Rd w rb rest bad) (b : Bool) : Rd (w.setCell ⟨rb, 1, none⟩ (.bool b)) rb rest b := heap_setCell_same w rb 1 _ _ _ h
theorem Rd.on {w w' : World} {rb : Nat} {rest : List UInt8} {bad : Bool} (h : Rd w rb rest bad) (hg : w.grownBy w' none) : Rd w' rb rest bad := (hg.block rb (gl h) (by simp)).trans h
theorem Kp.set0 (w : World) (rb j : Nat) (v : Value) : Kp [rb] w (w.setCell ⟨rb, j, none⟩ v) := (Kp.refl _ w).set (by simp) v

set_option maxHeartbeats 1000000 in
theorem word_any (w : World) (rb : Nat) (rest p : List UInt8) (bad : Bool) (h : Rd w rb rest bad) :
    Calls Tryd.prog 46 #[.pointer (some ⟨rb, 0, none⟩), .string ⟨p.toArray⟩] w fun e w' => e = .returned (.tuple #[]) ∧ Rd w' rb (trimPrefix rest p) (bad || !hasPrefix rest p) ∧ Kp [rb] w w' := by
  have c0 := h.c0
  have c1 := h.c1
  have f0 := h.f 0
  have f1 := h.f 1
  have hcp := Tryd.strings_CutPrefix ⟨rest.toArray⟩ ⟨p.toArray⟩ w
  have HP := Lib.hid hcp
  have HR := Lib.hid h
  obtain ⟨ok, hok⟩ : ∃ ok, ok = hasPrefix rest p := ⟨_, rfl⟩
  rw [← hok] at HP ⊢
  clear hcp h hok
  cases ok with
  | true =>
    go_enter Tryd.func46, Tryd.ntmps46
    go_wp2_with (go_at_call 53; refine HP.out.mono ?_; rintro e w1 ⟨rfl, hw1⟩; obtain rfl := hw1.symm)
    refine bodyPost_end (results_none rfl _ _ _) rfl ⟨rfl, ?_, Kp.set0 _ _ _ _⟩
    rw [Bool.not_true, Bool.or_false]
    exact HR.out.set0 _
  | false =>
    go_enter Tryd.func46, Tryd.ntmps46
    go_wp2_with (go_at_call 53; refine HP.out.mono ?_; rintro e w1 ⟨rfl, hw1⟩; obtain rfl := hw1.symm)
    refine bodyPost_end (results_none rfl _ _ _) rfl ⟨rfl, ?_, (Kp.set0 _ _ _ _).set (by simp) _⟩
    rw [Bool.not_false, Bool.or_true]
    exact (HR.out.set0 _).set1 _

theorem bs_extract (l : List UInt8) (a b : Nat) : (⟨l.toArray⟩ : ByteArray).extract a b = ⟨((l.take b).drop a).toArray⟩ := by
  apply ByteArray.ext
  rw [ByteArray.data_extract]
  simp [List.drop_take]
theorem slice_to (V : World) (l : List UInt8) (k : Nat) (hk : k ≤ l.length) : (Instr.slice 9 (.string ⟨l.toArray⟩) none (some (.int .i64 (k : Int))) none).run Tryd.prog V = .ok (.string ⟨(l.take k).toArray⟩) V := by
  have e1 : (⟨l.toArray⟩ : ByteArray).size = l.length := by simp [ByteArray.size]
  rw [run_slice_string_h (P := Tryd.prog) V 9 ⟨l.toArray⟩ Tryd.underlying9 .i64 (k : Int) (by omega) (by rw [e1]; omega), Int.toNat_natCast, bs_extract, List.drop_zero]
theorem slice_fro (V : World) (l : List UInt8) (k : Nat) (hk : k ≤ l.length) : (Instr.slice 9 (.string ⟨l.toArray⟩) (some (.int .i64 (k : Int))) none none).run Tryd.prog V = .ok (.string ⟨(l.drop k).toArray⟩) V := by
  have e1 : (⟨l.toArray⟩ : ByteArray).size = l.length := by simp [ByteArray.size]
  rw [run_slice_string_l (P := Tryd.prog) V 9 ⟨l.toArray⟩ Tryd.underlying9 .i64 (k : Int) (by omega) (by rw [e1]; omega), Int.toNat_natCast, bs_extract, e1, List.take_length]

namespace Cn
abbrev cs10 : List UInt8 := [48, 49, 50, 51, 52, 53, 54, 55, 56, 57]
def dig (b : UInt8) : Bool := cs10.contains b
/-- the digits at a text's head -/
def digs (r : List UInt8) : List UInt8 := r.takeWhile dig
def cntBad (d : List UInt8) : Bool := match atoiAll d with
  | .ok _ => decide (1 < d.length) && decide (d.head? = some 48)
  | _ => true
def cntVal (d : List UInt8) : Int := match atoiAll d with
  | .ok v => v
  | .range => atoiSat d
  | .syntax => 0
theorem digs_len (r : List UInt8) : (digs r).length + (trimLeftS r cs10).length = r.length := by
  have h : (r.takeWhile dig ++ r.dropWhile dig).length = r.length := by rw [List.takeWhile_append_dropWhile]
  rw [List.length_append] at h
  exact h
theorem digs_take (r : List UInt8) : r.take (digs r).length = digs r := by
  have h : r.takeWhile dig ++ r.dropWhile dig = r := List.takeWhile_append_dropWhile
  unfold digs
  conv => lhs; arg 2; rw [← h]
  exact List.take_left
theorem digs_drop (r : List UInt8) : r.drop (digs r).length = trimLeftS r cs10 := by
  have h : r.takeWhile dig ++ r.dropWhile dig = r := List.takeWhile_append_dropWhile
  unfold digs
  conv => lhs; arg 2; rw [← h]
  exact List.drop_left
end Cn
end Go.Proofs.YtdhgopcfjomjaaaDoor
