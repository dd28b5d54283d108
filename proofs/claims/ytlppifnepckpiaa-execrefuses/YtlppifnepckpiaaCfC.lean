/- Package code: two stacks are compared. -/
import Derived.Test.YtlppifnepckpiaaCfB
namespace Go.Proofs.Ytlppifnepckpiaa
open Go.RowKit Go.Maps Go.WideMaps
open Cd (Kn)

theorem eq_items {P : Program} (w : World) (d : Nat) {e : TypeId} (he : P.underlying e = some (.int .u8)) (hp : P.plainKey e = true) (xs ys : Array Value) : ∀ is : List Nat, (∀ i ∈ is, ∃ a b, xs[i]? = some (.int .u8 a) ∧ ys[i]? = some (.int .u8 b)) →
    ∃ r : Bool, (Op.eqItems (d + 1) e 1 xs ys is).run P w = .ok r w ∧ (r = true ↔ ∀ i ∈ is, xs[i]? = ys[i]?)
  | [], _ => ⟨true, by simp [Op.eqItems], by simp⟩
  | i :: is, h => by
    obtain ⟨a, b, ha, hb⟩ := h i (by simp)
    obtain ⟨r, hr, hi⟩ := eq_items w d he hp xs ys is (fun j hj => h j (by simp [hj]))
    have h1 := run_part_plain (P := P) w hp ha
    have h2 := run_part_plain (P := P) w hp hb
    have h3 := run_equalIn_int (P := P) w d e .u8 .u8 a b he
    simp only [Op.eqItems, Sem.run_bind, Nat.mul_one, h1, h2, h3, Result.andThen_ok]
    by_cases hab : a = b
    · refine ⟨r, by simpa [hab] using hr, ?_⟩
      rw [hi]
      simp [ha, hb, hab]
    · refine ⟨false, by simp [hab], ?_⟩
      simp [ha, hb, hab]
def kindsC (s : Option (List Int)) : List Value := (List.range 64).map fun j => .int .u8 ((s.getD []).reverse.getD j 0)
theorem row_is (s : Option (List Int)) : rowC s = .bool s.isSome :: .int .u8 ((s.getD []).length : Int) :: kindsC s := rfl
theorem part_kinds (s : Option (List Int)) (w : World) : (part 59 (rowC s).toArray 2).run Try.prog w = .ok (.agg (kindsC s).toArray) w := by
  have h1 : (isAgg 59).run Try.prog w = .ok true w := by kernel_rfl
  have h2 : (sizeOf 59).run Try.prog w = .ok 64 w := by kernel_rfl
  have h3 : (rowC s).toArray.extract 2 66 = (kindsC s).toArray := by
    rw [List.extract_toArray, row_is, List.extract_eq_take_drop]
    congr 1
  simp only [part, Sem.run_bind, h1, h2, Result.andThen_ok, if_true, Sem.run_pure, h3]
theorem row_eq (s t : Option (List Int)) (w : World) : ∃ r : Bool, (binOp .eql 61 (.agg (rowC s).toArray) (.agg (rowC t).toArray)).run Try.prog w = .ok (.bool r) w ∧ (r = true ↔ rowC s = rowC t) := by
  rw [run_eql_struct]
  have h0 := run_equalIn_struct (P := Try.prog) w 9999 61 (rowC s).toArray (rowC t).toArray (by kernel_rfl) (by kernel_rfl)
  obtain ⟨r, hr, hi⟩ := eq_items (P := Try.prog) w 9997 (e := 5) (by kernel_rfl) (by kernel_rfl) (kindsC s).toArray (kindsC t).toArray (List.range 64) (fun i hi => by
    have hi' : i < 64 := by simpa using hi
    exact ⟨_, _, by simp [kindsC, hi']; rfl, by simp [kindsC, hi']; rfl⟩)
  obtain ⟨ti, hti⟩ := info_of_underlying (P := Try.prog) (t := 5) Try.underlying5
  have ha := run_equalIn_array (P := Try.prog) w 9998 (t := 59) (e := 5) (n := 64) (kindsC s).toArray (kindsC t).toArray (by kernel_rfl) hti
  rw [show Try.prog.cellsOf 5 = 1 by kernel_rfl] at ha
  have hf : (Try.prog.fieldsOf 61).toList = [⟨"reached", 4, 0, false, "", "metronome/code", 0⟩, ⟨"high", 5, 1, false, "", "metronome/code", 1⟩, ⟨"kinds", 59, 2, false, "", "metronome/code", 2⟩] := by kernel_rfl
  have p0 : ∀ s, (part 4 (rowC s).toArray 0).run Try.prog w = .ok (.bool s.isSome) w := fun s => run_part_plain w (by kernel_rfl) (by simp [row_is])
  have p1 : ∀ s, (part 5 (rowC s).toArray 1).run Try.prog w = .ok (.int .u8 ((s.getD []).length : Int)) w := fun s => run_part_plain w (by kernel_rfl) (by simp [row_is])
  have q0 := run_equalIn_bool' (P := Try.prog) w 9998 4 s.isSome t.isSome (by kernel_rfl)
  have q1 := run_equalIn_int (P := Try.prog) w 9998 5 .u8 .u8 ((s.getD []).length : Int) ((t.getD []).length : Int) (by kernel_rfl)
  have n0 : ("reached" : String) ≠ "_" := by decide
  have n1 : ("high" : String) ≠ "_" := by decide
  have n2 : ("kinds" : String) ≠ "_" := by decide
  have hk : r = true ↔ kindsC s = kindsC t := by
    rw [hi]
    constructor
    · intro h
      apply List.ext_getElem?
      intro j
      by_cases hj : j < 64
      · simpa using h j (by simpa using hj)
      · rw [List.getElem?_eq_none (by simp [kindsC]; omega), List.getElem?_eq_none (by simp [kindsC]; omega)]
    · intro h j _
      rw [h]
  refine ⟨(s.isSome == t.isSome) && ((((s.getD []).length : Int) == ((t.getD []).length : Int)) && r), ?_, ?_⟩
  · rw [h0, hf]
    simp only [Op.eqFields, n0, n1, n2, ne_eq, not_false_eq_true, if_true, Sem.run_bind, p0, p1, part_kinds, q0, q1, ha, hr, Result.andThen_ok, Sem.run_ite, Sem.run_pure]
    generalize (s.isSome == t.isSome) = x0
    generalize (((s.getD []).length : Int) == ((t.getD []).length : Int)) = x1
    clear ha hr h0 hi hk
    cases x0 <;> cases x1 <;> cases r <;> simp only [Bool.not_true, Bool.not_false, Bool.false_eq_true, if_true, if_false, Result.andThen_ok, Bool.and_true, Bool.and_false]
  · rw [row_is, row_is]
    simp only [Bool.and_eq_true, beq_iff_eq, hk, List.cons.injEq, Value.bool.injEq, Value.int.injEq, true_and]
end Go.Proofs.Ytlppifnepckpiaa
