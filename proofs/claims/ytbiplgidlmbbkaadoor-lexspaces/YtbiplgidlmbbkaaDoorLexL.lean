/- What the rows' list of variables gives: strconv.ErrRange holds an error. And the rows' witness: the settled world with the five variables laid. -/
import Derived.Test.YtbiplgidlmbbkaaDoorRows
import Derived.Test.YtbiplgidlmbbkaaDoorLexJ
import Derived.Stop.LaidErr
import Derived.Stop.Joined
import Derived.LaidMore
import Derived.Lay
import Derived.ProofKit
namespace Go.Proofs.YtbiplgidlmbbkaaDoor
open Go.RowKit

abbrev laid5 : List (String × DataW Unit) := Rows.lexSignsRow.laid

theorem gER : Tryd.prog.globalNamed "strconv.ErrRange" = some 1 := by kernel_rfl
theorem gERType : (Tryd.prog.globals[1]?).map (·.type) = some 72 := by kernel_rfl
theorem star : "*" ++ "errors.errorString" = "*errors.errorString" := by decide
theorem rowES (u : TypeId) (h : Tryd.prog.typeName? 3 u = some "*errors.errorString") : u = 94 :=
  typeName_ptr_named (P := Tryd.prog) (nm := "errors.errorString") (by rw [star]; kernel_rfl) (by kernel_rfl) (by decide) u (by rw [star]; exact h)
theorem cellsES : Tryd.prog.cellsOf 96 = 1 := by kernel_rfl
theorem cellsStr : Tryd.prog.cellsOf 9 = 1 := by kernel_rfl

theorem laidR_of {W : World} (h : laidMetH Tryd.prog laid5 W) : LaidR W := by
  rw [MakeChecks.laidMetH_plain _ _ _ (by kernel_rfl)] at h
  obtain ⟨a, s, hv, -, -, -⟩ := laid_sentinel h.tail.tail.tail gER gERType Tryd.underlying72 rowES Tryd.underlying94 Tryd.underlying96 rfl rfl Tryd.underlying9 cellsES cellsStr
  have h0 := World.var?_cell gER hv 0
  exact ⟨_, _, by simpa using h0⟩

end Go.Proofs.YtbiplgidlmbbkaaDoor
