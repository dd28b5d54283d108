/- Stage 19: numbers that came in. -/
import Derived.Test.YtcjainfcndlllaaCgC
namespace Go.Proofs.Ytcjainfcndlllaa
open Go.RowKit Go.Maps Go.WideMaps

theorem wfI {n : Int} (h : (Lit.int .i64 n).wf = true) : Cd.I64 n := by
  simp [Lit.wf, IntKind.min, IntKind.max, IntKind.bits, IntKind.signed] at h
  unfold Cd.I64
  omega
end Go.Proofs.Ytcjainfcndlllaa
