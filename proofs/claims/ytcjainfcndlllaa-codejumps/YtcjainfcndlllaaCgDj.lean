/- Stage 19: CodeJumps of the code as it is. -/
import Derived.Test.YtcjainfcndlllaaCgD
import Derived.Test.YtcjainfcndlllaaCeN
namespace Go.Proofs.Ytcjainfcndlllaa
theorem codeJumps_run (n a b : Int) (wh : Bool) (_ : (Lit.int .i64 n).wf = true) (_ : (Lit.int .i64 a).wf = true) (hb : (Lit.int .i64 b).wf = true) (w : World) : Calls Try.prog 4 #[.int .i64 n, .int .i64 a, .int .i64 b, .bool wh] w fun e w' => e = .returned (.bool true) ∧ w.grownBy w' none := codeJumps_walk ccheck_any cwrite_any n a b wh (wfI hb) w
end Go.Proofs.Ytcjainfcndlllaa
