/- Stage 19: CodeNumbers, run. -/
import Derived.Test.YtcjainfcndlllaaCgM
import Derived.Test.YtcjainfcndlllaaCgD
namespace Go.Proofs.Ytcjainfcndlllaa
theorem codeNumbers_run (n : Int) (h : (Lit.int .i64 n).wf = true) (w : World) : Calls Try.prog 7 #[.int .i64 n] w fun e w' => e = .returned (.bool true) ∧ w.grownBy w' none := codeNumbers_walk2 ccheck_any cwrite_any cread_any n (wfI h) w
end Go.Proofs.Ytcjainfcndlllaa
