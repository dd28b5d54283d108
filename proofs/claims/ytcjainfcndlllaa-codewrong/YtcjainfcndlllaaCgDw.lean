/- Stage 19: CodeWrong of the code as it is. -/
import Derived.Test.YtcjainfcndlllaaCgC
import Derived.Test.YtcjainfcndlllaaCeM
namespace Go.Proofs.Ytcjainfcndlllaa
theorem codeWrong_run (n : Int) (w : World) : Calls Try.prog 5 #[.int .i64 n] w fun e w' => e = .returned (.bool true) ∧ w.grownBy w' none := codeWrong_walk ccheck_any cwrite_any n w
end Go.Proofs.Ytcjainfcndlllaa
