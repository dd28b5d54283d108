/- Stage 19: CodeStacks of the code as it is. -/
import Derived.Test.YtcjainfcndlllaaCgC
import Derived.Test.YtcjainfcndlllaaCeE
namespace Go.Proofs.Ytcjainfcndlllaa
theorem codeStacks_run (n s : Int) (w : World) : Calls Try.prog 6 #[.int .i64 n, .int .i64 s] w fun e w' => e = .returned (.bool true) ∧ w.grownBy w' none := codeStacks_walk ccheck_any cwrite_any n s w
end Go.Proofs.Ytcjainfcndlllaa
