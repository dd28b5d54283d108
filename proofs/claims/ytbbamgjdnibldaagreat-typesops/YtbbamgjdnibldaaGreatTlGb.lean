/- Plain, by the kernel. (Written by mktl.py.) -/
import Derived.Test.YtbbamgjdnibldaaGreatMhN
namespace Go.Proofs.YtbbamgjdnibldaaGreat.Fam
open Go.RowKit
theorem op1 : okOps 1 = true := by kernel_rfl
theorem op5 : okOps 5 = true := by kernel_rfl
theorem op9 : okOps 9 = true := by kernel_rfl
theorem op13 : okOps 13 = true := by kernel_rfl
end Go.Proofs.YtbbamgjdnibldaaGreat.Fam
