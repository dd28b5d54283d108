/- Plain, by the kernel. (Written by mktl.py.) -/
import Derived.Test.YtbbamgjdnibldaaGreatMhN
namespace Go.Proofs.YtbbamgjdnibldaaGreat.Fam
open Go.RowKit
theorem op2 : okOps 2 = true := by kernel_rfl
theorem op6 : okOps 6 = true := by kernel_rfl
theorem op10 : okOps 10 = true := by kernel_rfl
theorem op14 : okOps 14 = true := by kernel_rfl
end Go.Proofs.YtbbamgjdnibldaaGreat.Fam
