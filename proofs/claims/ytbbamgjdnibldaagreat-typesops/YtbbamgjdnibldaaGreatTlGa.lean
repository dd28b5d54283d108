/- Plain, by the kernel. (Written by mktl.py.) -/
import Derived.Test.YtbbamgjdnibldaaGreatMhN
namespace Go.Proofs.YtbbamgjdnibldaaGreat.Fam
open Go.RowKit
theorem op0 : okOps 0 = true := by kernel_rfl
theorem op4 : okOps 4 = true := by kernel_rfl
theorem op8 : okOps 8 = true := by kernel_rfl
theorem op12 : okOps 12 = true := by kernel_rfl
theorem op16 : okOps 16 = true := by kernel_rfl
end Go.Proofs.YtbbamgjdnibldaaGreat.Fam
