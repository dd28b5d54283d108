/- Plain, by the kernel. (Written by mktl.py.) -/
import Derived.Test.YtbbamgjdnibldaaGreatMhN
namespace Go.Proofs.YtbbamgjdnibldaaGreat.Fam
open Go.RowKit
theorem op3 : okOps 3 = true := by kernel_rfl
theorem op7 : okOps 7 = true := by kernel_rfl
theorem op11 : okOps 11 = true := by kernel_rfl
theorem op15 : okOps 15 = true := by kernel_rfl
end Go.Proofs.YtbbamgjdnibldaaGreat.Fam
