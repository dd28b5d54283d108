/- Plain, by the kernel. (Written by mktl.py.) -/
import Derived.Test.YtbbamgjdnibldaaGreatMhN
namespace Go.Proofs.YtbbamgjdnibldaaGreat.Fam
open Go.RowKit
theorem ma1 : okMa 1 = true := by kernel_rfl
theorem ma3 : okMa 3 = true := by kernel_rfl
theorem ma5 : okMa 5 = true := by kernel_rfl
theorem ma7 : okMa 7 = true := by kernel_rfl
theorem ma9 : okMa 9 = true := by kernel_rfl
theorem ma11 : okMa 11 = true := by kernel_rfl
theorem ma13 : okMa 13 = true := by kernel_rfl
theorem ma15 : okMa 15 = true := by kernel_rfl
theorem ma17 : okMa 17 = true := by kernel_rfl
theorem ma19 : okMa 19 = true := by kernel_rfl
end Go.Proofs.YtbbamgjdnibldaaGreat.Fam
