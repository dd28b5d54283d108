/- Plain, by the kernel. (Written by mktl.py.) -/
import Derived.Test.YtbbamgjdnibldaaGreatMhN
namespace Go.Proofs.YtbbamgjdnibldaaGreat.Fam
open Go.RowKit
theorem ma0 : okMa 0 = true := by kernel_rfl
theorem ma2 : okMa 2 = true := by kernel_rfl
theorem ma4 : okMa 4 = true := by kernel_rfl
theorem ma6 : okMa 6 = true := by kernel_rfl
theorem ma8 : okMa 8 = true := by kernel_rfl
theorem ma10 : okMa 10 = true := by kernel_rfl
theorem ma12 : okMa 12 = true := by kernel_rfl
theorem ma14 : okMa 14 = true := by kernel_rfl
theorem ma16 : okMa 16 = true := by kernel_rfl
theorem ma18 : okMa 18 = true := by kernel_rfl
end Go.Proofs.YtbbamgjdnibldaaGreat.Fam
