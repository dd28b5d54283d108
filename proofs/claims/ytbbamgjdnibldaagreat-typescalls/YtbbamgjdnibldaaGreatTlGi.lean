/- Plain, by the kernel. (Written by mktl.py.) -/
import Derived.Test.YtbbamgjdnibldaaGreatMhN
namespace Go.Proofs.YtbbamgjdnibldaaGreat.Fam
open Go.RowKit
theorem ca01 : okCa 0 1 = true := by kernel_rfl
theorem ca05 : okCa 0 5 = true := by kernel_rfl
theorem ca10 : okCa 1 0 = true := by kernel_rfl
theorem ca14 : okCa 1 4 = true := by kernel_rfl
theorem ca18 : okCa 1 8 = true := by kernel_rfl
theorem ca23 : okCa 2 3 = true := by kernel_rfl
theorem ca27 : okCa 2 7 = true := by kernel_rfl
theorem ca32 : okCa 3 2 = true := by kernel_rfl
theorem ca36 : okCa 3 6 = true := by kernel_rfl
theorem ca41 : okCa 4 1 = true := by kernel_rfl
theorem ca45 : okCa 4 5 = true := by kernel_rfl
theorem ca50 : okCa 5 0 = true := by kernel_rfl
theorem ca54 : okCa 5 4 = true := by kernel_rfl
theorem ca58 : okCa 5 8 = true := by kernel_rfl
theorem ca63 : okCa 6 3 = true := by kernel_rfl
theorem ca67 : okCa 6 7 = true := by kernel_rfl
theorem ca72 : okCa 7 2 = true := by kernel_rfl
theorem ca76 : okCa 7 6 = true := by kernel_rfl
theorem ca81 : okCa 8 1 = true := by kernel_rfl
theorem ca85 : okCa 8 5 = true := by kernel_rfl
end Go.Proofs.YtbbamgjdnibldaaGreat.Fam
