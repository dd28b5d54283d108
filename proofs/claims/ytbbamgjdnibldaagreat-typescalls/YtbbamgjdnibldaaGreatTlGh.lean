/- Plain, by the kernel. (Written by mktl.py.) -/
import Derived.Test.YtbbamgjdnibldaaGreatMhN
namespace Go.Proofs.YtbbamgjdnibldaaGreat.Fam
open Go.RowKit
theorem ca00 : okCa 0 0 = true := by kernel_rfl
theorem ca04 : okCa 0 4 = true := by kernel_rfl
theorem ca08 : okCa 0 8 = true := by kernel_rfl
theorem ca13 : okCa 1 3 = true := by kernel_rfl
theorem ca17 : okCa 1 7 = true := by kernel_rfl
theorem ca22 : okCa 2 2 = true := by kernel_rfl
theorem ca26 : okCa 2 6 = true := by kernel_rfl
theorem ca31 : okCa 3 1 = true := by kernel_rfl
theorem ca35 : okCa 3 5 = true := by kernel_rfl
theorem ca40 : okCa 4 0 = true := by kernel_rfl
theorem ca44 : okCa 4 4 = true := by kernel_rfl
theorem ca48 : okCa 4 8 = true := by kernel_rfl
theorem ca53 : okCa 5 3 = true := by kernel_rfl
theorem ca57 : okCa 5 7 = true := by kernel_rfl
theorem ca62 : okCa 6 2 = true := by kernel_rfl
theorem ca66 : okCa 6 6 = true := by kernel_rfl
theorem ca71 : okCa 7 1 = true := by kernel_rfl
theorem ca75 : okCa 7 5 = true := by kernel_rfl
theorem ca80 : okCa 8 0 = true := by kernel_rfl
theorem ca84 : okCa 8 4 = true := by kernel_rfl
theorem ca88 : okCa 8 8 = true := by kernel_rfl
end Go.Proofs.YtbbamgjdnibldaaGreat.Fam
