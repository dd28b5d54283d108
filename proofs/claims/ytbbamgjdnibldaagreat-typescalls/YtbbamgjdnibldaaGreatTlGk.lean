/- Plain, by the kernel. (Written by mktl.py.) -/
import Derived.Test.YtbbamgjdnibldaaGreatMhN
namespace Go.Proofs.YtbbamgjdnibldaaGreat.Fam
open Go.RowKit
theorem ca03 : okCa 0 3 = true := by kernel_rfl
theorem ca07 : okCa 0 7 = true := by kernel_rfl
theorem ca12 : okCa 1 2 = true := by kernel_rfl
theorem ca16 : okCa 1 6 = true := by kernel_rfl
theorem ca21 : okCa 2 1 = true := by kernel_rfl
theorem ca25 : okCa 2 5 = true := by kernel_rfl
theorem ca30 : okCa 3 0 = true := by kernel_rfl
theorem ca34 : okCa 3 4 = true := by kernel_rfl
theorem ca38 : okCa 3 8 = true := by kernel_rfl
theorem ca43 : okCa 4 3 = true := by kernel_rfl
theorem ca47 : okCa 4 7 = true := by kernel_rfl
theorem ca52 : okCa 5 2 = true := by kernel_rfl
theorem ca56 : okCa 5 6 = true := by kernel_rfl
theorem ca61 : okCa 6 1 = true := by kernel_rfl
theorem ca65 : okCa 6 5 = true := by kernel_rfl
theorem ca70 : okCa 7 0 = true := by kernel_rfl
theorem ca74 : okCa 7 4 = true := by kernel_rfl
theorem ca78 : okCa 7 8 = true := by kernel_rfl
theorem ca83 : okCa 8 3 = true := by kernel_rfl
theorem ca87 : okCa 8 7 = true := by kernel_rfl
end Go.Proofs.YtbbamgjdnibldaaGreat.Fam
