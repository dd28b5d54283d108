/- Plain, by the kernel. (Written by mktl.py.) -/
import Derived.Test.YtbbamgjdnibldaaGreatMhN
namespace Go.Proofs.YtbbamgjdnibldaaGreat.Fam
open Go.RowKit
theorem ca02 : okCa 0 2 = true := by kernel_rfl
theorem ca06 : okCa 0 6 = true := by kernel_rfl
theorem ca11 : okCa 1 1 = true := by kernel_rfl
theorem ca15 : okCa 1 5 = true := by kernel_rfl
theorem ca20 : okCa 2 0 = true := by kernel_rfl
theorem ca24 : okCa 2 4 = true := by kernel_rfl
theorem ca28 : okCa 2 8 = true := by kernel_rfl
theorem ca33 : okCa 3 3 = true := by kernel_rfl
theorem ca37 : okCa 3 7 = true := by kernel_rfl
theorem ca42 : okCa 4 2 = true := by kernel_rfl
theorem ca46 : okCa 4 6 = true := by kernel_rfl
theorem ca51 : okCa 5 1 = true := by kernel_rfl
theorem ca55 : okCa 5 5 = true := by kernel_rfl
theorem ca60 : okCa 6 0 = true := by kernel_rfl
theorem ca64 : okCa 6 4 = true := by kernel_rfl
theorem ca68 : okCa 6 8 = true := by kernel_rfl
theorem ca73 : okCa 7 3 = true := by kernel_rfl
theorem ca77 : okCa 7 7 = true := by kernel_rfl
theorem ca82 : okCa 8 2 = true := by kernel_rfl
theorem ca86 : okCa 8 6 = true := by kernel_rfl
end Go.Proofs.YtbbamgjdnibldaaGreat.Fam
