/- Plain, by the kernel. (Written by mktl.py.) -/
import Derived.Test.YtbbamgjdnibldaaGreatMhN
namespace Go.Proofs.YtbbamgjdnibldaaGreat.Fam
open Go.RowKit
theorem ar0 : okAr 0 = true := by kernel_rfl
theorem ar1 : okAr 1 = true := by kernel_rfl
theorem ar2 : okAr 2 = true := by kernel_rfl
theorem ar3 : okAr 3 = true := by kernel_rfl
theorem ar4 : okAr 4 = true := by kernel_rfl
theorem ar5 : okAr 5 = true := by kernel_rfl
theorem ar6 : okAr 6 = true := by kernel_rfl
theorem ar7 : okAr 7 = true := by kernel_rfl
theorem ar8 : okAr 8 = true := by kernel_rfl
theorem ar9 : okAr 9 = true := by kernel_rfl
theorem ar10 : okAr 10 = true := by kernel_rfl
theorem ar11 : okAr 11 = true := by kernel_rfl
theorem ar12 : okAr 12 = true := by kernel_rfl
theorem ar13 : okAr 13 = true := by kernel_rfl
theorem ar14 : okAr 14 = true := by kernel_rfl
theorem ar15 : okAr 15 = true := by kernel_rfl
theorem ar16 : okAr 16 = true := by kernel_rfl
theorem ar17 : okAr 17 = true := by kernel_rfl
theorem ar18 : okAr 18 = true := by kernel_rfl
theorem ar19 : okAr 19 = true := by kernel_rfl
theorem in0 : okIn 0 = true := by kernel_rfl
theorem in1 : okIn 1 = true := by kernel_rfl
theorem in2 : okIn 2 = true := by kernel_rfl
theorem in3 : okIn 3 = true := by kernel_rfl
theorem in4 : okIn 4 = true := by kernel_rfl
theorem in5 : okIn 5 = true := by kernel_rfl
theorem in6 : okIn 6 = true := by kernel_rfl
theorem in7 : okIn 7 = true := by kernel_rfl
theorem in8 : okIn 8 = true := by kernel_rfl
theorem in9 : okIn 9 = true := by kernel_rfl
theorem in10 : okIn 10 = true := by kernel_rfl
theorem in11 : okIn 11 = true := by kernel_rfl
theorem in12 : okIn 12 = true := by kernel_rfl
theorem in13 : okIn 13 = true := by kernel_rfl
theorem in14 : okIn 14 = true := by kernel_rfl
theorem in15 : okIn 15 = true := by kernel_rfl
theorem in16 : okIn 16 = true := by kernel_rfl
theorem in17 : okIn 17 = true := by kernel_rfl
theorem in18 : okIn 18 = true := by kernel_rfl
theorem in19 : okIn 19 = true := by kernel_rfl
end Go.Proofs.YtbbamgjdnibldaaGreat.Fam
