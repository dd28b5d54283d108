/- The plain mathematics of GramDeep's texts, by the kernel. -/
import Derived.Test.YtjcdkgjfecnkgaaGreatDoorMgK
namespace Go.Proofs.YtjcdkgjfecnkgaaGreatDoor.Gram
open Go.RowKit

def D0 (m : Nat) : B := [110, 111, 100, 101, 32, 102, 40, 41, 32, 114, 101, 116, 117, 114, 110, 115, 32, 40, 122, 58, 32, 105, 56, 41, 32, 108, 101, 116, 32, 122, 32, 61, 32] ++ (List.replicate m 40 ++ ([97] ++ (List.replicate m 41 ++ [59, 32, 116, 101, 108])))
def D1 (m : Nat) : B := [110, 111, 100, 101, 32, 102, 40, 41, 32, 114, 101, 116, 117, 114, 110, 115, 32, 40, 122, 58, 32, 105, 56, 41, 32, 108, 101, 116, 32] ++ ((List.replicate m [97, 117, 116, 111, 109, 97, 116, 111, 110, 32, 115, 116, 97, 116, 101, 32, 115, 32, 100, 111, 32]).flatten ++ ([122, 32, 61, 32, 97, 59] ++ ((List.replicate m [32, 101, 110, 100]).flatten ++ [32, 116, 101, 108])))
def deepB (r : Res) (m : Nat) : Bool := match r with | .ok _ => decide (m < 40) | .bad _ e => e == 2 && decide (40 ≤ m) | .fuel => false
theorem deepB_ok {r : Res} {m : Nat} (h : deepB r m = true) (hm : m < 40) : ∃ l, r = .ok l := by
  unfold deepB at h
  split at h
  · exact ⟨_, rfl⟩
  · simp at h; omega
  · cases h
theorem deepB_bad {r : Res} {m : Nat} (h : deepB r m = true) (hm : 40 ≤ m) : ∃ a, r = .bad a 2 := by
  unfold deepB at h
  split at h
  · simp at h; omega
  · simp at h; exact ⟨_, by rw [h.1]⟩
  · cases h
theorem deep0_all : ((List.range 50).all fun m => deepB (parse (D0 m)) m) = true := by kernel_rfl
theorem deep1_all1 : ((List.range 30).all fun m => deepB (parse (D1 m)) m) = true := by kernel_rfl
theorem deep1_all2 : ((List.range 10).all fun m => deepB (parse (D1 (30 + m))) (30 + m)) = true := by kernel_rfl
theorem deep1_all3 : ((List.range 10).all fun m => deepB (parse (D1 (40 + m))) (40 + m)) = true := by kernel_rfl
theorem deep0 (m : Nat) (h : m < 50) : deepB (parse (D0 m)) m = true := List.all_eq_true.1 deep0_all m (List.mem_range.2 h)
theorem deep1 (m : Nat) (h : m < 50) : deepB (parse (D1 m)) m = true := by
  by_cases h1 : m < 30
  · exact List.all_eq_true.1 deep1_all1 m (List.mem_range.2 h1)
  · by_cases h2 : m < 40
    · have := List.all_eq_true.1 deep1_all2 (m - 30) (List.mem_range.2 (by omega))
      rw [show 30 + (m - 30) = m by omega] at this
      exact this
    · have := List.all_eq_true.1 deep1_all3 (m - 40) (List.mem_range.2 (by omega))
      rw [show 40 + (m - 40) = m by omega] at this
      exact this
end Go.Proofs.YtjcdkgjfecnkgaaGreatDoor.Gram
