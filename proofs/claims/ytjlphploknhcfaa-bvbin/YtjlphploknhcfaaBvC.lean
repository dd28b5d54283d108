/- The walks of the document's own truth and Cast: they answer as the plain definitions say, whatever the arguments. -/
import Derived.Test.YtjlphploknhcfaaChecked
import Derived.Test.YtjlphploknhcfaaBvR
import Derived.Test.YtjlphploknhcfaaBvK
namespace Go.Proofs.Ytjlphploknhcfaa
open Go.RowKit

set_option maxHeartbeats 400000 in
theorem truth_any (b : Bool) (w : World) :
    Calls Try.prog 34 #[.bool b] w fun e w' => e = .returned (.int .i64 (Bv.one b)) ∧ w' = w := by
  cases b
  all_goals
    go_enter Try.func34, Try.ntmps34
    go_wp2
    go_ret
    exact ⟨rfl, rfl⟩

set_option maxHeartbeats 400000 in
theorem rcast_any (frm to a : Int) (w : World) :
    Calls Try.prog 22 #[.int .i64 frm, .int .i64 to, .int .i64 a] w fun e w' => e = .returned (.tuple #[.int .i64 (Bv.casN frm to a), .bool (Bv.casB frm to a)]) ∧ w' = w := by
  rcases Bool.eq_false_or_eq_true (Bv.isv frm a) with hi | hi
  · by_cases hz : Bv.wid to = 0
    · have e : Bv.casB frm to a = false := by simp [Bv.casB, hz]
      have e' : Bv.casN frm to a = 0 := by simp [Bv.casN, e]
      rw [e, e']
      have hz' : (Bv.wid to == 0) = true := by simp [hz]
      clear e e' hz
      go_enter Try.func22, Try.ntmps22
      go_wp2_with (first | (go_at_call 13; refine (ris_any _ _ _).mono ?_; rintro e w' ⟨rfl, rfl⟩) | (go_at_call 15; refine (rwidth_any _ _).mono ?_; rintro e w' ⟨rfl, rfl⟩))
      go_ret2
      exact ⟨rfl, rfl⟩
    · have hp : 0 < Bv.wid to := by unfold Bv.wid at hz ⊢; repeat' split; all_goals simp_all
      have e : Bv.casB frm to a = true := by simp [Bv.casB, hp, Bv.allv, hi]
      have hz' : (Bv.wid to == 0) = false := by simp [hz]
      by_cases ht : to = 1
      · have e' : Bv.casN frm to a = Bv.one (a != 0) := by
          subst ht
          have : Bv.casN frm 1 a = Bv.wrp 1 (Bv.one (a != 0)) := by simp [Bv.casN, e]
          rw [this, Bv.wrp1]
          cases (a != 0) <;> rfl
        rw [e, e']
        have ht' : (to == 1) = true := by simp [ht]
        clear e e' hz hp ht
        go_enter Try.func22, Try.ntmps22
        go_wp2_with (first | (go_at_call 13; refine (ris_any _ _ _).mono ?_; rintro e w' ⟨rfl, rfl⟩) | (go_at_call 15; refine (rwidth_any _ _).mono ?_; rintro e w' ⟨rfl, rfl⟩) | (go_at_call 34; refine (truth_any _ _).mono ?_; rintro e w' ⟨rfl, rfl⟩))
        go_ret2
        exact ⟨rfl, rfl⟩
      · have e' : Bv.casN frm to a = Bv.wrp to a := by simp [Bv.casN, e, ht]
        rw [e, e']
        have ht' : (to == 1) = false := by simp [ht]
        clear e e' hz hp ht
        go_enter Try.func22, Try.ntmps22
        go_wp2_with (first | (go_at_call 13; refine (ris_any _ _ _).mono ?_; rintro e w' ⟨rfl, rfl⟩) | (go_at_call 15; refine (rwidth_any _ _).mono ?_; rintro e w' ⟨rfl, rfl⟩) | (go_at_call 11; refine (rwrap_any _ _ _).mono ?_; rintro e w' ⟨rfl, rfl⟩))
        go_ret2
        exact ⟨rfl, rfl⟩
  · have e : Bv.casB frm to a = false := by simp [Bv.casB, Bv.allv, hi]
    have e' : Bv.casN frm to a = 0 := by simp [Bv.casN, e]
    rw [e, e']
    clear e e'
    go_enter Try.func22, Try.ntmps22
    go_wp2_with (first | (go_at_call 13; refine (ris_any _ _ _).mono ?_; rintro e w' ⟨rfl, rfl⟩) | (go_at_call 15; refine (rwidth_any _ _).mono ?_; rintro e w' ⟨rfl, rfl⟩))
    go_ret2
    exact ⟨rfl, rfl⟩
end Go.Proofs.Ytjlphploknhcfaa
