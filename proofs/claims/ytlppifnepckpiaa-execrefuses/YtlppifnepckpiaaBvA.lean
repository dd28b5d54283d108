/- The walks of bv's plain functions Width, Wrap, Is, takes, bit: what each call answers, whatever the arguments; the world stays as it was. -/
import Derived.Test.YtlppifnepckpiaaChecked
import Derived.Test.YtlppifnepckpiaaBvM
import Derived.WalkKit
import Derived.WalkSpells
import Derived.WalkLawsBesides
namespace Go.Proofs.Ytlppifnepckpiaa
open Go.RowKit

theorem ret_int {k : IntKind} {a b : Int} (h : a = b) : Ending.returned (.int k a) = .returned (.int k b) := by rw [h]
theorem ret_bool {a b : Bool} (h : a = b) : Ending.returned (.bool a) = .returned (.bool b) := by rw [h]

set_option maxHeartbeats 400000 in
theorem width_any (k : Int) (w : World) :
    Calls Try.prog 26 #[.int .i64 k] w fun e w' => e = .returned (.int .i64 (Bv.wid k)) ∧ w' = w := by
  go_enter Try.func26, Try.ntmps26
  go_wp2
  all_goals go_ret
  all_goals refine ⟨ret_int ?_, rfl⟩
  all_goals (unfold Bv.wid; simp_all)

set_option maxHeartbeats 400000 in
theorem wrap_any (k n : Int) (w : World) :
    Calls Try.prog 27 #[.int .i64 k, .int .i64 n] w fun e w' => e = .returned (.int .i64 (Bv.wrp k n)) ∧ w' = w := by
  have c1 := Bv.and1 n
  have c2 := Bv.wrap8 n
  have c3 := Bv.wrap16 n
  have c4 := Bv.wrap3264 n
  have c7 := Bv.wrapu16 n
  have C : Hid (bits .and .i64 n 1 = n % 2 ∧ wrap64 (IntKind.i8.wrap n) = (n + 128) % 256 - 128 ∧ wrap64 (IntKind.i16.wrap n) = (n + 32768) % 65536 - 32768 ∧ wrap64 (wrap32 n) = (n + 2147483648) % 4294967296 - 2147483648 ∧ wrap64 (IntKind.u16.wrap n) = n % 65536) := ⟨c1, c2, c3, c4, c7⟩
  clear c1 c2 c3 c4 c7
  go_enter Try.func27, Try.ntmps27
  go_wp2
  all_goals go_ret
  all_goals refine ⟨ret_int ?_, rfl⟩
  all_goals (obtain ⟨c1, c2, c3, c4, c7⟩ := C.out; unfold Bv.wrp; simp_all)

set_option maxHeartbeats 400000 in
theorem is_any (k n : Int) (w : World) :
    Calls Try.prog 18 #[.int .i64 k, .int .i64 n] w fun e w' => e = .returned (.bool (Bv.isv k n)) ∧ w' = w := by
  by_cases hk : 0 < Bv.wid k
  · go_enter Try.func18, Try.ntmps18
    go_wp2_with (first | (go_at_call 26; refine (width_any _ _).mono ?_; rintro e w' ⟨rfl, rfl⟩) | (go_at_call 27; refine (wrap_any _ _ _).mono ?_; rintro e w' ⟨rfl, rfl⟩))
    all_goals go_ret
    all_goals exact ⟨ret_bool (by simp [Bv.isv, hk]), rfl⟩
  · go_enter Try.func18, Try.ntmps18
    go_wp2_with (first | (go_at_call 26; refine (width_any _ _).mono ?_; rintro e w' ⟨rfl, rfl⟩) | (go_at_call 27; refine (wrap_any _ _ _).mono ?_; rintro e w' ⟨rfl, rfl⟩))
    all_goals go_ret
    all_goals exact ⟨ret_bool (by have h : ¬ 0 < Bv.wid k := by omega
                                  simp [Bv.isv, h]), rfl⟩

set_option maxHeartbeats 400000 in
theorem takes_any (o k : Int) (w : World) :
    Calls Try.prog 59 #[.int .i64 o, .int .i64 k] w fun e w' => e = .returned (.bool (Bv.tks o k)) ∧ w' = w := by
  rcases Bool.eq_false_or_eq_true (k != 1) with hk | hk
  all_goals
    go_enter Try.func59, Try.ntmps59
    go_wp2_with (first | (go_at_call 26; refine (width_any _ _).mono ?_; rintro e w' ⟨rfl, rfl⟩))
    all_goals go_ret
    all_goals refine ⟨ret_bool ?_, rfl⟩
    all_goals (simp_all [Bv.tks])
end Go.Proofs.Ytlppifnepckpiaa
