/- The walks of bv's plain functions Width, Wrap, Is, takes, bit: what each call answers, whatever the arguments; the world stays as it was. -/
import Derived.Test.YtbiplgidlmbbkaaDoorChecked
import Derived.Test.YtbiplgidlmbbkaaDoorBvM
import Derived.WalkKit
import Derived.WalkSpells
import Derived.WalkLawsBesides
namespace Go.Proofs.YtbiplgidlmbbkaaDoor
open Go.RowKit

theorem ret_int {k : IntKind} {a b : Int} (h : a = b) : Ending.returned (.int k a) = .returned (.int k b) := by rw [h]
theorem ret_bool {a b : Bool} (h : a = b) : Ending.returned (.bool a) = .returned (.bool b) := by rw [h]

set_option maxHeartbeats 400000 in
theorem width_any (k : Int) (w : World) :
    Calls Tryd.prog 56 #[.int .i64 k] w fun e w' => e = .returned (.int .i64 (Bv.wid k)) ∧ w' = w := by
  go_enter Tryd.func56, Tryd.ntmps56
  go_wp2
  all_goals go_ret
  all_goals refine ⟨ret_int ?_, rfl⟩
  all_goals (unfold Bv.wid; simp_all)

set_option maxHeartbeats 400000 in
theorem wrap_any (k n : Int) (w : World) :
    Calls Tryd.prog 52 #[.int .i64 k, .int .i64 n] w fun e w' => e = .returned (.int .i64 (Bv.wrp k n)) ∧ w' = w := by
  have c1 := Bv.and1 n
  have c2 := Bv.wrap8 n
  have c3 := Bv.wrap16 n
  have c4 := Bv.wrap3264 n
  have c7 := Bv.wrapu16 n
  have C : Hid (bits .and .i64 n 1 = n % 2 ∧ wrap64 (IntKind.i8.wrap n) = (n + 128) % 256 - 128 ∧ wrap64 (IntKind.i16.wrap n) = (n + 32768) % 65536 - 32768 ∧ wrap64 (wrap32 n) = (n + 2147483648) % 4294967296 - 2147483648 ∧ wrap64 (IntKind.u16.wrap n) = n % 65536) := ⟨c1, c2, c3, c4, c7⟩
  clear c1 c2 c3 c4 c7
  go_enter Tryd.func52, Tryd.ntmps52
  go_wp2
  all_goals go_ret
  all_goals refine ⟨ret_int ?_, rfl⟩
  all_goals (obtain ⟨c1, c2, c3, c4, c7⟩ := C.out; unfold Bv.wrp; simp_all)

end Go.Proofs.YtbiplgidlmbbkaaDoor
