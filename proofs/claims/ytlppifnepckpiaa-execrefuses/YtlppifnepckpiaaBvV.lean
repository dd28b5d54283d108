/- The walks of the operations of bv's values: what each method answers (all but the shifts); of the memory that was there nothing turns. -/
import Derived.Test.YtlppifnepckpiaaChecked
import Derived.Test.YtlppifnepckpiaaBvA
import Derived.Deep.RegionWith
namespace Go.Proofs.Ytlppifnepckpiaa
open Go.RowKit

theorem bel1 (w : World) (o : Obj) : Below w.heap.size w (w.alloc o) := (Below.refl _ _).alloc (Nat.le_refl _) _
theorem bel2 (w : World) (o p : Obj) : Below w.heap.size w ((w.alloc o).alloc p) := (bel1 w o).alloc (by simp) _
theorem bel3 (w : World) (o p q : Obj) : Below w.heap.size w (((w.alloc o).alloc p).alloc q) := (bel2 w o p).alloc (by simp; omega) _
theorem bel4 (w : World) (o p q r : Obj) : Below w.heap.size w ((((w.alloc o).alloc p).alloc q).alloc r) := (bel3 w o p q).alloc (by simp; omega) _
theorem bel5 (w : World) (o p q r s : Obj) : Below w.heap.size w (((((w.alloc o).alloc p).alloc q).alloc r).alloc s) := (bel4 w o p q r).alloc (by simp; omega) _

set_option maxHeartbeats 400000 in
theorem v_not (k a : Int) (w : World) :
    Calls Try.prog 66 #[.agg #[.int .i64 k, .int .i64 a]] w fun e w' => e = .returned (.int .i64 (bits .xor .i64 (-1) a)) ∧ Below w.heap.size w w' := by
  go_enter Try.func66, Try.ntmps66
  go_wp2
  all_goals go_ret
  all_goals exact ⟨rfl, (Below.refl _ _).alloc (Nat.le_refl _) _⟩

set_option maxHeartbeats 400000 in
theorem v_neg (k a : Int) (w : World) :
    Calls Try.prog 67 #[.agg #[.int .i64 k, .int .i64 a]] w fun e w' => e = .returned (.int .i64 (wrap64 (-a))) ∧ Below w.heap.size w w' := by
  go_enter Try.func67, Try.ntmps67
  go_wp2
  all_goals go_ret
  all_goals exact ⟨rfl, (Below.refl _ _).alloc (Nat.le_refl _) _⟩

set_option maxHeartbeats 400000 in
theorem v_add (k a l b : Int) (w : World) :
    Calls Try.prog 68 #[.agg #[.int .i64 k, .int .i64 a], .agg #[.int .i64 l, .int .i64 b]] w fun e w' => e = .returned (.int .i64 (wrap64 (a + b))) ∧ Below w.heap.size w w' := by
  go_enter Try.func68, Try.ntmps68
  go_wp2
  all_goals go_ret
  all_goals refine ⟨ret_int ?_, (by first | exact bel2 _ _ _ | exact bel3 _ _ _ _ | exact bel4 _ _ _ _ _ | exact bel5 _ _ _ _ _ _)⟩
  all_goals first | rfl

set_option maxHeartbeats 400000 in
theorem v_sub (k a l b : Int) (w : World) :
    Calls Try.prog 69 #[.agg #[.int .i64 k, .int .i64 a], .agg #[.int .i64 l, .int .i64 b]] w fun e w' => e = .returned (.int .i64 (wrap64 (a - b))) ∧ Below w.heap.size w w' := by
  go_enter Try.func69, Try.ntmps69
  go_wp2
  all_goals go_ret
  all_goals refine ⟨ret_int ?_, (by first | exact bel2 _ _ _ | exact bel3 _ _ _ _ | exact bel4 _ _ _ _ _ | exact bel5 _ _ _ _ _ _)⟩
  all_goals first | rfl

set_option maxHeartbeats 400000 in
theorem v_mul (k a l b : Int) (w : World) :
    Calls Try.prog 70 #[.agg #[.int .i64 k, .int .i64 a], .agg #[.int .i64 l, .int .i64 b]] w fun e w' => e = .returned (.int .i64 (wrap64 (a * b))) ∧ Below w.heap.size w w' := by
  go_enter Try.func70, Try.ntmps70
  go_wp2
  all_goals go_ret
  all_goals refine ⟨ret_int ?_, (by first | exact bel2 _ _ _ | exact bel3 _ _ _ _ | exact bel4 _ _ _ _ _ | exact bel5 _ _ _ _ _ _)⟩
  all_goals first | rfl

set_option maxHeartbeats 400000 in
theorem v_and (k a l b : Int) (w : World) :
    Calls Try.prog 73 #[.agg #[.int .i64 k, .int .i64 a], .agg #[.int .i64 l, .int .i64 b]] w fun e w' => e = .returned (.int .i64 (bits .and .i64 a b)) ∧ Below w.heap.size w w' := by
  go_enter Try.func73, Try.ntmps73
  go_wp2
  all_goals go_ret
  all_goals refine ⟨ret_int ?_, (by first | exact bel2 _ _ _ | exact bel3 _ _ _ _ | exact bel4 _ _ _ _ _ | exact bel5 _ _ _ _ _ _)⟩
  all_goals first | rfl

set_option maxHeartbeats 400000 in
theorem v_or (k a l b : Int) (w : World) :
    Calls Try.prog 74 #[.agg #[.int .i64 k, .int .i64 a], .agg #[.int .i64 l, .int .i64 b]] w fun e w' => e = .returned (.int .i64 (bits .or .i64 a b)) ∧ Below w.heap.size w w' := by
  go_enter Try.func74, Try.ntmps74
  go_wp2
  all_goals go_ret
  all_goals refine ⟨ret_int ?_, (by first | exact bel2 _ _ _ | exact bel3 _ _ _ _ | exact bel4 _ _ _ _ _ | exact bel5 _ _ _ _ _ _)⟩
  all_goals first | rfl

set_option maxHeartbeats 400000 in
theorem v_xor (k a l b : Int) (w : World) :
    Calls Try.prog 75 #[.agg #[.int .i64 k, .int .i64 a], .agg #[.int .i64 l, .int .i64 b]] w fun e w' => e = .returned (.int .i64 (bits .xor .i64 a b)) ∧ Below w.heap.size w w' := by
  go_enter Try.func75, Try.ntmps75
  go_wp2
  all_goals go_ret
  all_goals refine ⟨ret_int ?_, (by first | exact bel2 _ _ _ | exact bel3 _ _ _ _ | exact bel4 _ _ _ _ _ | exact bel5 _ _ _ _ _ _)⟩
  all_goals first | rfl

set_option maxHeartbeats 400000 in
theorem v_imp (k a l b : Int) (w : World) :
    Calls Try.prog 76 #[.agg #[.int .i64 k, .int .i64 a], .agg #[.int .i64 l, .int .i64 b]] w fun e w' => e = .returned (.int .i64 (bits .or .i64 (bits .xor .i64 (-1) a) b)) ∧ Below w.heap.size w w' := by
  go_enter Try.func76, Try.ntmps76
  go_wp2
  all_goals go_ret
  all_goals refine ⟨ret_int ?_, (by first | exact bel2 _ _ _ | exact bel3 _ _ _ _ | exact bel4 _ _ _ _ _ | exact bel5 _ _ _ _ _ _)⟩
  all_goals first | rfl

set_option maxHeartbeats 400000 in
theorem v_eq (k a l b : Int) (w : World) :
    Calls Try.prog 79 #[.agg #[.int .i64 k, .int .i64 a], .agg #[.int .i64 l, .int .i64 b]] w fun e w' => e = .returned (.int .i64 (Bv.one (a == b))) ∧ Below w.heap.size w w' := by
  go_enter Try.func79, Try.ntmps79
  go_wp2
  all_goals go_ret
  all_goals refine ⟨ret_int ?_, (by first | exact bel2 _ _ _ | exact bel3 _ _ _ _ | exact bel4 _ _ _ _ _ | exact bel5 _ _ _ _ _ _)⟩
  all_goals first | (simp_all [Bv.one]; done)

set_option maxHeartbeats 400000 in
theorem v_ne (k a l b : Int) (w : World) :
    Calls Try.prog 80 #[.agg #[.int .i64 k, .int .i64 a], .agg #[.int .i64 l, .int .i64 b]] w fun e w' => e = .returned (.int .i64 (Bv.one (a != b))) ∧ Below w.heap.size w w' := by
  go_enter Try.func80, Try.ntmps80
  go_wp2
  all_goals go_ret
  all_goals refine ⟨ret_int ?_, (by first | exact bel2 _ _ _ | exact bel3 _ _ _ _ | exact bel4 _ _ _ _ _ | exact bel5 _ _ _ _ _ _)⟩
  all_goals first | (simp_all [Bv.one]; done)

set_option maxHeartbeats 400000 in
theorem v_lt (k a l b : Int) (w : World) :
    Calls Try.prog 81 #[.agg #[.int .i64 k, .int .i64 a], .agg #[.int .i64 l, .int .i64 b]] w fun e w' => e = .returned (.int .i64 (Bv.one (Bv.lss k a b))) ∧ Below w.heap.size w w' := by
  go_enter Try.func81, Try.ntmps81
  go_wp2
  all_goals go_ret
  all_goals refine ⟨ret_int ?_, (by first | exact bel2 _ _ _ | exact bel3 _ _ _ _ | exact bel4 _ _ _ _ _ | exact bel5 _ _ _ _ _ _)⟩
  all_goals first | ((unfold Bv.one Bv.lss; repeat' split) <;> first | rfl | (exfalso; simp_all; omega) | (exfalso; simp_all; done))

set_option maxHeartbeats 400000 in
theorem v_le (k a l b : Int) (w : World) :
    Calls Try.prog 82 #[.agg #[.int .i64 k, .int .i64 a], .agg #[.int .i64 l, .int .i64 b]] w fun e w' => e = .returned (.int .i64 (Bv.one (!Bv.lss l b a))) ∧ Below w.heap.size w w' := by
  go_enter Try.func82, Try.ntmps82
  go_wp2
  all_goals go_ret
  all_goals refine ⟨ret_int ?_, (by first | exact bel2 _ _ _ | exact bel3 _ _ _ _ | exact bel4 _ _ _ _ _ | exact bel5 _ _ _ _ _ _)⟩
  all_goals first | ((unfold Bv.one Bv.lss; repeat' split) <;> first | rfl | (exfalso; simp_all; omega) | (exfalso; simp_all; done))

set_option maxHeartbeats 400000 in
theorem v_gt (k a l b : Int) (w : World) :
    Calls Try.prog 83 #[.agg #[.int .i64 k, .int .i64 a], .agg #[.int .i64 l, .int .i64 b]] w fun e w' => e = .returned (.int .i64 (Bv.one (Bv.lss l b a))) ∧ Below w.heap.size w w' := by
  go_enter Try.func83, Try.ntmps83
  go_wp2
  all_goals go_ret
  all_goals refine ⟨ret_int ?_, (by first | exact bel2 _ _ _ | exact bel3 _ _ _ _ | exact bel4 _ _ _ _ _ | exact bel5 _ _ _ _ _ _)⟩
  all_goals first | ((unfold Bv.one Bv.lss; repeat' split) <;> first | rfl | (exfalso; simp_all; omega) | (exfalso; simp_all; done))

set_option maxHeartbeats 400000 in
theorem v_ge (k a l b : Int) (w : World) :
    Calls Try.prog 84 #[.agg #[.int .i64 k, .int .i64 a], .agg #[.int .i64 l, .int .i64 b]] w fun e w' => e = .returned (.int .i64 (Bv.one (!Bv.lss k a b))) ∧ Below w.heap.size w w' := by
  go_enter Try.func84, Try.ntmps84
  go_wp2
  all_goals go_ret
  all_goals refine ⟨ret_int ?_, (by first | exact bel2 _ _ _ | exact bel3 _ _ _ _ | exact bel4 _ _ _ _ _ | exact bel5 _ _ _ _ _ _)⟩
  all_goals first | ((unfold Bv.one Bv.lss; repeat' split) <;> first | rfl | (exfalso; simp_all; omega) | (exfalso; simp_all; done))

set_option maxHeartbeats 400000 in
theorem v_div (k a l b : Int) (h64 : Bv.I64 b) (w : World) :
    Calls Try.prog 71 #[.agg #[.int .i64 k, .int .i64 a], .agg #[.int .i64 l, .int .i64 b]] w fun e w' => e = .returned (.int .i64 (Bv.vdiv k a b)) ∧ Below w.heap.size w w' := by
  by_cases hb : b = 0
  · subst hb
    go_enter Try.func71, Try.ntmps71
    go_wp2
    all_goals go_ret
    all_goals exact ⟨ret_int (by simp [Bv.vdiv]), bel2 _ _ _⟩
  · have hb0 : (b == 0) = false := by simpa using hb
    by_cases hk : 6 ≤ k
    · have hu := Bv.u64_ne h64 hb
      · go_enter Try.func71, Try.ntmps71
        go_wp2
        all_goals go_ret
        all_goals exact ⟨ret_int (by simp [Bv.vdiv, hb, hk]), bel3 _ _ _ _⟩
    · go_enter Try.func71, Try.ntmps71
      go_wp2
      all_goals go_ret
      all_goals exact ⟨ret_int (by have h : ¬ 6 ≤ k := by omega
                                   simp [Bv.vdiv, hb, h]), bel3 _ _ _ _⟩

set_option maxHeartbeats 400000 in
theorem v_mod (k a l b : Int) (h64 : Bv.I64 b) (w : World) :
    Calls Try.prog 72 #[.agg #[.int .i64 k, .int .i64 a], .agg #[.int .i64 l, .int .i64 b]] w fun e w' => e = .returned (.int .i64 (Bv.vmod k a b)) ∧ Below w.heap.size w w' := by
  by_cases hb : b = 0
  · subst hb
    go_enter Try.func72, Try.ntmps72
    go_wp2
    all_goals go_ret
    all_goals exact ⟨ret_int (by simp [Bv.vmod]), bel2 _ _ _⟩
  · have hb0 : (b == 0) = false := by simpa using hb
    by_cases hk : 6 ≤ k
    · have hu := Bv.u64_ne h64 hb
      · go_enter Try.func72, Try.ntmps72
        go_wp2
        all_goals go_ret
        all_goals exact ⟨ret_int (by simp [Bv.vmod, hb, hk]), bel3 _ _ _ _⟩
    · go_enter Try.func72, Try.ntmps72
      go_wp2
      all_goals go_ret
      all_goals exact ⟨ret_int (by have h : ¬ 6 ≤ k := by omega
                                   simp [Bv.vmod, hb, h]), bel3 _ _ _ _⟩

set_option maxHeartbeats 400000 in
theorem places_any (k b : Int) (w : World) :
    Calls Try.prog 87 #[.agg #[.int .i64 k, .int .i64 b]] w fun e w' => e = .returned (.int .u64 (IntKind.u64.wrap b)) ∧ w' = w.alloc (.cells #[.int .i64 k, .int .i64 b] 89) := by
  go_enter Try.func87, Try.ntmps87
  go_wp2
  go_ret
  exact ⟨rfl, rfl⟩

set_option maxHeartbeats 400000 in
theorem v_shl (k a l b : Int) (w : World) :
    Calls Try.prog 77 #[.agg #[.int .i64 k, .int .i64 a], .agg #[.int .i64 l, .int .i64 b]] w fun e w' => e = .returned (.int .i64 (Bv.vshl a b)) ∧ Below w.heap.size w w' := by
  go_enter Try.func77, Try.ntmps77
  go_wp2
  go_region_with (go_at_call 87; refine (places_any _ _ _).mono ?_; rintro e w' ⟨rfl, rfl⟩)
  all_goals go_wp2
  all_goals go_ret
  all_goals exact ⟨rfl, (bel3 _ _ _ _).drew⟩

set_option maxHeartbeats 400000 in
theorem v_shr (k a l b : Int) (w : World) :
    Calls Try.prog 78 #[.agg #[.int .i64 k, .int .i64 a], .agg #[.int .i64 l, .int .i64 b]] w fun e w' => e = .returned (.int .i64 (Bv.vshr k a b)) ∧ Below w.heap.size w w' := by
  by_cases hk : 6 ≤ k
  · have hd : Bv.vshr k a b = IntKind.i64.wrap (IntKind.u64.wrap a / 2 ^ min (IntKind.u64.wrap b).toNat 64) := by simp [Bv.vshr, hk]
    rw [hd]
    clear hd
    go_enter Try.func78, Try.ntmps78
    go_wp2
    go_region_with (go_at_call 87; refine (places_any _ _ _).mono ?_; rintro e w' ⟨rfl, rfl⟩)
    all_goals go_wp2
    all_goals go_ret
    all_goals exact ⟨rfl, (bel4 _ _ _ _ _).drew⟩
  · have hd : Bv.vshr k a b = a / 2 ^ min (IntKind.u64.wrap b).toNat 64 := by simp [Bv.vshr, hk]
    rw [hd]
    clear hd
    go_enter Try.func78, Try.ntmps78
    go_wp2
    go_region_with (go_at_call 87; refine (places_any _ _ _).mono ?_; rintro e w' ⟨rfl, rfl⟩)
    all_goals go_wp2
    all_goals go_ret
    all_goals exact ⟨rfl, (bel4 _ _ _ _ _).drew⟩
end Go.Proofs.Ytlppifnepckpiaa
