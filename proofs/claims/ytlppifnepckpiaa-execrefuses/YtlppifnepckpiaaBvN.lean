/- The walk of bv.Bin: what each call answers, whatever the operation, the kind and the two numbers of 64 bits; of the memory that was there nothing turns. -/
import Derived.Test.YtlppifnepckpiaaChecked
import Derived.Test.YtlppifnepckpiaaBvU
import Derived.Test.YtlppifnepckpiaaBvB
namespace Go.Proofs.Ytlppifnepckpiaa
open Go.RowKit

theorem enters_add (args : Array Value) (w : World) : (callFunc 68 args).run Try.prog w = .ok (.enter 68 args) w := enters Try.func68 (by kernel_rfl) rfl args w

theorem enters_sub (args : Array Value) (w : World) : (callFunc 69 args).run Try.prog w = .ok (.enter 69 args) w := enters Try.func69 (by kernel_rfl) rfl args w

theorem enters_mul (args : Array Value) (w : World) : (callFunc 70 args).run Try.prog w = .ok (.enter 70 args) w := enters Try.func70 (by kernel_rfl) rfl args w

theorem enters_div (args : Array Value) (w : World) : (callFunc 71 args).run Try.prog w = .ok (.enter 71 args) w := enters Try.func71 (by kernel_rfl) rfl args w

theorem enters_mod (args : Array Value) (w : World) : (callFunc 72 args).run Try.prog w = .ok (.enter 72 args) w := enters Try.func72 (by kernel_rfl) rfl args w

theorem enters_and (args : Array Value) (w : World) : (callFunc 73 args).run Try.prog w = .ok (.enter 73 args) w := enters Try.func73 (by kernel_rfl) rfl args w

theorem enters_or (args : Array Value) (w : World) : (callFunc 74 args).run Try.prog w = .ok (.enter 74 args) w := enters Try.func74 (by kernel_rfl) rfl args w

theorem enters_xor (args : Array Value) (w : World) : (callFunc 75 args).run Try.prog w = .ok (.enter 75 args) w := enters Try.func75 (by kernel_rfl) rfl args w

theorem enters_imp (args : Array Value) (w : World) : (callFunc 76 args).run Try.prog w = .ok (.enter 76 args) w := enters Try.func76 (by kernel_rfl) rfl args w

theorem enters_shl (args : Array Value) (w : World) : (callFunc 77 args).run Try.prog w = .ok (.enter 77 args) w := enters Try.func77 (by kernel_rfl) rfl args w

theorem enters_shr (args : Array Value) (w : World) : (callFunc 78 args).run Try.prog w = .ok (.enter 78 args) w := enters Try.func78 (by kernel_rfl) rfl args w

theorem enters_eq (args : Array Value) (w : World) : (callFunc 79 args).run Try.prog w = .ok (.enter 79 args) w := enters Try.func79 (by kernel_rfl) rfl args w

theorem enters_ne (args : Array Value) (w : World) : (callFunc 80 args).run Try.prog w = .ok (.enter 80 args) w := enters Try.func80 (by kernel_rfl) rfl args w

theorem enters_lt (args : Array Value) (w : World) : (callFunc 81 args).run Try.prog w = .ok (.enter 81 args) w := enters Try.func81 (by kernel_rfl) rfl args w

theorem enters_le (args : Array Value) (w : World) : (callFunc 82 args).run Try.prog w = .ok (.enter 82 args) w := enters Try.func82 (by kernel_rfl) rfl args w

theorem enters_gt (args : Array Value) (w : World) : (callFunc 83 args).run Try.prog w = .ok (.enter 83 args) w := enters Try.func83 (by kernel_rfl) rfl args w

theorem enters_ge (args : Array Value) (w : World) : (callFunc 84 args).run Try.prog w = .ok (.enter 84 args) w := enters Try.func84 (by kernel_rfl) rfl args w

set_option maxHeartbeats 400000 in
theorem bin_nil (op kind a b : Int) (w : World) (hr : rowB op = #[.int .i64 0, .bool false, .nilFunc]) :
    Calls Try.prog 50 #[.int .i64 op, .int .i64 kind, .int .i64 a, .int .i64 b] w fun e w' => e = .returned (.tuple #[.int .i64 0, .int .i64 0, .bool false]) ∧ Below w.heap.size w w' := by
  have HR : Hid (rowB op = #[.int .i64 0, .bool false, .nilFunc]) := hr
  clear hr
  have ht : Bv.tks 0 kind = false := by simp [Bv.tks]
  go_enter Try.func50, Try.ntmps50
  go_wp2_with fail
  refine (binaryOf_any _ _).mono ?_
  rintro e w1 ⟨rfl, hb⟩
  rw [HR.out]
  go_wp2_with (go_at_call 59; refine (takes_any _ _ _).mono ?_; rintro e w' ⟨rfl, rfl⟩)
  go_ret3
  exact ⟨rfl, hb.alloc hb.size _⟩

set_option maxHeartbeats 400000 in
theorem bin_no (op kind a b o : Int) (t : Bool) (f : Nat) (w : World) (hr : rowB op = #[.int .i64 o, .bool t, .func (.func f) #[] #[]]) (ht : Bv.tks o kind = false) :
    Calls Try.prog 50 #[.int .i64 op, .int .i64 kind, .int .i64 a, .int .i64 b] w fun e w' => e = .returned (.tuple #[.int .i64 0, .int .i64 0, .bool false]) ∧ Below w.heap.size w w' := by
  have HR : Hid (rowB op = #[.int .i64 o, .bool t, .func (.func f) #[] #[]]) := hr
  clear hr
  go_enter Try.func50, Try.ntmps50
  go_wp2_with fail
  refine (binaryOf_any _ _).mono ?_
  rintro e w1 ⟨rfl, hb⟩
  rw [HR.out]
  go_wp2_with (go_at_call 59; refine (takes_any _ _ _).mono ?_; rintro e w' ⟨rfl, rfl⟩)
  go_ret3
  exact ⟨rfl, hb.alloc hb.size _⟩

set_option maxHeartbeats 800000 in
theorem bin_yes (op kind a b o x : Int) (t : Bool) (f : Nat) (w : World) (hr : rowB op = #[.int .i64 o, .bool t, .func (.func f) #[] #[]]) (ht : Bv.tks o kind = true)
    (hcf : ∀ args w, (callFunc f args).run Try.prog w = .ok (.enter f args) w)
    (hf : ∀ w, Calls Try.prog f #[.agg #[.int .i64 kind, .int .i64 a], .agg #[.int .i64 kind, .int .i64 b]] w fun e w' => e = .returned (.int .i64 x) ∧ Below w.heap.size w w') :
    Calls Try.prog 50 #[.int .i64 op, .int .i64 kind, .int .i64 a, .int .i64 b] w
      fun e w' => e = .returned (.tuple #[.int .i64 (Bv.setv kind (Bv.two t 1 kind) x [a, b]), .int .i64 (Bv.two (Bv.allv kind [a, b]) (Bv.two t 1 kind) 0), .bool (Bv.allv kind [a, b])]) ∧ Below w.heap.size w w' := by
  have HR : Hid (rowB op = #[.int .i64 o, .bool t, .func (.func f) #[] #[]]) := hr
  have HF : Hid (∀ w, Calls Try.prog f #[.agg #[.int .i64 kind, .int .i64 a], .agg #[.int .i64 kind, .int .i64 b]] w fun e w' => e = .returned (.int .i64 x) ∧ Below w.heap.size w w') := hf
  have HCF : Hid (∀ args w, (callFunc f args).run Try.prog w = .ok (.enter f args) w) := hcf
  clear hr hf hcf
  rcases Bool.eq_false_or_eq_true (Bv.allv kind [a, b]) with hall | hall
  all_goals rcases Bool.eq_false_or_eq_true t with htt | htt
  all_goals subst htt
  all_goals
    go_enter Try.func50, Try.ntmps50
    go_wp2_with fail
    refine (binaryOf_any _ _).mono ?_
    rintro e w1 ⟨rfl, hb⟩
    rw [HR.out]
    go_wp2_with (go_at_call 59; refine (takes_any _ _ _).mono ?_; rintro e w' ⟨rfl, rfl⟩)
    refine (settle2 kind _ x a b 63 _ _ _ ?_ ?_ ?_ enters_run2 ?_).mono ?_
    · simp
    · simp
    · simp
    · exact fun w => run2_any f kind a kind b x w HCF.out HF.out
    rintro e w2 ⟨rfl, hb2⟩
    have hB := bel_more hb hb2
    clear hb hb2
    go_wp2
    go_ret3
    exact ⟨by simp [Bv.two, Bv.setv, hall], hB⟩

theorem bin_of (op kind a b o x : Int) (t : Bool) (f : Nat) (w : World) (hr : rowB op = #[.int .i64 o, .bool t, .func (.func f) #[] #[]])
    (ho : Bv.ofB op = o) (hts : Bv.tsB op = t) (hv : Bv.vop op kind a b = x)
    (hcf : ∀ args w, (callFunc f args).run Try.prog w = .ok (.enter f args) w)
    (hf : ∀ w, Calls Try.prog f #[.agg #[.int .i64 kind, .int .i64 a], .agg #[.int .i64 kind, .int .i64 b]] w fun e w' => e = .returned (.int .i64 x) ∧ Below w.heap.size w w') :
    Calls Try.prog 50 #[.int .i64 op, .int .i64 kind, .int .i64 a, .int .i64 b] w
      fun e w' => e = .returned (.tuple #[.int .i64 (Bv.binN op kind a b), .int .i64 (Bv.binK op kind a b), .bool (Bv.binB op kind a b)]) ∧ Below w.heap.size w w' := by
  cases ht : Bv.tks o kind with
  | false =>
    have e : Bv.binB op kind a b = false := by simp [Bv.binB, ho, ht]
    have e1 : Bv.binN op kind a b = 0 := by simp [Bv.binN, e]
    have e2 : Bv.binK op kind a b = 0 := by simp [Bv.binK, e]
    rw [e, e1, e2]
    exact bin_no op kind a b o t f w hr ht
  | true =>
    have e : Bv.binB op kind a b = Bv.allv kind [a, b] := by simp [Bv.binB, ho, ht]
    have e1 : Bv.binN op kind a b = Bv.setv kind (Bv.two t 1 kind) x [a, b] := by simp [Bv.binN, e, Bv.setv, Bv.toK, hts, hv, Bv.two]
    have e2 : Bv.binK op kind a b = Bv.two (Bv.allv kind [a, b]) (Bv.two t 1 kind) 0 := by simp [Bv.binK, e, Bv.toK, hts, Bv.two]
    rw [e, e1, e2]
    exact bin_yes op kind a b o x t f w hr ht hcf hf

theorem bin_any (op kind a b : Int) (h64 : Bv.I64 b) (w : World) :
    Calls Try.prog 50 #[.int .i64 op, .int .i64 kind, .int .i64 a, .int .i64 b] w
      fun e w' => e = .returned (.tuple #[.int .i64 (Bv.binN op kind a b), .int .i64 (Bv.binK op kind a b), .bool (Bv.binB op kind a b)]) ∧ Below w.heap.size w w' := by
  by_cases hout : op < 3 ∨ 20 ≤ op
  · have ho : Bv.ofB op = 0 := by unfold Bv.ofB; rw [if_neg (by omega), if_neg (by omega), if_neg (by omega)]
    have e : Bv.binB op kind a b = false := by simp [Bv.binB, ho, Bv.tks]
    have e1 : Bv.binN op kind a b = 0 := by simp [Bv.binN, e]
    have e2 : Bv.binK op kind a b = 0 := by simp [Bv.binK, e]
    rw [e, e1, e2]
    exact bin_nil op kind a b w (by unfold rowB; repeat (rw [if_neg (by omega)]))
  · have hc : op = 3 ∨ op = 4 ∨ op = 5 ∨ op = 6 ∨ op = 7 ∨ op = 8 ∨ op = 9 ∨ op = 10 ∨ op = 11 ∨ op = 12 ∨ op = 13 ∨ op = 14 ∨ op = 15 ∨ op = 16 ∨ op = 17 ∨ op = 18 ∨ op = 19 := by omega
    rcases hc with h | h | h | h | h | h | h | h | h | h | h | h | h | h | h | h | h
    all_goals subst h
    · exact bin_of 3 kind a b 2 _ false _ w (by simp [rowB]) rfl rfl (by simp [Bv.vop]) enters_add (fun w => v_add kind a kind b w)
    · exact bin_of 4 kind a b 2 _ false _ w (by simp [rowB]) rfl rfl (by simp [Bv.vop]) enters_sub (fun w => v_sub kind a kind b w)
    · exact bin_of 5 kind a b 2 _ false _ w (by simp [rowB]) rfl rfl (by simp [Bv.vop]) enters_mul (fun w => v_mul kind a kind b w)
    · exact bin_of 6 kind a b 2 _ false _ w (by simp [rowB]) rfl rfl (by simp [Bv.vop]) enters_div (fun w => v_div kind a kind b h64 w)
    · exact bin_of 7 kind a b 2 _ false _ w (by simp [rowB]) rfl rfl (by simp [Bv.vop]) enters_mod (fun w => v_mod kind a kind b h64 w)
    · exact bin_of 8 kind a b 3 _ false _ w (by simp [rowB]) rfl rfl (by simp [Bv.vop]) enters_and (fun w => v_and kind a kind b w)
    · exact bin_of 9 kind a b 3 _ false _ w (by simp [rowB]) rfl rfl (by simp [Bv.vop]) enters_or (fun w => v_or kind a kind b w)
    · exact bin_of 10 kind a b 3 _ false _ w (by simp [rowB]) rfl rfl (by simp [Bv.vop]) enters_xor (fun w => v_xor kind a kind b w)
    · exact bin_of 11 kind a b 1 _ false _ w (by simp [rowB]) rfl rfl (by simp [Bv.vop]) enters_imp (fun w => v_imp kind a kind b w)
    · exact bin_of 12 kind a b 2 _ false _ w (by simp [rowB]) rfl rfl (by simp [Bv.vop]) enters_shl (fun w => v_shl kind a kind b w)
    · exact bin_of 13 kind a b 2 _ false _ w (by simp [rowB]) rfl rfl (by simp [Bv.vop]) enters_shr (fun w => v_shr kind a kind b w)
    · exact bin_of 14 kind a b 3 _ true _ w (by simp [rowB]) rfl rfl (by simp [Bv.vop]) enters_eq (fun w => v_eq kind a kind b w)
    · exact bin_of 15 kind a b 3 _ true _ w (by simp [rowB]) rfl rfl (by simp [Bv.vop]) enters_ne (fun w => v_ne kind a kind b w)
    · exact bin_of 16 kind a b 2 _ true _ w (by simp [rowB]) rfl rfl (by simp [Bv.vop]) enters_lt (fun w => v_lt kind a kind b w)
    · exact bin_of 17 kind a b 2 _ true _ w (by simp [rowB]) rfl rfl (by simp [Bv.vop]) enters_le (fun w => v_le kind a kind b w)
    · exact bin_of 18 kind a b 2 _ true _ w (by simp [rowB]) rfl rfl (by simp [Bv.vop]) enters_gt (fun w => v_gt kind a kind b w)
    · exact bin_of 19 kind a b 2 _ true _ w (by simp [rowB]) rfl rfl (by simp [Bv.vop]) enters_ge (fun w => v_ge kind a kind b w)
end Go.Proofs.Ytlppifnepckpiaa
