/- The walk of bv.Bin: what each call answers, whatever the operation, the kind and the two numbers of 64 bits; of the memory that was there nothing turns. -/
import Derived.Test.YtjlphploknhcfacChecked
import Derived.Test.YtjlphploknhcfacBvU
import Derived.Test.YtjlphploknhcfacBvB
namespace Go.Proofs.Ytjlphploknhcfac
open Go.RowKit

theorem enters_add (args : Array Value) (w : World) : (callFunc 14 args).run Try.prog w = .ok (.enter 14 args) w := enters Try.func14 (by kernel_rfl) rfl args w

theorem enters_sub (args : Array Value) (w : World) : (callFunc 15 args).run Try.prog w = .ok (.enter 15 args) w := enters Try.func15 (by kernel_rfl) rfl args w

theorem enters_mul (args : Array Value) (w : World) : (callFunc 16 args).run Try.prog w = .ok (.enter 16 args) w := enters Try.func16 (by kernel_rfl) rfl args w

theorem enters_div (args : Array Value) (w : World) : (callFunc 17 args).run Try.prog w = .ok (.enter 17 args) w := enters Try.func17 (by kernel_rfl) rfl args w

theorem enters_mod (args : Array Value) (w : World) : (callFunc 18 args).run Try.prog w = .ok (.enter 18 args) w := enters Try.func18 (by kernel_rfl) rfl args w

theorem enters_and (args : Array Value) (w : World) : (callFunc 19 args).run Try.prog w = .ok (.enter 19 args) w := enters Try.func19 (by kernel_rfl) rfl args w

theorem enters_or (args : Array Value) (w : World) : (callFunc 20 args).run Try.prog w = .ok (.enter 20 args) w := enters Try.func20 (by kernel_rfl) rfl args w

theorem enters_xor (args : Array Value) (w : World) : (callFunc 21 args).run Try.prog w = .ok (.enter 21 args) w := enters Try.func21 (by kernel_rfl) rfl args w

theorem enters_imp (args : Array Value) (w : World) : (callFunc 22 args).run Try.prog w = .ok (.enter 22 args) w := enters Try.func22 (by kernel_rfl) rfl args w

theorem enters_shl (args : Array Value) (w : World) : (callFunc 23 args).run Try.prog w = .ok (.enter 23 args) w := enters Try.func23 (by kernel_rfl) rfl args w

theorem enters_shr (args : Array Value) (w : World) : (callFunc 24 args).run Try.prog w = .ok (.enter 24 args) w := enters Try.func24 (by kernel_rfl) rfl args w

theorem enters_eq (args : Array Value) (w : World) : (callFunc 25 args).run Try.prog w = .ok (.enter 25 args) w := enters Try.func25 (by kernel_rfl) rfl args w

theorem enters_ne (args : Array Value) (w : World) : (callFunc 26 args).run Try.prog w = .ok (.enter 26 args) w := enters Try.func26 (by kernel_rfl) rfl args w

theorem enters_lt (args : Array Value) (w : World) : (callFunc 27 args).run Try.prog w = .ok (.enter 27 args) w := enters Try.func27 (by kernel_rfl) rfl args w

theorem enters_le (args : Array Value) (w : World) : (callFunc 28 args).run Try.prog w = .ok (.enter 28 args) w := enters Try.func28 (by kernel_rfl) rfl args w

theorem enters_gt (args : Array Value) (w : World) : (callFunc 29 args).run Try.prog w = .ok (.enter 29 args) w := enters Try.func29 (by kernel_rfl) rfl args w

theorem enters_ge (args : Array Value) (w : World) : (callFunc 30 args).run Try.prog w = .ok (.enter 30 args) w := enters Try.func30 (by kernel_rfl) rfl args w

set_option maxHeartbeats 400000 in
theorem bin_nil (op kind a b : Int) (w : World) (hr : rowB op = #[.int .i64 0, .bool false, .nilFunc]) :
    Calls Try.prog 5 #[.int .i64 op, .int .i64 kind, .int .i64 a, .int .i64 b] w fun e w' => e = .returned (.tuple #[.int .i64 0, .int .i64 0, .bool false]) ∧ Below w.heap.size w w' := by
  have HR : Hid (rowB op = #[.int .i64 0, .bool false, .nilFunc]) := hr
  clear hr
  have ht : Bv.tks 0 kind = false := by simp [Bv.tks]
  go_enter Try.func5, Try.ntmps5
  go_wp2_with fail
  refine (binaryOf_any _ _).mono ?_
  rintro e w1 ⟨rfl, hb⟩
  rw [HR.out]
  go_wp2_with (go_at_call 10; refine (takes_any _ _ _).mono ?_; rintro e w' ⟨rfl, rfl⟩)
  go_ret3
  exact ⟨rfl, hb.alloc hb.size _⟩

set_option maxHeartbeats 400000 in
theorem bin_no (op kind a b o : Int) (t : Bool) (f : Nat) (w : World) (hr : rowB op = #[.int .i64 o, .bool t, .func (.func f) #[] #[]]) (ht : Bv.tks o kind = false) :
    Calls Try.prog 5 #[.int .i64 op, .int .i64 kind, .int .i64 a, .int .i64 b] w fun e w' => e = .returned (.tuple #[.int .i64 0, .int .i64 0, .bool false]) ∧ Below w.heap.size w w' := by
  have HR : Hid (rowB op = #[.int .i64 o, .bool t, .func (.func f) #[] #[]]) := hr
  clear hr
  go_enter Try.func5, Try.ntmps5
  go_wp2_with fail
  refine (binaryOf_any _ _).mono ?_
  rintro e w1 ⟨rfl, hb⟩
  rw [HR.out]
  go_wp2_with (go_at_call 10; refine (takes_any _ _ _).mono ?_; rintro e w' ⟨rfl, rfl⟩)
  go_ret3
  exact ⟨rfl, hb.alloc hb.size _⟩

set_option maxHeartbeats 800000 in
theorem bin_yes (op kind a b o x : Int) (t : Bool) (f : Nat) (w : World) (hr : rowB op = #[.int .i64 o, .bool t, .func (.func f) #[] #[]]) (ht : Bv.tks o kind = true)
    (hcf : ∀ args w, (callFunc f args).run Try.prog w = .ok (.enter f args) w)
    (hf : ∀ w, Calls Try.prog f #[.agg #[.int .i64 kind, .int .i64 a], .agg #[.int .i64 kind, .int .i64 b]] w fun e w' => e = .returned (.int .i64 x) ∧ Below w.heap.size w w') :
    Calls Try.prog 5 #[.int .i64 op, .int .i64 kind, .int .i64 a, .int .i64 b] w
      fun e w' => e = .returned (.tuple #[.int .i64 (Bv.setv kind (Bv.two t 1 kind) x [a, b]), .int .i64 (Bv.two (Bv.allv kind [a, b]) (Bv.two t 1 kind) 0), .bool (Bv.allv kind [a, b])]) ∧ Below w.heap.size w w' := by
  have HR : Hid (rowB op = #[.int .i64 o, .bool t, .func (.func f) #[] #[]]) := hr
  have HF : Hid (∀ w, Calls Try.prog f #[.agg #[.int .i64 kind, .int .i64 a], .agg #[.int .i64 kind, .int .i64 b]] w fun e w' => e = .returned (.int .i64 x) ∧ Below w.heap.size w w') := hf
  have HCF : Hid (∀ args w, (callFunc f args).run Try.prog w = .ok (.enter f args) w) := hcf
  clear hr hf hcf
  rcases Bool.eq_false_or_eq_true (Bv.allv kind [a, b]) with hall | hall
  all_goals rcases Bool.eq_false_or_eq_true t with htt | htt
  all_goals subst htt
  all_goals
    go_enter Try.func5, Try.ntmps5
    go_wp2_with fail
    refine (binaryOf_any _ _).mono ?_
    rintro e w1 ⟨rfl, hb⟩
    rw [HR.out]
    go_wp2_with (go_at_call 10; refine (takes_any _ _ _).mono ?_; rintro e w' ⟨rfl, rfl⟩)
    refine (settle2 kind _ x a b 12 _ _ _ ?_ ?_ ?_ enters_run2 ?_).mono ?_
    · simp
    · simp
    · simp
    · exact fun w => run2_any f kind a kind b x w HCF.out HF.out
    rintro e w2 ⟨rfl, hb2⟩
    have hB := bel_more hb hb2
    clear hb hb2
    go_wp2
    go_ret3
    exact ⟨by simp [Bv.two, Bv.setv, hall], hB⟩

theorem bin_of (op kind a b o x : Int) (t : Bool) (f : Nat) (w : World) (hr : rowB op = #[.int .i64 o, .bool t, .func (.func f) #[] #[]])
    (ho : Bv.ofB op = o) (hts : Bv.tsB op = t) (hv : Bv.vop op kind a b = x)
    (hcf : ∀ args w, (callFunc f args).run Try.prog w = .ok (.enter f args) w)
    (hf : ∀ w, Calls Try.prog f #[.agg #[.int .i64 kind, .int .i64 a], .agg #[.int .i64 kind, .int .i64 b]] w fun e w' => e = .returned (.int .i64 x) ∧ Below w.heap.size w w') :
    Calls Try.prog 5 #[.int .i64 op, .int .i64 kind, .int .i64 a, .int .i64 b] w
      fun e w' => e = .returned (.tuple #[.int .i64 (Bv.binN op kind a b), .int .i64 (Bv.binK op kind a b), .bool (Bv.binB op kind a b)]) ∧ Below w.heap.size w w' := by
  cases ht : Bv.tks o kind with
  | false =>
    have e : Bv.binB op kind a b = false := by simp [Bv.binB, ho, ht]
    have e1 : Bv.binN op kind a b = 0 := by simp [Bv.binN, e]
    have e2 : Bv.binK op kind a b = 0 := by simp [Bv.binK, e]
    rw [e, e1, e2]
    exact bin_no op kind a b o t f w hr ht
  | true =>
    have e : Bv.binB op kind a b = Bv.allv kind [a, b] := by simp [Bv.binB, ho, ht]
    have e1 : Bv.binN op kind a b = Bv.setv kind (Bv.two t 1 kind) x [a, b] := by simp [Bv.binN, e, Bv.setv, Bv.toK, hts, hv, Bv.two]
    have e2 : Bv.binK op kind a b = Bv.two (Bv.allv kind [a, b]) (Bv.two t 1 kind) 0 := by simp [Bv.binK, e, Bv.toK, hts, Bv.two]
    rw [e, e1, e2]
    exact bin_yes op kind a b o x t f w hr ht hcf hf

theorem bin_any (op kind a b : Int) (h64 : Bv.I64 b) (w : World) :
    Calls Try.prog 5 #[.int .i64 op, .int .i64 kind, .int .i64 a, .int .i64 b] w
      fun e w' => e = .returned (.tuple #[.int .i64 (Bv.binN op kind a b), .int .i64 (Bv.binK op kind a b), .bool (Bv.binB op kind a b)]) ∧ Below w.heap.size w w' := by
  by_cases hout : op < 3 ∨ 20 ≤ op
  · have ho : Bv.ofB op = 0 := by unfold Bv.ofB; rw [if_neg (by omega), if_neg (by omega), if_neg (by omega)]
    have e : Bv.binB op kind a b = false := by simp [Bv.binB, ho, Bv.tks]
    have e1 : Bv.binN op kind a b = 0 := by simp [Bv.binN, e]
    have e2 : Bv.binK op kind a b = 0 := by simp [Bv.binK, e]
    rw [e, e1, e2]
    exact bin_nil op kind a b w (by unfold rowB; repeat (rw [if_neg (by omega)]))
  · have hc : op = 3 ∨ op = 4 ∨ op = 5 ∨ op = 6 ∨ op = 7 ∨ op = 8 ∨ op = 9 ∨ op = 10 ∨ op = 11 ∨ op = 12 ∨ op = 13 ∨ op = 14 ∨ op = 15 ∨ op = 16 ∨ op = 17 ∨ op = 18 ∨ op = 19 := by omega
    rcases hc with h | h | h | h | h | h | h | h | h | h | h | h | h | h | h | h | h
    all_goals subst h
    · exact bin_of 3 kind a b 2 _ false _ w (by simp [rowB]) rfl rfl (by simp [Bv.vop]) enters_add (fun w => v_add kind a kind b w)
    · exact bin_of 4 kind a b 2 _ false _ w (by simp [rowB]) rfl rfl (by simp [Bv.vop]) enters_sub (fun w => v_sub kind a kind b w)
    · exact bin_of 5 kind a b 2 _ false _ w (by simp [rowB]) rfl rfl (by simp [Bv.vop]) enters_mul (fun w => v_mul kind a kind b w)
    · exact bin_of 6 kind a b 2 _ false _ w (by simp [rowB]) rfl rfl (by simp [Bv.vop]) enters_div (fun w => v_div kind a kind b h64 w)
    · exact bin_of 7 kind a b 2 _ false _ w (by simp [rowB]) rfl rfl (by simp [Bv.vop]) enters_mod (fun w => v_mod kind a kind b h64 w)
    · exact bin_of 8 kind a b 3 _ false _ w (by simp [rowB]) rfl rfl (by simp [Bv.vop]) enters_and (fun w => v_and kind a kind b w)
    · exact bin_of 9 kind a b 3 _ false _ w (by simp [rowB]) rfl rfl (by simp [Bv.vop]) enters_or (fun w => v_or kind a kind b w)
    · exact bin_of 10 kind a b 3 _ false _ w (by simp [rowB]) rfl rfl (by simp [Bv.vop]) enters_xor (fun w => v_xor kind a kind b w)
    · exact bin_of 11 kind a b 1 _ false _ w (by simp [rowB]) rfl rfl (by simp [Bv.vop]) enters_imp (fun w => v_imp kind a kind b w)
    · exact bin_of 12 kind a b 2 _ false _ w (by simp [rowB]) rfl rfl (by simp [Bv.vop]) enters_shl (fun w => v_shl kind a kind b w)
    · exact bin_of 13 kind a b 2 _ false _ w (by simp [rowB]) rfl rfl (by simp [Bv.vop]) enters_shr (fun w => v_shr kind a kind b w)
    · exact bin_of 14 kind a b 3 _ true _ w (by simp [rowB]) rfl rfl (by simp [Bv.vop]) enters_eq (fun w => v_eq kind a kind b w)
    · exact bin_of 15 kind a b 3 _ true _ w (by simp [rowB]) rfl rfl (by simp [Bv.vop]) enters_ne (fun w => v_ne kind a kind b w)
    · exact bin_of 16 kind a b 2 _ true _ w (by simp [rowB]) rfl rfl (by simp [Bv.vop]) enters_lt (fun w => v_lt kind a kind b w)
    · exact bin_of 17 kind a b 2 _ true _ w (by simp [rowB]) rfl rfl (by simp [Bv.vop]) enters_le (fun w => v_le kind a kind b w)
    · exact bin_of 18 kind a b 2 _ true _ w (by simp [rowB]) rfl rfl (by simp [Bv.vop]) enters_gt (fun w => v_gt kind a kind b w)
    · exact bin_of 19 kind a b 2 _ true _ w (by simp [rowB]) rfl rfl (by simp [Bv.vop]) enters_ge (fun w => v_ge kind a kind b w)
end Go.Proofs.Ytjlphploknhcfac
