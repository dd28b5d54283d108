/- The walks of bv.Un and bv.Cast: what each call answers, whatever the arguments; of the memory that was there nothing turns. -/
import Derived.Test.YtlppifnepckpiaaChecked
import Derived.Test.YtlppifnepckpiaaBvS
import Derived.Laws.EntriesVeiled
namespace Go.Proofs.Ytlppifnepckpiaa
open Go.RowKit

theorem settle1 (kind to x a : Int) (g : Nat) (v : Value) (w : World) (blk : Nat) (hlt : blk < w.heap.size)
    (h0 : w.cell? ⟨blk, 0, none⟩ = some (.int .i64 a))
    (hcf : ∀ args w, (callFunc g args).run Try.prog w = .ok (.enter g args) w)
    (hwork : ∀ w, Calls Try.prog g #[v] w fun e w' => e = .returned (.int .i64 x) ∧ Below w.heap.size w w') :
    Calls Try.prog 60 #[.int .i64 kind, .int .i64 to, .func (.func g) #[v] #[], .slice (some ⟨blk, 0, none⟩) 1 1] w
      fun e w' => e = .returned (.tuple #[.int .i64 (Bv.setv kind to x [a]), .bool (Bv.allv kind [a])]) ∧ Below w.heap.size w w' :=
  settle_any kind to x [a] g v w blk hlt (by
    intro j y h
    match j with
    | 0 => simp at h; subst h; exact h0
    | j + 1 => simp at h) (by simp) hcf hwork

theorem settle2 (kind to x a b : Int) (g : Nat) (v : Value) (w : World) (blk : Nat) (hlt : blk < w.heap.size)
    (h0 : w.cell? ⟨blk, 0, none⟩ = some (.int .i64 a)) (h1 : w.cell? ⟨blk, 1, none⟩ = some (.int .i64 b))
    (hcf : ∀ args w, (callFunc g args).run Try.prog w = .ok (.enter g args) w)
    (hwork : ∀ w, Calls Try.prog g #[v] w fun e w' => e = .returned (.int .i64 x) ∧ Below w.heap.size w w') :
    Calls Try.prog 60 #[.int .i64 kind, .int .i64 to, .func (.func g) #[v] #[], .slice (some ⟨blk, 0, none⟩) 2 2] w
      fun e w' => e = .returned (.tuple #[.int .i64 (Bv.setv kind to x [a, b]), .bool (Bv.allv kind [a, b])]) ∧ Below w.heap.size w w' :=
  settle_any kind to x [a, b] g v w blk hlt (by
    intro j y h
    match j with
    | 0 => simp at h; subst h; exact h0
    | 1 => simp at h; subst h; exact h1
    | j + 2 => simp at h) (by simp) hcf hwork

theorem enters_run1 (args : Array Value) (w : World) : (callFunc 61 args).run Try.prog w = .ok (.enter 61 args) w := enters Try.func61 (by kernel_rfl) rfl args w

theorem enters_run2 (args : Array Value) (w : World) : (callFunc 63 args).run Try.prog w = .ok (.enter 63 args) w := enters Try.func63 (by kernel_rfl) rfl args w

theorem enters_runc (args : Array Value) (w : World) : (callFunc 64 args).run Try.prog w = .ok (.enter 64 args) w := enters Try.func64 (by kernel_rfl) rfl args w

theorem enters_not (args : Array Value) (w : World) : (callFunc 66 args).run Try.prog w = .ok (.enter 66 args) w := enters Try.func66 (by kernel_rfl) rfl args w

theorem enters_neg (args : Array Value) (w : World) : (callFunc 67 args).run Try.prog w = .ok (.enter 67 args) w := enters Try.func67 (by kernel_rfl) rfl args w

theorem bel_more {w w1 w2 : World} {o p : Obj} (h1 : Below w.heap.size w w1) (h2 : Below ((w1.alloc o).alloc p).heap.size ((w1.alloc o).alloc p) w2) : Below w.heap.size w w2 :=
  (h1.trans ((bel2 w1 o p).mono h1.size)).trans (h2.mono (by have := h1.size; simp; omega))

/-- the row of an operation on one value -/
def rowU (op : Int) : Array Value := if op = 1 then #[.int .i64 3, .func (.func 66) #[] #[]] else if op = 2 then #[.int .i64 2, .func (.func 67) #[] #[]] else #[.int .i64 0, .nilFunc]

set_option maxHeartbeats 1000000 in
theorem unaryOf_any (op : Int) (w : World) :
    Calls Try.prog 58 #[.int .i64 op] w fun e w' => e = .returned (.agg (rowU op)) ∧ Below w.heap.size w w' := by
  have hcases : op < 0 ∨ 3 ≤ op ∨ op = 0 ∨ op = 1 ∨ op = 2 := by omega
  rcases hcases with h | h | h | h | h
  · have hr : rowU op = #[.int .i64 0, .nilFunc] := by unfold rowU; rw [if_neg (by omega), if_neg (by omega)]
    go_enter Try.func58, Try.ntmps58
    go_wp2
    exact bodyPost_ret (v := .agg (rowU op)) (by rw [hr]; simp [results, Try.results58, go_sem]) rfl ⟨rfl, bel2 _ _ _⟩
  · have hr : rowU op = #[.int .i64 0, .nilFunc] := by unfold rowU; rw [if_neg (by omega), if_neg (by omega)]
    go_enter Try.func58, Try.ntmps58
    go_wp2
    exact bodyPost_ret (v := .agg (rowU op)) (by rw [hr]; simp [results, Try.results58, go_sem]) rfl ⟨rfl, bel2 _ _ _⟩
  all_goals
    subst h
    go_enter Try.func58, Try.ntmps58
    go_wp2
    exact bodyPost_ret (v := .agg (rowU _)) (by simp [results, Try.results58, go_sem, rowU]) rfl ⟨rfl, bel2 _ _ _⟩

set_option maxHeartbeats 400000 in
theorem un_nil (op kind a : Int) (w : World) (hr : rowU op = #[.int .i64 0, .nilFunc]) :
    Calls Try.prog 49 #[.int .i64 op, .int .i64 kind, .int .i64 a] w fun e w' => e = .returned (.tuple #[.int .i64 0, .bool false]) ∧ Below w.heap.size w w' := by
  have HR : Hid (rowU op = #[.int .i64 0, .nilFunc]) := hr
  clear hr
  have ht : Bv.tks 0 kind = false := by simp [Bv.tks]
  go_enter Try.func49, Try.ntmps49
  go_wp2_with fail
  refine (unaryOf_any _ _).mono ?_
  rintro e w1 ⟨rfl, hb⟩
  rw [HR.out]
  go_wp2_with (go_at_call 59; refine (takes_any _ _ _).mono ?_; rintro e w' ⟨rfl, rfl⟩)
  go_ret2
  exact ⟨rfl, hb.alloc hb.size _⟩

set_option maxHeartbeats 400000 in
theorem un_no (op kind a o : Int) (f : Nat) (w : World) (hr : rowU op = #[.int .i64 o, .func (.func f) #[] #[]]) (ht : Bv.tks o kind = false) :
    Calls Try.prog 49 #[.int .i64 op, .int .i64 kind, .int .i64 a] w fun e w' => e = .returned (.tuple #[.int .i64 0, .bool false]) ∧ Below w.heap.size w w' := by
  have HR : Hid (rowU op = #[.int .i64 o, .func (.func f) #[] #[]]) := hr
  clear hr
  go_enter Try.func49, Try.ntmps49
  go_wp2_with fail
  refine (unaryOf_any _ _).mono ?_
  rintro e w1 ⟨rfl, hb⟩
  rw [HR.out]
  go_wp2_with (go_at_call 59; refine (takes_any _ _ _).mono ?_; rintro e w' ⟨rfl, rfl⟩)
  go_ret2
  exact ⟨rfl, hb.alloc hb.size _⟩

set_option maxHeartbeats 400000 in
theorem un_yes (op kind a o x : Int) (f : Nat) (w : World) (hr : rowU op = #[.int .i64 o, .func (.func f) #[] #[]]) (ht : Bv.tks o kind = true)
    (hcf : ∀ args w, (callFunc f args).run Try.prog w = .ok (.enter f args) w)
    (hf : ∀ w, Calls Try.prog f #[.agg #[.int .i64 kind, .int .i64 a]] w fun e w' => e = .returned (.int .i64 x) ∧ Below w.heap.size w w') :
    Calls Try.prog 49 #[.int .i64 op, .int .i64 kind, .int .i64 a] w fun e w' => e = .returned (.tuple #[.int .i64 (Bv.setv kind kind x [a]), .bool (Bv.allv kind [a])]) ∧ Below w.heap.size w w' := by
  have HR : Hid (rowU op = #[.int .i64 o, .func (.func f) #[] #[]]) := hr
  have HF : Hid (∀ w, Calls Try.prog f #[.agg #[.int .i64 kind, .int .i64 a]] w fun e w' => e = .returned (.int .i64 x) ∧ Below w.heap.size w w') := hf
  have HCF : Hid (∀ args w, (callFunc f args).run Try.prog w = .ok (.enter f args) w) := hcf
  clear hr hf hcf
  go_enter Try.func49, Try.ntmps49
  go_wp2_with fail
  refine (unaryOf_any _ _).mono ?_
  rintro e w1 ⟨rfl, hb⟩
  rw [HR.out]
  go_wp2_with (go_at_call 59; refine (takes_any _ _ _).mono ?_; rintro e w' ⟨rfl, rfl⟩)
  refine (settle1 kind kind x a 61 _ _ _ ?_ ?_ enters_run1 ?_).mono ?_
  · simp
  · simp
  · exact fun w => run1_any f kind a x w HCF.out HF.out
  rintro e w2 ⟨rfl, hb2⟩
  have hB := bel_more hb hb2
  clear hb hb2
  go_wp2
  go_ret2
  exact ⟨rfl, hB⟩

theorem un_any (op kind a : Int) (w : World) :
    Calls Try.prog 49 #[.int .i64 op, .int .i64 kind, .int .i64 a] w fun e w' => e = .returned (.tuple #[.int .i64 (Bv.unN op kind a), .bool (Bv.unB op kind a)]) ∧ Below w.heap.size w w' := by
  by_cases h1 : op = 1
  · subst h1
    have ho : Bv.ofU 1 = 3 := rfl
    cases ht : Bv.tks 3 kind with
    | false =>
      have e : Bv.unB 1 kind a = false := by simp [Bv.unB, ho, ht]
      have e' : Bv.unN 1 kind a = 0 := by simp [Bv.unN, e]
      rw [e, e']
      exact un_no 1 kind a 3 _ w rfl ht
    | true =>
      have e : Bv.unB 1 kind a = Bv.allv kind [a] := by simp [Bv.unB, ho, ht]
      have e' : Bv.unN 1 kind a = Bv.setv kind kind (bits .xor .i64 (-1) a) [a] := by simp [Bv.unN, e, Bv.setv, Bv.unV]
      rw [e, e']
      exact un_yes 1 kind a 3 _ _ w rfl ht enters_not (fun w => v_not kind a w)
  · by_cases h2 : op = 2
    · subst h2
      have ho : Bv.ofU 2 = 2 := rfl
      cases ht : Bv.tks 2 kind with
      | false =>
        have e : Bv.unB 2 kind a = false := by simp [Bv.unB, ho, ht]
        have e' : Bv.unN 2 kind a = 0 := by simp [Bv.unN, e]
        rw [e, e']
        exact un_no 2 kind a 2 _ w rfl ht
      | true =>
        have e : Bv.unB 2 kind a = Bv.allv kind [a] := by simp [Bv.unB, ho, ht]
        have e' : Bv.unN 2 kind a = Bv.setv kind kind (wrap64 (-a)) [a] := by simp [Bv.unN, e, Bv.setv, Bv.unV]
        rw [e, e']
        exact un_yes 2 kind a 2 _ _ w rfl ht enters_neg (fun w => v_neg kind a w)
    · have ho : Bv.ofU op = 0 := by simp [Bv.ofU, h1, h2]
      have e : Bv.unB op kind a = false := by simp [Bv.unB, ho, Bv.tks]
      have e' : Bv.unN op kind a = 0 := by simp [Bv.unN, e]
      rw [e, e']
      exact un_nil op kind a w (by simp [rowU, h1, h2])

set_option maxHeartbeats 400000 in
theorem cast_any (frm to a : Int) (w : World) :
    Calls Try.prog 51 #[.int .i64 frm, .int .i64 to, .int .i64 a] w fun e w' => e = .returned (.tuple #[.int .i64 (Bv.casN frm to a), .bool (Bv.casB frm to a)]) ∧ Below w.heap.size w w' := by
  by_cases hz : Bv.wid to = 0
  · have e : Bv.casB frm to a = false := by simp [Bv.casB, hz]
    have e' : Bv.casN frm to a = 0 := by simp [Bv.casN, e]
    rw [e, e']
    have hz' : (Bv.wid to == 0) = true := by simp [hz]
    clear e e' hz
    go_enter Try.func51, Try.ntmps51
    go_wp2_with (go_at_call 26; refine (width_any _ _).mono ?_; rintro e w' ⟨rfl, rfl⟩)
    go_ret2
    exact ⟨rfl, Below.refl _ _⟩
  · have hp : 0 < Bv.wid to := by unfold Bv.wid at hz ⊢; repeat' split; all_goals simp_all
    have e : Bv.casB frm to a = Bv.allv frm [a] := by simp [Bv.casB, hp]
    have e' : Bv.casN frm to a = Bv.setv frm to (if to = 1 then Bv.one (a != 0) else a) [a] := by simp [Bv.casN, e, Bv.setv]
    rw [e, e']
    have hz' : (Bv.wid to == 0) = false := by simp [hz]
    clear e e' hz hp
    generalize hx : (if to = 1 then Bv.one (a != 0) else a) = x
    have HX : Hid ((if to = 1 then Bv.one (a != 0) else a) = x) := hx
    clear hx
    go_enter Try.func51, Try.ntmps51
    go_wp2_with (go_at_call 26; refine (width_any _ _).mono ?_; rintro e w' ⟨rfl, rfl⟩)
    refine (settle1 frm to x a 64 _ _ _ ?_ ?_ enters_runc ?_).mono ?_
    · simp
    · simp
    · intro w; have h := runc_any to frm a w; rw [HX.out] at h; exact h
    rintro e w2 ⟨rfl, hb2⟩
    go_wp2
    go_ret2
    exact ⟨rfl, (bel1 _ _).trans (hb2.mono (by simp))⟩
end Go.Proofs.Ytlppifnepckpiaa
