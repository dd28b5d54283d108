/- The walks of bv's tasks and of settle: an operation is run on its values once these are known to be values of their kind, and what it answers is wrapped; of the memory that was there nothing turns. -/
import Derived.Test.YtlppifnepckpiaaChecked
import Derived.Test.YtlppifnepckpiaaBvV
namespace Go.Proofs.Ytlppifnepckpiaa
open Go.RowKit

/-- what a call of the function number f is: it is entered (it has a body) -/
theorem enters {f : FuncId} {fn : Func} {c : Code} (hf : Try.prog.funcs[f]? = some fn) (hname : (fn.name == "runtime.NumGoroutine") = false) (hb : fn.body = some c) (args : Array Value) (w : World) :
    (callFunc f args).run Try.prog w = .ok (.enter f args) w := by
  have hn : ¬ fn.name = "runtime.NumGoroutine" := by simpa using hname
  simp [callFunc, hf, hn, hb]

set_option maxHeartbeats 400000 in
theorem run2_any (f : Nat) (k a l b x : Int) (w : World) (hcf : ∀ args w, (callFunc f args).run Try.prog w = .ok (.enter f args) w)
    (hf : ∀ w, Calls Try.prog f #[.agg #[.int .i64 k, .int .i64 a], .agg #[.int .i64 l, .int .i64 b]] w fun e w' => e = .returned (.int .i64 x) ∧ Below w.heap.size w w') :
    Calls Try.prog 63 #[.agg #[.func (.func f) #[] #[], .int .i64 k, .int .i64 a, .int .i64 l, .int .i64 b]] w fun e w' => e = .returned (.int .i64 x) ∧ Below w.heap.size w w' := by
  have H : Hid (∀ w, Calls Try.prog f #[.agg #[.int .i64 k, .int .i64 a], .agg #[.int .i64 l, .int .i64 b]] w fun e w' => e = .returned (.int .i64 x) ∧ Below w.heap.size w w') := hf
  clear hf
  go_enter Try.func63, Try.ntmps63
  go_wp2
  refine (H.out _).mono ?_
  rintro e w' ⟨rfl, hb⟩
  go_wp2
  go_ret
  exact ⟨rfl, (bel1 w _).trans (hb.mono (by simp))⟩

set_option maxHeartbeats 400000 in
theorem run1_any (f : Nat) (k a x : Int) (w : World) (hcf : ∀ args w, (callFunc f args).run Try.prog w = .ok (.enter f args) w)
    (hf : ∀ w, Calls Try.prog f #[.agg #[.int .i64 k, .int .i64 a]] w fun e w' => e = .returned (.int .i64 x) ∧ Below w.heap.size w w') :
    Calls Try.prog 61 #[.agg #[.func (.func f) #[] #[], .int .i64 k, .int .i64 a]] w fun e w' => e = .returned (.int .i64 x) ∧ Below w.heap.size w w' := by
  have H : Hid (∀ w, Calls Try.prog f #[.agg #[.int .i64 k, .int .i64 a]] w fun e w' => e = .returned (.int .i64 x) ∧ Below w.heap.size w w') := hf
  clear hf
  go_enter Try.func61, Try.ntmps61
  go_wp2
  refine (H.out _).mono ?_
  rintro e w' ⟨rfl, hb⟩
  go_wp2
  go_ret
  exact ⟨rfl, (bel1 w _).trans (hb.mono (by simp))⟩

set_option maxHeartbeats 400000 in
theorem runc_any (to k a : Int) (w : World) :
    Calls Try.prog 64 #[.agg #[.int .i64 to, .int .i64 k, .int .i64 a]] w fun e w' => e = .returned (.int .i64 (if to = 1 then Bv.one (a != 0) else a)) ∧ Below w.heap.size w w' := by
  by_cases ht : to = 1
  · subst ht
    rcases Bool.eq_false_or_eq_true (a != 0) with ha | ha
    all_goals
      go_enter Try.func64, Try.ntmps64
      go_wp2
      go_ret
      exact ⟨ret_int (by simp [Bv.one]), bel1 _ _⟩
  · have h0 : (to == 1) = false := by simpa using ht
    go_enter Try.func64, Try.ntmps64
    go_wp2
    go_ret
    exact ⟨ret_int (by simp), bel1 _ _⟩

theorem all_take {p : Int → Bool} {xs : List Int} {k : Nat} (h : (xs.take k).all p = true) (hk : k < xs.length) (hp : p xs[k] = true) : (xs.take (k + 1)).all p = true := by
  rw [List.take_succ_eq_append_getElem hk, List.all_append, h]
  simp [hp]

set_option maxHeartbeats 400000 in
theorem settle_any (kind to x : Int) (xs : List Int) (g : Nat) (v : Value) (w : World) (blk : Nat) (hlt : blk < w.heap.size)
    (hc : ∀ j y, xs[j]? = some y → w.cell? ⟨blk, j, none⟩ = some (.int .i64 y)) (hl : xs.length ≤ 2)
    (hcf : ∀ args w, (callFunc g args).run Try.prog w = .ok (.enter g args) w)
    (hwork : ∀ w, Calls Try.prog g #[v] w fun e w' => e = .returned (.int .i64 x) ∧ Below w.heap.size w w') :
    Calls Try.prog 60 #[.int .i64 kind, .int .i64 to, .func (.func g) #[v] #[], .slice (some ⟨blk, 0, none⟩) xs.length xs.length] w
      fun e w' => e = .returned (.tuple #[.int .i64 (Bv.setv kind to x xs), .bool (Bv.allv kind xs)]) ∧ Below w.heap.size w w' := by
  have H : Hid (∀ w, Calls Try.prog g #[v] w fun e w' => e = .returned (.int .i64 x) ∧ Below w.heap.size w w') := hwork
  have HC : Hid (∀ j y, xs[j]? = some y → w.cell? ⟨blk, j, none⟩ = some (.int .i64 y)) := hc
  clear hwork hc
  go_enter Try.func60, Try.ntmps60
  go_wp2
  go_loop [14] (fun i => ∃ k : Nat, k ≤ xs.length ∧ i = .int .i64 k ∧ (xs.take k).all (Bv.isv kind) = true) (fun i => xs.length - (intOf i).toNat)
  case atStart => exact ⟨0, Nat.zero_le _, rfl, rfl⟩
  case round =>
    obtain ⟨k, hk, rfl, ha⟩ := hrel
    have HA : Hid ((xs.take k).all (Bv.isv kind) = true) := ha
    clear ha
    by_cases hlt2 : k < xs.length
    · have hcell := HC.out k xs[k] (List.getElem?_eq_getElem hlt2)
      generalize hy : xs[k] = y at hcell
      have HY : Hid (xs[k] = y) := hy
      clear hy
      rcases Bool.eq_false_or_eq_true (Bv.isv kind y) with hv | hv
      · go_wp2_with (go_at_call 18; refine (is_any _ _ _).mono ?_; rintro e w' ⟨rfl, rfl⟩)
        exact ⟨⟨k + 1, by omega, by go_num, all_take HA.out hlt2 (by rw [HY.out]; exact hv)⟩, by simp [intOf]; omega⟩
      · have hf : Bv.allv kind xs = false := by
          unfold Bv.allv
          rw [List.all_eq_false]
          exact ⟨xs[k], List.getElem_mem hlt2, by rw [HY.out, hv]; decide⟩
        have hs : Bv.setv kind to x xs = 0 := by simp [Bv.setv, hf]
        go_wp2_with (go_at_call 18; refine (is_any _ _ _).mono ?_; rintro e w' ⟨rfl, rfl⟩)
        go_ret2
        exact ⟨by rw [hs, hf]; rfl, Below.refl _ _⟩
    · have ht : Bv.allv kind xs = true := by
        have h := HA.out
        rw [List.take_of_length_le (by omega)] at h
        exact h
      have hs : Bv.setv kind to x xs = Bv.wrp to x := by simp [Bv.setv, ht]
      have HS : Hid (Bv.setv kind to x xs = Bv.wrp to x) := hs
      have HT : Hid (Bv.allv kind xs = true) := ht
      clear hs ht
      go_wp2_with fail
      refine (H.out _).mono ?_
      rintro e w1 ⟨rfl, hb⟩
      go_wp2_with (go_at_call 27; refine (wrap_any _ _ _).mono ?_; rintro e w' ⟨rfl, rfl⟩)
      go_ret2
      exact ⟨by rw [HS.out, HT.out]; rfl, hb⟩
end Go.Proofs.Ytlppifnepckpiaa
