/- Package code: hasCounts, hasOps. -/
import Derived.Test.YtlppifnepckpiaaCfL
namespace Go.Proofs.Ytlppifnepckpiaa
open Go.RowKit Go.Maps Go.WideMaps
open Cd (Kn)

theorem row_alloc {w : World} {h : Nat} {o : Obj} (hr : w.heap[h]? = some o) (q : Obj) : (w.alloc q).heap[h]? = some o := ((World.grownBy_alloc w q none).block _ (Array.getElem?_eq_some_iff.1 hr).1 (by simp)).trans hr
/-- counts that can be -/
abbrev Cnt (c : Cd.Code) : Prop := (0 ≤ c.ins ∧ c.ins ≤ c.kinds.length) ∧ (0 ≤ c.outs ∧ c.outs ≤ c.kinds.length) ∧ (0 ≤ c.cells ∧ c.cells ≤ c.kinds.length) ∧ 0 ≤ c.stack ∧ c.ins + c.outs + c.cells ≤ c.kinds.length

set_option maxHeartbeats 4000000 in
theorem hasCounts_any (w : World) (c : Cd.Code) (ka : Option Addr) (kc : Nat) (ia : Option Addr) (ic : Nat) (ba : Option Addr) (bc : Nat) (hm : c.kinds.length ≤ 8000) :
    Calls Try.prog 20 #[.agg (codeV c ka kc ia ic ba bc)] w fun e w' => e = .returned (.bool (decide (Cnt c))) ∧ w.grownBy w' none := by
  unfold codeV
  obtain ⟨D, hD⟩ : ∃ D : Bool, D = decide (Cnt c) := ⟨_, rfl⟩
  rw [← hD]
  have HDD := Lib.hid hD
  clear hD
  unfold Cnt at HDD
  obtain ⟨w1, hw1⟩ : ∃ w1, w1 = w.alloc (.cells #[.slice ka c.kinds.length kc, .int .i64 c.ins, .int .i64 c.outs, .int .i64 c.cells, .int .i64 c.stack, .slice ia c.init.length ic, .slice ba c.body.length bc] 30) := ⟨_, rfl⟩
  have hg1 : w.grownBy w1 none := by rw [hw1]; exact World.grownBy_alloc w _ none
  have hr1 : w1.heap[w.heap.size]? = some (.cells #[.slice ka c.kinds.length kc, .int .i64 c.ins, .int .i64 c.outs, .int .i64 c.cells, .int .i64 c.stack, .slice ia c.init.length ic, .slice ba c.body.length bc] 30 (0, 0)) := by rw [hw1]; exact heap_alloc_new w _
  have hs1 : w1.heap.size = w.heap.size + 1 := by rw [hw1, World.size_alloc]
  have hg2 := hg1.trans (World.grownBy_alloc w1 (.cells #[.int .i64 c.ins, .int .i64 c.outs, .int .i64 c.cells] 3) none)
  have hr2 := heap_alloc_new w1 (.cells #[.int .i64 c.ins, .int .i64 c.outs, .int .i64 c.cells] 3)
  have hr12 := row_alloc hr1 (.cells #[.int .i64 c.ins, .int .i64 c.outs, .int .i64 c.cells] 3)
  rw [hs1] at hr2
  rw [hw1] at hr2 hr12 hg2
  have HR := Lib.hid (And.intro hr2 (And.intro hr12 hg2))
  clear hw1 hg1 hr1 hs1 hg2 hr2 hr12 w1
  generalize c.kinds.length = K at *
  generalize c.body.length = B at *
  generalize c.init.length = I at *
  generalize c.stack = s at *
  generalize c.ins = ci at *
  generalize c.outs = co at *
  generalize c.cells = cc at *
  go_enter Try.func20, Try.ntmps20
  go_wp2
  go_loopw [13] (fun iv wr => ∃ t : Nat, t ≤ 3 ∧ iv = .int .i64 (t : Int) ∧ Hid ((∀ (j : Nat) (x : Int), j < t → [ci, co, cc][j]? = some x → 0 ≤ x ∧ x ≤ K) ∧ wr.heap[w.heap.size + 1]? = some (.cells #[.int .i64 ci, .int .i64 co, .int .i64 cc] 3 (0, 0)) ∧ wr.heap[w.heap.size]? = some (.cells #[.slice ka K kc, .int .i64 ci, .int .i64 co, .int .i64 cc, .int .i64 s, .slice ia I ic, .slice ba B bc] 30 (0, 0)) ∧ w.grownBy wr none)) (fun i _ => 3 - (intOf i).toNat)
  case atStart => exact ⟨0, Nat.zero_le _, rfl, Lib.hid ⟨fun j x h => by omega, HR.out⟩⟩
  case round =>
    obtain ⟨t, ht, rfl, HT⟩ := hrel
    have k0 := cell_of_row wr _ 0 _ _ _ HT.out.2.2.1
    by_cases hlt : t < 3
    · obtain ⟨x, hx⟩ : ∃ x, [ci, co, cc][t]? = some x := ⟨_, List.getElem?_eq_getElem (by simpa using hlt)⟩
      have p1 : wr.cell? ⟨w.heap.size + 1, t, none⟩ = some (.int .i64 x) := by
        unfold World.cell?
        rw [HT.out.2.1]
        rcases (show t = 0 ∨ t = 1 ∨ t = 2 by omega) with rfl | rfl | rfl <;> simp at hx <;> simp [hx]
      have HX := Lib.hid hx
      clear hx
      by_cases h0 : x < 0
      · have d0 : decide (x < 0) = true := by simpa using h0
        have HD : Hid (¬ ((0 ≤ ci ∧ ci ≤ K) ∧ (0 ≤ co ∧ co ≤ K) ∧ (0 ≤ cc ∧ cc ≤ K) ∧ 0 ≤ s ∧ ci + co + cc ≤ K)) := Lib.hid (by
          have := HX.out
          rcases (show t = 0 ∨ t = 1 ∨ t = 2 by omega) with rfl | rfl | rfl <;> simp at this <;> omega)
        go_wp2
        go_ret
        exact ⟨(by rw [HDD.out, decide_eq_false HD.out]; rfl), HT.out.2.2.2⟩
      · have d0 : decide (x < 0) = false := by simpa using h0
        by_cases h1 : (K : Int) < x
        · have d1 : decide ((K : Int) < x) = true := by simpa using h1
          have HD : Hid (¬ ((0 ≤ ci ∧ ci ≤ K) ∧ (0 ≤ co ∧ co ≤ K) ∧ (0 ≤ cc ∧ cc ≤ K) ∧ 0 ≤ s ∧ ci + co + cc ≤ K)) := Lib.hid (by
            have := HX.out
            rcases (show t = 0 ∨ t = 1 ∨ t = 2 by omega) with rfl | rfl | rfl <;> simp at this <;> omega)
          go_wp2
          go_ret
          exact ⟨(by rw [HDD.out, decide_eq_false HD.out]; rfl), HT.out.2.2.2⟩
        · have d1 : decide ((K : Int) < x) = false := by simpa using h1
          go_wp2
          refine ⟨⟨t + 1, by omega, by go_num, Lib.hid ⟨fun j y hj hy => ?_, HT.out.2⟩⟩, by simp [intOf]; omega⟩
          rcases Nat.lt_or_ge j t with h | h
          · exact HT.out.1 j y h hy
          · obtain rfl : j = t := by omega
            rw [HX.out] at hy
            obtain rfl := Option.some.inj hy
            omega
    · obtain rfl : t = 3 := by omega
      have i0 := HT.out.1 0 ci (by omega) rfl
      have i1 := HT.out.1 1 co (by omega) rfl
      have i2 := HT.out.1 2 cc (by omega) rfl
      have k1 := cell_of_row wr _ 1 _ _ _ HT.out.2.2.1
      have k2 := cell_of_row wr _ 2 _ _ _ HT.out.2.2.1
      have k3 := cell_of_row wr _ 3 _ _ _ HT.out.2.2.1
      have k4 := cell_of_row wr _ 4 _ _ _ HT.out.2.2.1
      have e1 : wrap64 (ci + co) = ci + co := by unfold wrap64; omega
      have e2 : wrap64 (ci + co + cc) = ci + co + cc := by unfold wrap64; omega
      by_cases h0 : 0 ≤ s
      · have d0 : decide (0 ≤ s) = true := by simpa using h0
        have HD : Hid (decide ((0 ≤ ci ∧ ci ≤ K) ∧ (0 ≤ co ∧ co ≤ K) ∧ (0 ≤ cc ∧ cc ≤ K) ∧ 0 ≤ s ∧ ci + co + cc ≤ K) = decide (ci + co + cc ≤ (K : Int))) := Lib.hid (by
          rw [decide_eq_decide]
          omega)
        clear i0 i1 i2
        go_wp2
        go_ret
        exact ⟨(by rw [HDD.out, HD.out]; rfl), HT.out.2.2.2⟩
      · have d0 : decide (0 ≤ s) = false := by simpa using h0
        have HD : Hid (¬ ((0 ≤ ci ∧ ci ≤ K) ∧ (0 ≤ co ∧ co ≤ K) ∧ (0 ≤ cc ∧ cc ≤ K) ∧ 0 ≤ s ∧ ci + co + cc ≤ K)) := Lib.hid (by omega)
        clear i0 i1 i2
        go_wp2
        go_ret
        exact ⟨(by rw [HDD.out, decide_eq_false HD.out]; rfl), HT.out.2.2.2⟩

/-- instructions whose Op is one, the last an IEnd -/
def opsB (b : List Cd.Ins) : Bool := (b.all fun x => decide (1 ≤ x.op) && decide (x.op ≤ 9)) && (match b.getLast? with | none => false | some x => x.op == 9)
theorem opsB_no {b : List Cd.Ins} {t : Nat} {x : Cd.Ins} (hx : b[t]? = some x) (h : x.op < 1 ∨ 9 < x.op) : opsB b = false := by
  have : (b.all fun x => decide (1 ≤ x.op) && decide (x.op ≤ 9)) = false := by
    rw [List.all_eq_false]
    exact ⟨x, List.mem_iff_getElem?.2 ⟨_, hx⟩, by simp; omega⟩
  unfold opsB
  rw [this, Bool.false_and]

set_option maxHeartbeats 4000000 in
theorem hasOps_any (w : World) (c : Cd.Code) (ka : Option Addr) (kc : Nat) (ia : Option Addr) (ic : Nat) (ba : Option Addr) (bc : Nat) (hn : InssAt w ba c.body) (hm : c.body.length ≤ 60000) :
    Calls Try.prog 23 #[.agg (codeV c ka kc ia ic ba bc)] w fun e w' => e = .returned (.bool (opsB c.body)) ∧ w.grownBy w' none := by
  unfold codeV
  have hg := World.grownBy_alloc w (.cells #[.slice ka c.kinds.length kc, .int .i64 c.ins, .int .i64 c.outs, .int .i64 c.cells, .int .i64 c.stack, .slice ia c.init.length ic, .slice ba c.body.length bc] 30) none
  have hr := heap_alloc_new w (.cells #[.slice ka c.kinds.length kc, .int .i64 c.ins, .int .i64 c.outs, .int .i64 c.cells, .int .i64 c.stack, .slice ia c.init.length ic, .slice ba c.body.length bc] 30)
  have hz := World.size_alloc w (.cells #[.slice ka c.kinds.length kc, .int .i64 c.ins, .int .i64 c.outs, .int .i64 c.cells, .int .i64 c.stack, .slice ia c.init.length ic, .slice ba c.body.length bc] 30)
  have HG := Lib.hid (And.intro hg (And.intro hr (Nat.le_of_eq hz.symm)))
  have HN := Lib.hid hn
  clear hg hn hr hz
  obtain ⟨l, hl⟩ : ∃ l, l = c.body := ⟨_, rfl⟩
  rw [← hl] at HN hm HG ⊢
  clear hl
  obtain ⟨B, hB⟩ : ∃ B, B = l.length := ⟨_, rfl⟩
  rw [← hB] at hm HG ⊢
  have HB := Lib.hid hB
  clear hB
  generalize c.kinds.length = K at *
  generalize c.init.length = I at *
  generalize c.stack = s at *
  generalize c.ins = ci at *
  generalize c.outs = co at *
  generalize c.cells = cc at *
  go_enter Try.func23, Try.ntmps23
  go_wp2
  go_loopw [8] (fun iv wr => ∃ t : Nat, t ≤ B ∧ iv = .int .i64 (t : Int) ∧ Hid ((l.take t).all (fun x => decide (1 ≤ x.op) && decide (x.op ≤ 9)) = true ∧ w.grownBy wr none ∧ wr.heap[w.heap.size]? = some (.cells #[.slice ka K kc, .int .i64 ci, .int .i64 co, .int .i64 cc, .int .i64 s, .slice ia I ic, .slice ba B bc] 30 (0, 0)) ∧ w.heap.size + 1 ≤ wr.heap.size)) (fun i _ => B - (intOf i).toNat)
  case atStart => exact ⟨0, Nat.zero_le _, rfl, Lib.hid ⟨by simp, HG.out⟩⟩
  case round =>
    obtain ⟨t, ht, rfl, HT⟩ := hrel
    by_cases hlt : t < B
    · obtain ⟨x, hx⟩ : ∃ x, l[t]? = some x := ⟨_, List.getElem?_eq_getElem (by rw [← HB.out]; exact hlt)⟩
      obtain ⟨b1, o1, rfl, hc1, hc2, hc3⟩ := HN.out t x hx
      have p1 := HT.out.2.1.cell hc1 (by simp)
      have p2 := HT.out.2.1.cell hc2 (by simp)
      have p3 := HT.out.2.1.cell hc3 (by simp)
      have HX := Lib.hid hx
      clear hx hc1 hc2 hc3
      obtain ⟨xo, xn, xk⟩ := x
      simp only at p1 p2 p3
      by_cases h1 : xo < 1
      · have d1 : decide (xo < 1) = true := by simpa using h1
        go_wp2
        go_ret
        exact ⟨(by rw [opsB_no HX.out (.inl h1)]; rfl), HT.out.2.1.trans (World.grownBy_alloc wr _ none)⟩
      · have d1 : decide (xo < 1) = false := by simpa using h1
        by_cases h9 : 9 < xo
        · have d9 : decide (9 < xo) = true := by simpa using h9
          go_wp2
          go_ret
          exact ⟨(by rw [opsB_no HX.out (.inr h9)]; rfl), HT.out.2.1.trans (World.grownBy_alloc wr _ none)⟩
        · have d9 : decide (9 < xo) = false := by simpa using h9
          go_wp2
          refine ⟨⟨t + 1, by omega, by go_num, Lib.hid ⟨?_, HT.out.2.1.trans (World.grownBy_alloc wr _ none), row_alloc HT.out.2.2.1 _, by have := HT.out.2.2.2; rw [World.size_alloc]; omega⟩⟩, by simp [intOf]; omega⟩
          rw [List.take_add_one, List.all_append, HX.out, HT.out.1]
          simp
          omega
    · obtain rfl : t = B := by omega
      have k6 := cell_of_row wr _ 6 _ _ _ HT.out.2.2.1
      have hall : (l.all fun x => decide (1 ≤ x.op) && decide (x.op ≤ 9)) = true := by
        have := HT.out.1
        rw [HB.out, List.take_length] at this
        exact this
      by_cases h0 : t = 0
      · subst h0
        have HD : Hid (opsB l = false) := Lib.hid (by
          have : l = [] := List.eq_nil_of_length_eq_zero HB.out.symm
          rw [this]; rfl)
        clear hall
        go_wp2
        go_ret
        exact ⟨(by rw [HD.out]; rfl), HT.out.2.1⟩
      · obtain ⟨m, rfl⟩ : ∃ m, t = m + 1 := ⟨t - 1, by omega⟩
        obtain ⟨x, hx⟩ : ∃ x, l[m]? = some x := ⟨_, List.getElem?_eq_getElem (by rw [← HB.out]; omega)⟩
        obtain ⟨b1, o1, rfl, hc1, -, -⟩ := HN.out m x hx
        have p1 := HT.out.2.1.cell hc1 (by simp)
        have HD : Hid (opsB l = (x.op == 9)) := Lib.hid (by
          unfold opsB
          rw [hall, List.getLast?_eq_getElem?, ← HB.out, Nat.add_sub_cancel, hx]
          rfl)
        have ew : wrap64 (((m + 1 : Nat) : Int) - 1) = (m : Int) := by unfold wrap64; omega
        have ew2 : wrap64 ((m : Int) + 1 - 1) = (m : Int) := by unfold wrap64; omega
        have d0 : decide (0 < ((m + 1 : Nat) : Int)) = true := by rw [decide_eq_true_iff]; omega
        have d02 : decide (0 < (m : Int) + 1) = true := by rw [decide_eq_true_iff]; omega
        clear hall hx hc1
        obtain ⟨xo, hxo⟩ : ∃ xo, xo = x.op := ⟨_, rfl⟩
        rw [← hxo] at HD p1
        clear hxo
        go_wp2
        go_ret
        exact ⟨(by rw [HD.out]; rfl), HT.out.2.1⟩
end Go.Proofs.Ytlppifnepckpiaa
