/- Texts joined: CfL, CfM, CfN, CfO, CfP, CfQ, CfR. -/
import Derived.Test.YtfbhflpjhbemlaaGreatJnE
import Derived.Test.YtfbhflpjhbemlaaGreatJnD
/- Package code: isShort, hasCounts, hasKinds. -/
namespace Go.Proofs.YtfbhflpjhbemlaaGreat
open Go.RowKit Go.Maps Go.WideMaps
open Cd (Kn)

theorem len63 {n : Nat} (h : n ≤ maxLen) : n ≤ 9223372036854775807 := by simpa [maxLen] using h

set_option maxHeartbeats 2000000 in
theorem isShort_any (w : World) (c : Cd.Code) (ka : Option Addr) (kc : Nat) (ia : Option Addr) (ic : Nat) (ba : Option Addr) (bc : Nat) :
    Calls Tryz.prog 17 #[.agg (codeV c ka kc ia ic ba bc)] w fun e w' => e = .returned (.bool (!decide (60000 < c.body.length ∨ 8000 < c.kinds.length ∨ 64 < c.stack))) ∧ w.grownBy w' none := by
  unfold codeV
  have hg := World.grownBy_alloc w (.cells #[.slice ka c.kinds.length kc, .int .i64 c.ins, .int .i64 c.outs, .int .i64 c.cells, .int .i64 c.stack, .slice ia c.init.length ic, .slice ba c.body.length bc] 27) none
  have HG := Lib.hid hg
  clear hg
  generalize c.kinds.length = K at *
  generalize c.body.length = B at *
  generalize c.init.length = I at *
  generalize c.stack = s at *
  generalize c.ins = ci at *
  generalize c.outs = co at *
  generalize c.cells = cc at *
  by_cases h1 : B ≤ 60000
  · have d1 : decide ((B : Int) ≤ 60000) = true := by rw [decide_eq_true_iff]; omega
    by_cases h2 : K ≤ 8000
    · have d2 : decide ((K : Int) ≤ 8000) = true := by rw [decide_eq_true_iff]; omega
      have e : (!decide (60000 < B ∨ 8000 < K ∨ 64 < s)) = decide (s ≤ 64) := by
        by_cases h3 : s ≤ 64
        · rw [decide_eq_true h3, decide_eq_false (by omega)]; rfl
        · rw [decide_eq_false h3, decide_eq_true (by omega)]; rfl
      rw [e]
      go_enter Tryz.func17, Tryz.ntmps17
      go_wp2
      go_ret
      exact ⟨rfl, HG.out⟩
    · have d2 : decide ((K : Int) ≤ 8000) = false := by rw [decide_eq_false_iff_not]; omega
      rw [decide_eq_true (show 60000 < B ∨ 8000 < K ∨ 64 < s by omega)]
      go_enter Tryz.func17, Tryz.ntmps17
      go_wp2
      go_ret
      exact ⟨rfl, HG.out⟩
  · have d1 : decide ((B : Int) ≤ 60000) = false := by rw [decide_eq_false_iff_not]; omega
    rw [decide_eq_true (show 60000 < B ∨ 8000 < K ∨ 64 < s by omega)]
    go_enter Tryz.func17, Tryz.ntmps17
    go_wp2
    go_ret
    exact ⟨rfl, HG.out⟩

set_option maxHeartbeats 2000000 in
theorem hasKinds_any (w : World) (c : Cd.Code) (ka : Option Addr) (kc : Nat) (ia : Option Addr) (ic : Nat) (ba : Option Addr) (bc : Nat) (hn : NumsAt w ka c.kinds) (hm : c.kinds.length ≤ maxLen) :
    Calls Tryz.prog 30 #[.agg (codeV c ka kc ia ic ba bc)] w fun e w' => e = .returned (.bool (c.kinds.all fun k => decide (0 < Bv.wid k))) ∧ w.grownBy w' none := by
  unfold codeV
  have hg := World.grownBy_alloc w (.cells #[.slice ka c.kinds.length kc, .int .i64 c.ins, .int .i64 c.outs, .int .i64 c.cells, .int .i64 c.stack, .slice ia c.init.length ic, .slice ba c.body.length bc] 27) none
  have HG := Lib.hid hg
  have HN := Lib.hid hn
  have hm := len63 hm
  clear hg hn
  obtain ⟨l, hl⟩ : ∃ l, l = c.kinds := ⟨_, rfl⟩
  rw [← hl] at HN hm HG ⊢
  clear hl
  obtain ⟨K, hK⟩ : ∃ K, K = l.length := ⟨_, rfl⟩
  rw [← hK] at hm HG ⊢
  have HK := Lib.hid hK
  clear hK
  generalize c.body.length = B at *
  generalize c.init.length = I at *
  generalize c.stack = s at *
  generalize c.ins = ci at *
  generalize c.outs = co at *
  generalize c.cells = cc at *
  have hkd := fun x V => isKind_any x V
  go_enter Tryz.func30, Tryz.ntmps30
  go_wp2
  go_loopw [8] (fun iv wr => ∃ t : Nat, t ≤ K ∧ iv = .int .i64 (t : Int) ∧ Hid ((l.take t).all (fun k => decide (0 < Bv.wid k)) = true ∧ w.grownBy wr none)) (fun i _ => K - (intOf i).toNat)
  case atStart => exact ⟨0, Nat.zero_le _, rfl, Lib.hid ⟨by simp, HG.out⟩⟩
  case round =>
    obtain ⟨t, ht, rfl, HT⟩ := hrel
    by_cases hlt : t < K
    · obtain ⟨x, hx⟩ : ∃ x, l[t]? = some x := ⟨_, List.getElem?_eq_getElem (by rw [← HK.out]; exact hlt)⟩
      obtain ⟨b1, o1, rfl, hc1⟩ := HN.out t x hx
      have p1 := HT.out.2.cell hc1 (by simp)
      have HX := Lib.hid hx
      clear hx hc1
      have hkx := fun V => hkd x V
      by_cases hxy : 0 < Bv.wid x
      · have e2 : decide (0 < Bv.wid x) = true := by simpa using hxy
        have HXY := Lib.hid e2
        simp only [e2] at hkx
        clear hxy e2
        go_wp2_with (go_at_call 43; refine (hkx _).mono ?_; rintro e w' ⟨rfl, hw'⟩; obtain rfl := hw'.symm)
        refine ⟨⟨t + 1, by omega, by go_num, Lib.hid ⟨?_, HT.out.2⟩⟩, by simp [intOf]; omega⟩
        rw [List.take_add_one, List.all_append, HX.out, HT.out.1]
        simp [HXY.out]
      · have e2 : decide (0 < Bv.wid x) = false := by simpa using hxy
        have HD : Hid ((l.all fun k => decide (0 < Bv.wid k)) = false) := Lib.hid (by
          rw [List.all_eq_false]
          exact ⟨x, List.mem_iff_getElem?.2 ⟨_, HX.out⟩, by simpa using e2⟩)
        simp only [e2] at hkx
        clear hxy e2
        go_wp2_with (go_at_call 43; refine (hkx _).mono ?_; rintro e w' ⟨rfl, hw'⟩; obtain rfl := hw'.symm)
        go_ret
        exact ⟨(by rw [HD.out]; rfl), HT.out.2⟩
    · obtain rfl : t = K := by omega
      have HD : Hid ((l.all fun k => decide (0 < Bv.wid k)) = true) := Lib.hid (by
        have := HT.out.1
        rw [HK.out, List.take_length] at this
        exact this)
      go_wp2
      go_ret
      exact ⟨(by rw [HD.out]; rfl), HT.out.2⟩
end Go.Proofs.YtfbhflpjhbemlaaGreat

/- Package code: hasCounts, hasOps. -/
namespace Go.Proofs.YtfbhflpjhbemlaaGreat
open Go.RowKit Go.Maps Go.WideMaps
open Cd (Kn)

theorem row_alloc {w : World} {h : Nat} {o : Obj} (hr : w.heap[h]? = some o) (q : Obj) : (w.alloc q).heap[h]? = some o := ((World.grownBy_alloc w q none).block _ (Array.getElem?_eq_some_iff.1 hr).1 (by simp)).trans hr
/-- counts that can be -/
abbrev Cnt (c : Cd.Code) : Prop := (0 ≤ c.ins ∧ c.ins ≤ c.kinds.length) ∧ (0 ≤ c.outs ∧ c.outs ≤ c.kinds.length) ∧ (0 ≤ c.cells ∧ c.cells ≤ c.kinds.length) ∧ 0 ≤ c.stack ∧ c.ins + c.outs + c.cells ≤ c.kinds.length

set_option maxHeartbeats 4000000 in
theorem hasCounts_any (w : World) (c : Cd.Code) (ka : Option Addr) (kc : Nat) (ia : Option Addr) (ic : Nat) (ba : Option Addr) (bc : Nat) (hm : c.kinds.length ≤ 8000) :
    Calls Tryz.prog 29 #[.agg (codeV c ka kc ia ic ba bc)] w fun e w' => e = .returned (.bool (decide (Cnt c))) ∧ w.grownBy w' none := by
  unfold codeV
  obtain ⟨D, hD⟩ : ∃ D : Bool, D = decide (Cnt c) := ⟨_, rfl⟩
  rw [← hD]
  have HDD := Lib.hid hD
  clear hD
  unfold Cnt at HDD
  obtain ⟨w1, hw1⟩ : ∃ w1, w1 = w.alloc (.cells #[.slice ka c.kinds.length kc, .int .i64 c.ins, .int .i64 c.outs, .int .i64 c.cells, .int .i64 c.stack, .slice ia c.init.length ic, .slice ba c.body.length bc] 27) := ⟨_, rfl⟩
  have hg1 : w.grownBy w1 none := by rw [hw1]; exact World.grownBy_alloc w _ none
  have hr1 : w1.heap[w.heap.size]? = some (.cells #[.slice ka c.kinds.length kc, .int .i64 c.ins, .int .i64 c.outs, .int .i64 c.cells, .int .i64 c.stack, .slice ia c.init.length ic, .slice ba c.body.length bc] 27 (0, 0)) := by rw [hw1]; exact heap_alloc_new w _
  have hs1 : w1.heap.size = w.heap.size + 1 := by rw [hw1, World.size_alloc]
  have hg2 := hg1.trans (World.grownBy_alloc w1 (.cells #[.int .i64 c.ins, .int .i64 c.outs, .int .i64 c.cells] 3) none)
  have hr2 := heap_alloc_new w1 (.cells #[.int .i64 c.ins, .int .i64 c.outs, .int .i64 c.cells] 3)
  have hr12 := row_alloc hr1 (.cells #[.int .i64 c.ins, .int .i64 c.outs, .int .i64 c.cells] 3)
  rw [hs1] at hr2
  rw [hw1] at hr2 hr12 hg2
  have HR := Lib.hid (And.intro hr2 (And.intro hr12 hg2))
  clear hw1 hg1 hr1 hs1 hg2 hr2 hr12 w1
  generalize c.kinds.length = K at *
  generalize c.body.length = B at *
  generalize c.init.length = I at *
  generalize c.stack = s at *
  generalize c.ins = ci at *
  generalize c.outs = co at *
  generalize c.cells = cc at *
  go_enter Tryz.func29, Tryz.ntmps29
  go_wp2
  go_loopw [13] (fun iv wr => ∃ t : Nat, t ≤ 3 ∧ iv = .int .i64 (t : Int) ∧ Hid ((∀ (j : Nat) (x : Int), j < t → [ci, co, cc][j]? = some x → 0 ≤ x ∧ x ≤ K) ∧ wr.heap[w.heap.size + 1]? = some (.cells #[.int .i64 ci, .int .i64 co, .int .i64 cc] 3 (0, 0)) ∧ wr.heap[w.heap.size]? = some (.cells #[.slice ka K kc, .int .i64 ci, .int .i64 co, .int .i64 cc, .int .i64 s, .slice ia I ic, .slice ba B bc] 27 (0, 0)) ∧ w.grownBy wr none)) (fun i _ => 3 - (intOf i).toNat)
  case atStart => exact ⟨0, Nat.zero_le _, rfl, Lib.hid ⟨fun j x h => by omega, HR.out⟩⟩
  case round =>
    obtain ⟨t, ht, rfl, HT⟩ := hrel
    have k0 := cell_of_row wr _ 0 _ _ _ HT.out.2.2.1
    by_cases hlt : t < 3
    · obtain ⟨x, hx⟩ : ∃ x, [ci, co, cc][t]? = some x := ⟨_, List.getElem?_eq_getElem (by simpa using hlt)⟩
      have p1 : wr.cell? ⟨w.heap.size + 1, t, none⟩ = some (.int .i64 x) := by
        unfold World.cell?
        rw [HT.out.2.1]
        rcases (show t = 0 ∨ t = 1 ∨ t = 2 by omega) with rfl | rfl | rfl <;> simp at hx <;> simp [hx]
      have HX := Lib.hid hx
      clear hx
      by_cases h0 : x < 0
      · have d0 : decide (x < 0) = true := by simpa using h0
        have HD : Hid (¬ ((0 ≤ ci ∧ ci ≤ K) ∧ (0 ≤ co ∧ co ≤ K) ∧ (0 ≤ cc ∧ cc ≤ K) ∧ 0 ≤ s ∧ ci + co + cc ≤ K)) := Lib.hid (by
          have := HX.out
          rcases (show t = 0 ∨ t = 1 ∨ t = 2 by omega) with rfl | rfl | rfl <;> simp at this <;> omega)
        go_wp2
        go_ret
        exact ⟨(by rw [HDD.out, decide_eq_false HD.out]; rfl), HT.out.2.2.2⟩
      · have d0 : decide (x < 0) = false := by simpa using h0
        by_cases h1 : (K : Int) < x
        · have d1 : decide ((K : Int) < x) = true := by simpa using h1
          have HD : Hid (¬ ((0 ≤ ci ∧ ci ≤ K) ∧ (0 ≤ co ∧ co ≤ K) ∧ (0 ≤ cc ∧ cc ≤ K) ∧ 0 ≤ s ∧ ci + co + cc ≤ K)) := Lib.hid (by
            have := HX.out
            rcases (show t = 0 ∨ t = 1 ∨ t = 2 by omega) with rfl | rfl | rfl <;> simp at this <;> omega)
          go_wp2
          go_ret
          exact ⟨(by rw [HDD.out, decide_eq_false HD.out]; rfl), HT.out.2.2.2⟩
        · have d1 : decide ((K : Int) < x) = false := by simpa using h1
          go_wp2
          refine ⟨⟨t + 1, by omega, by go_num, Lib.hid ⟨fun j y hj hy => ?_, HT.out.2⟩⟩, by simp [intOf]; omega⟩
          rcases Nat.lt_or_ge j t with h | h
          · exact HT.out.1 j y h hy
          · obtain rfl : j = t := by omega
            rw [HX.out] at hy
            obtain rfl := Option.some.inj hy
            omega
    · obtain rfl : t = 3 := by omega
      have i0 := HT.out.1 0 ci (by omega) rfl
      have i1 := HT.out.1 1 co (by omega) rfl
      have i2 := HT.out.1 2 cc (by omega) rfl
      have k1 := cell_of_row wr _ 1 _ _ _ HT.out.2.2.1
      have k2 := cell_of_row wr _ 2 _ _ _ HT.out.2.2.1
      have k3 := cell_of_row wr _ 3 _ _ _ HT.out.2.2.1
      have k4 := cell_of_row wr _ 4 _ _ _ HT.out.2.2.1
      have e1 : wrap64 (ci + co) = ci + co := by unfold wrap64; omega
      have e2 : wrap64 (ci + co + cc) = ci + co + cc := by unfold wrap64; omega
      by_cases h0 : 0 ≤ s
      · have d0 : decide (0 ≤ s) = true := by simpa using h0
        have HD : Hid (decide ((0 ≤ ci ∧ ci ≤ K) ∧ (0 ≤ co ∧ co ≤ K) ∧ (0 ≤ cc ∧ cc ≤ K) ∧ 0 ≤ s ∧ ci + co + cc ≤ K) = decide (ci + co + cc ≤ (K : Int))) := Lib.hid (by
          rw [decide_eq_decide]
          omega)
        clear i0 i1 i2
        go_wp2
        go_ret
        exact ⟨(by rw [HDD.out, HD.out]; rfl), HT.out.2.2.2⟩
      · have d0 : decide (0 ≤ s) = false := by simpa using h0
        have HD : Hid (¬ ((0 ≤ ci ∧ ci ≤ K) ∧ (0 ≤ co ∧ co ≤ K) ∧ (0 ≤ cc ∧ cc ≤ K) ∧ 0 ≤ s ∧ ci + co + cc ≤ K)) := Lib.hid (by omega)
        clear i0 i1 i2
        go_wp2
        go_ret
        exact ⟨(by rw [HDD.out, decide_eq_false HD.out]; rfl), HT.out.2.2.2⟩

/-- instructions whose Op is one, the last an IEnd -/
def opsB (b : List Cd.Ins) : Bool := (b.all fun x => decide (1 ≤ x.op) && decide (x.op ≤ 9)) && (match b.getLast? with | none => false | some x => x.op == 9)
theorem opsB_no {b : List Cd.Ins} {t : Nat} {x : Cd.Ins} (hx : b[t]? = some x) (h : x.op < 1 ∨ 9 < x.op) : opsB b = false := by
  have : (b.all fun x => decide (1 ≤ x.op) && decide (x.op ≤ 9)) = false := by
    rw [List.all_eq_false]
    exact ⟨x, List.mem_iff_getElem?.2 ⟨_, hx⟩, by simp; omega⟩
  unfold opsB
  rw [this, Bool.false_and]

set_option maxHeartbeats 4000000 in
theorem hasOps_any (w : World) (c : Cd.Code) (ka : Option Addr) (kc : Nat) (ia : Option Addr) (ic : Nat) (ba : Option Addr) (bc : Nat) (hn : InssAt w ba c.body) (hm : c.body.length ≤ 60000) :
    Calls Tryz.prog 32 #[.agg (codeV c ka kc ia ic ba bc)] w fun e w' => e = .returned (.bool (opsB c.body)) ∧ w.grownBy w' none := by
  unfold codeV
  have hg := World.grownBy_alloc w (.cells #[.slice ka c.kinds.length kc, .int .i64 c.ins, .int .i64 c.outs, .int .i64 c.cells, .int .i64 c.stack, .slice ia c.init.length ic, .slice ba c.body.length bc] 27) none
  have hr := heap_alloc_new w (.cells #[.slice ka c.kinds.length kc, .int .i64 c.ins, .int .i64 c.outs, .int .i64 c.cells, .int .i64 c.stack, .slice ia c.init.length ic, .slice ba c.body.length bc] 27)
  have hz := World.size_alloc w (.cells #[.slice ka c.kinds.length kc, .int .i64 c.ins, .int .i64 c.outs, .int .i64 c.cells, .int .i64 c.stack, .slice ia c.init.length ic, .slice ba c.body.length bc] 27)
  have HG := Lib.hid (And.intro hg (And.intro hr (Nat.le_of_eq hz.symm)))
  have HN := Lib.hid hn
  clear hg hn hr hz
  obtain ⟨l, hl⟩ : ∃ l, l = c.body := ⟨_, rfl⟩
  rw [← hl] at HN hm HG ⊢
  clear hl
  obtain ⟨B, hB⟩ : ∃ B, B = l.length := ⟨_, rfl⟩
  rw [← hB] at hm HG ⊢
  have HB := Lib.hid hB
  clear hB
  generalize c.kinds.length = K at *
  generalize c.init.length = I at *
  generalize c.stack = s at *
  generalize c.ins = ci at *
  generalize c.outs = co at *
  generalize c.cells = cc at *
  go_enter Tryz.func32, Tryz.ntmps32
  go_wp2
  go_loopw [8] (fun iv wr => ∃ t : Nat, t ≤ B ∧ iv = .int .i64 (t : Int) ∧ Hid ((l.take t).all (fun x => decide (1 ≤ x.op) && decide (x.op ≤ 9)) = true ∧ w.grownBy wr none ∧ wr.heap[w.heap.size]? = some (.cells #[.slice ka K kc, .int .i64 ci, .int .i64 co, .int .i64 cc, .int .i64 s, .slice ia I ic, .slice ba B bc] 27 (0, 0)) ∧ w.heap.size + 1 ≤ wr.heap.size)) (fun i _ => B - (intOf i).toNat)
  case atStart => exact ⟨0, Nat.zero_le _, rfl, Lib.hid ⟨by simp, HG.out⟩⟩
  case round =>
    obtain ⟨t, ht, rfl, HT⟩ := hrel
    by_cases hlt : t < B
    · obtain ⟨x, hx⟩ : ∃ x, l[t]? = some x := ⟨_, List.getElem?_eq_getElem (by rw [← HB.out]; exact hlt)⟩
      obtain ⟨b1, o1, rfl, hc1, hc2, hc3⟩ := HN.out t x hx
      have p1 := HT.out.2.1.cell hc1 (by simp)
      have p2 := HT.out.2.1.cell hc2 (by simp)
      have p3 := HT.out.2.1.cell hc3 (by simp)
      have HX := Lib.hid hx
      clear hx hc1 hc2 hc3
      obtain ⟨xo, xn, xk⟩ := x
      simp only at p1 p2 p3
      by_cases h1 : xo < 1
      · have d1 : decide (xo < 1) = true := by simpa using h1
        go_wp2
        go_ret
        exact ⟨(by rw [opsB_no HX.out (.inl h1)]; rfl), HT.out.2.1.trans (World.grownBy_alloc wr _ none)⟩
      · have d1 : decide (xo < 1) = false := by simpa using h1
        by_cases h9 : 9 < xo
        · have d9 : decide (9 < xo) = true := by simpa using h9
          go_wp2
          go_ret
          exact ⟨(by rw [opsB_no HX.out (.inr h9)]; rfl), HT.out.2.1.trans (World.grownBy_alloc wr _ none)⟩
        · have d9 : decide (9 < xo) = false := by simpa using h9
          go_wp2
          refine ⟨⟨t + 1, by omega, by go_num, Lib.hid ⟨?_, HT.out.2.1.trans (World.grownBy_alloc wr _ none), row_alloc HT.out.2.2.1 _, by have := HT.out.2.2.2; rw [World.size_alloc]; omega⟩⟩, by simp [intOf]; omega⟩
          rw [List.take_add_one, List.all_append, HX.out, HT.out.1]
          simp
          omega
    · obtain rfl : t = B := by omega
      have k6 := cell_of_row wr _ 6 _ _ _ HT.out.2.2.1
      have hall : (l.all fun x => decide (1 ≤ x.op) && decide (x.op ≤ 9)) = true := by
        have := HT.out.1
        rw [HB.out, List.take_length] at this
        exact this
      by_cases h0 : t = 0
      · subst h0
        have HD : Hid (opsB l = false) := Lib.hid (by
          have : l = [] := List.eq_nil_of_length_eq_zero HB.out.symm
          rw [this]; rfl)
        clear hall
        go_wp2
        go_ret
        exact ⟨(by rw [HD.out]; rfl), HT.out.2.1⟩
      · obtain ⟨m, rfl⟩ : ∃ m, t = m + 1 := ⟨t - 1, by omega⟩
        obtain ⟨x, hx⟩ : ∃ x, l[m]? = some x := ⟨_, List.getElem?_eq_getElem (by rw [← HB.out]; omega)⟩
        obtain ⟨b1, o1, rfl, hc1, -, -⟩ := HN.out m x hx
        have p1 := HT.out.2.1.cell hc1 (by simp)
        have HD : Hid (opsB l = (x.op == 9)) := Lib.hid (by
          unfold opsB
          rw [hall, List.getLast?_eq_getElem?, ← HB.out, Nat.add_sub_cancel, hx]
          rfl)
        have ew : wrap64 (((m + 1 : Nat) : Int) - 1) = (m : Int) := by unfold wrap64; omega
        have ew2 : wrap64 ((m : Int) + 1 - 1) = (m : Int) := by unfold wrap64; omega
        have d0 : decide (0 < ((m + 1 : Nat) : Int)) = true := by rw [decide_eq_true_iff]; omega
        have d02 : decide (0 < (m : Int) + 1) = true := by rw [decide_eq_true_iff]; omega
        clear hall hx hc1
        obtain ⟨xo, hxo⟩ : ∃ xo, xo = x.op := ⟨_, rfl⟩
        rw [← hxo] at HD p1
        clear hxo
        go_wp2
        go_ret
        exact ⟨(by rw [HD.out]; rfl), HT.out.2.1⟩
end Go.Proofs.YtfbhflpjhbemlaaGreat

/- Package code: hasInits. -/
namespace Go.Proofs.YtfbhflpjhbemlaaGreat
open Go.RowKit Go.Maps Go.WideMaps
open Cd (Kn)

/-- values of the cells -/
def iniB (c : Cd.Code) : Bool := ((c.init.length : Int) == c.cells) && (c.init.zip (c.kinds.drop (c.ins + c.outs).toNat)).all fun p => Bv.isv p.2 p.1

theorem zip_up {is ks : List Int} {t : Nat} {x y : Int} (hx : is[t]? = some x) (hy : ks[t]? = some y) (h : ((is.take t).zip ks).all (fun p => Bv.isv p.2 p.1) = true) (hv : Bv.isv y x = true) : ((is.take (t + 1)).zip ks).all (fun p => Bv.isv p.2 p.1) = true := by
  rw [List.all_eq_true] at h ⊢
  rintro ⟨a, b⟩ hab
  obtain ⟨i, hi⟩ := List.mem_iff_getElem?.1 hab
  rw [List.getElem?_zip_eq_some] at hi
  obtain ⟨h1, h2⟩ := hi
  rw [List.getElem?_take] at h1
  split at h1
  · rename_i hlt
    by_cases e : i = t
    · subst e
      rw [hx] at h1
      rw [hy] at h2
      cases h1
      cases h2
      exact hv
    · refine h (a, b) (List.mem_iff_getElem?.2 ⟨i, ?_⟩)
      rw [List.getElem?_zip_eq_some]
      exact ⟨by rw [List.getElem?_take, if_pos (by omega)]; exact h1, h2⟩
  · cases h1

set_option maxHeartbeats 4000000 in
theorem hasInits_any (w : World) (c : Cd.Code) (ka : Option Addr) (kc : Nat) (ia : Option Addr) (ic : Nat) (ba : Option Addr) (bc : Nat) (hkc : c.kinds.length ≤ kc) (hn : NumsAt w ka c.kinds) (hi : NumsAt w ia c.init) (hm : c.kinds.length ≤ 8000) (hc : Cnt c) :
    Calls Tryz.prog 31 #[.agg (codeV c ka kc ia ic ba bc)] w fun e w' => e = .returned (.bool (iniB c)) ∧ w.grownBy w' none := by
  unfold codeV
  obtain ⟨⟨c1, c2⟩, ⟨c3, c4⟩, ⟨c5, c6⟩, c7, c8⟩ := hc
  obtain ⟨P, hP⟩ : ∃ P : Nat, c.ins + c.outs = P := ⟨(c.ins + c.outs).toNat, by omega⟩
  have hg := World.grownBy_alloc w (.cells #[.slice ka c.kinds.length kc, .int .i64 c.ins, .int .i64 c.outs, .int .i64 c.cells, .int .i64 c.stack, .slice ia c.init.length ic, .slice ba c.body.length bc] 27) none
  have HG := Lib.hid hg
  have ew : wrap64 (c.ins + c.outs) = P := by rw [hP]; unfold wrap64; omega
  have hPK : P + c.cells ≤ c.kinds.length := by omega
  by_cases hne : (c.init.length : Int) = c.cells
  · have d1 : ((c.init.length : Int) != c.cells) = false := by simp [hne]
    obtain ⟨D, hD⟩ : ∃ D : Bool, D = iniB c := ⟨_, rfl⟩
    have hD2 : D = (c.init.zip (c.kinds.drop P)).all fun p => Bv.isv p.2 p.1 := by
      rw [hD]
      unfold iniB
      rw [hP, Int.toNat_natCast, beq_iff_eq.2 hne, Bool.true_and]
    rw [← hD]
    have HD := Lib.hid hD2
    have HN := Lib.hid hn
    have HI := Lib.hid hi
    clear hg hn hi hD hD2 c1 c2 c3 c4 c5 c6 c7 c8 hP
    have hne' : (c.init.length : Int) = c.cells := hne
    rw [← hne] at hPK d1 HG ⊢
    clear hne hne'
    generalize c.kinds = ks at *
    generalize c.init = is at *
    obtain ⟨K, hK⟩ : ∃ K, K = ks.length := ⟨_, rfl⟩
    obtain ⟨I, hI⟩ : ∃ I, I = is.length := ⟨_, rfl⟩
    rw [← hK] at hkc hm hPK HG ⊢
    rw [← hI] at hPK d1 HG ⊢
    have HK := Lib.hid (And.intro hK hI)
    clear hK hI
    generalize c.body.length = B at *
    generalize c.stack = s at *
    generalize c.ins = ci at *
    generalize c.outs = co at *
    have hP1 : (0 : Int) ≤ (P : Int) := by omega
    have hP2 : (P : Int) ≤ (K : Int) := by omega
    have hI1 : P + I ≤ K := by omega
    have hIs := fun k n V => is_any k n V
    by_cases hI0 : I = 0
    · subst hI0
      have HD2 : Hid (D = true) := Lib.hid (by
        have : is = [] := List.eq_nil_of_length_eq_zero HK.out.2.symm
        rw [HD.out, this]
        rfl)
      have hP3 : kc = P ∨ ¬ kc = P := by omega
      rcases hP3 with hkP | hkP
      · subst hkP
        go_enter Tryz.func31, Tryz.ntmps31
        go_wp2
        go_loopw [23] (fun iv wr => iv = .int .i64 0 ∧ Hid (w.grownBy wr none)) (fun _ _ => 0)
        case atStart => exact ⟨rfl, HG⟩
        case round =>
          obtain ⟨rfl, HT⟩ := hrel
          go_wp2
          go_ret
          exact ⟨(by rw [HD2.out]; rfl), HT.out⟩
      · go_enter Tryz.func31, Tryz.ntmps31
        go_wp2
        go_loopw [23] (fun iv wr => iv = .int .i64 0 ∧ Hid (w.grownBy wr none)) (fun _ _ => 0)
        case atStart => exact ⟨rfl, HG⟩
        case round =>
          obtain ⟨rfl, HT⟩ := hrel
          go_wp2
          go_ret
          exact ⟨(by rw [HD2.out]; rfl), HT.out⟩
    · have hkP : ¬ kc = P := by omega
      obtain ⟨x0, hx0⟩ : ∃ x, ks[P]? = some x := ⟨_, List.getElem?_eq_getElem (by rw [← HK.out.1]; omega)⟩
      obtain ⟨kb, ko, hka, -⟩ := HN.out P x0 hx0
      subst hka
      clear hx0
      go_enter Tryz.func31, Tryz.ntmps31
      go_wp2
      go_loopw [23] (fun iv wr => ∃ t : Nat, t ≤ I ∧ iv = .int .i64 (t : Int) ∧ Hid (((is.take t).zip (ks.drop P)).all (fun p => Bv.isv p.2 p.1) = true ∧ w.grownBy wr none)) (fun i _ => I - (intOf i).toNat)
      case atStart => exact ⟨0, Nat.zero_le _, rfl, Lib.hid ⟨by simp, HG.out⟩⟩
      case round =>
        obtain ⟨t, ht, rfl, HT⟩ := hrel
        clear ew
        by_cases hlt : t < I
        · obtain ⟨x, hx⟩ : ∃ x, is[t]? = some x := ⟨_, List.getElem?_eq_getElem (by rw [← HK.out.2]; exact hlt)⟩
          obtain ⟨y, hy⟩ : ∃ y, ks[P + t]? = some y := ⟨_, List.getElem?_eq_getElem (by rw [← HK.out.1]; omega)⟩
          obtain ⟨b1, o1, rfl, hc1⟩ := HI.out t x hx
          obtain ⟨b2, o2, hbo, hc2⟩ := HN.out (P + t) y hy
          cases hbo
          have p1 := HT.out.2.cell hc1 (by simp)
          have p2 := HT.out.2.cell hc2 (by simp)
          rw [← Nat.add_assoc] at p2
          have HX := Lib.hid (And.intro hx hy)
          have hb1 : t < K - P := by omega
          clear hx hy hc1 hc2
          have hkx := fun V => hIs y x V
          cases hv : Bv.isv y x with
          | true =>
            have HV := Lib.hid hv
            simp only [hv] at hkx
            clear hv
            go_wp2_with (go_at_call 44; refine (hkx _).mono ?_; rintro e w' ⟨rfl, hw'⟩; obtain rfl := hw'.symm)
            refine ⟨⟨t + 1, by omega, by go_num, Lib.hid ⟨?_, HT.out.2⟩⟩, by simp [intOf]; omega⟩
            exact zip_up HX.out.1 (by rw [List.getElem?_drop]; exact HX.out.2) HT.out.1 HV.out
          | false =>
            have HV : Hid (D = false) := Lib.hid (by
              rw [HD.out, List.all_eq_false]
              refine ⟨(x, y), List.mem_iff_getElem?.2 ⟨t, ?_⟩, by simp [hv]⟩
              rw [List.getElem?_zip_eq_some]
              exact ⟨HX.out.1, by rw [List.getElem?_drop]; exact HX.out.2⟩)
            simp only [hv] at hkx
            clear hv
            go_wp2_with (go_at_call 44; refine (hkx _).mono ?_; rintro e w' ⟨rfl, hw'⟩; obtain rfl := hw'.symm)
            go_ret
            exact ⟨(by rw [HV.out]; rfl), HT.out.2⟩
        · obtain rfl : t = I := by omega
          have HV : Hid (D = true) := Lib.hid (by
            have := HT.out.1
            rw [HK.out.2, List.take_length] at this
            rw [HD.out]
            exact this)
          go_wp2
          go_ret
          exact ⟨(by rw [HV.out]; rfl), HT.out.2⟩
  · have d1 : ((c.init.length : Int) != c.cells) = true := by simpa using hne
    have HD : Hid (iniB c = false) := Lib.hid (by
      unfold iniB
      rw [beq_eq_false_iff_ne.2 hne, Bool.false_and])
    rw [HD.out]
    clear hg hn hi c1 c2 c3 c4 c5 c6 c7 c8 hP hPK ew
    generalize c.kinds.length = K at *
    generalize c.init.length = I at *
    generalize c.body.length = B at *
    generalize c.stack = s at *
    generalize c.ins = ci at *
    generalize c.outs = co at *
    generalize c.cells = cc at *
    go_enter Tryz.func31, Tryz.ntmps31
    go_wp2
    go_ret
    exact ⟨rfl, HG.out⟩
end Go.Proofs.YtfbhflpjhbemlaaGreat

/- Package code: isBare, rulesOf; the rules by their number. -/
namespace Go.Proofs.YtfbhflpjhbemlaaGreat
open Go.RowKit Go.Maps Go.WideMaps
open Cd (Kn)

theorem bare_any (w : World) (op n k : Int) : Calls Tryz.prog 34 #[.agg #[.int .i64 op, .int .i64 n, .int .i64 k]] w fun e w' => e = .returned (.bool (Cd.bare ⟨op, n, k⟩)) ∧ w.grownBy w' none := by
  have HG := Lib.hid (World.grownBy_alloc w (.cells #[.int .i64 op, .int .i64 n, .int .i64 k] 32) none)
  obtain ⟨D, hD⟩ : ∃ D : Bool, D = Cd.bare ⟨op, n, k⟩ := ⟨_, rfl⟩
  rw [← hD]
  have HD := Lib.hid hD
  clear hD
  go_enter Tryz.func34, Tryz.ntmps34
  go_wp2
  all_goals go_ret
  all_goals refine ⟨ret_bool ?_, HG.out⟩
  all_goals (rw [HD.out]; simp_all [Cd.bare])

def rulesV : List Value := [.nilFunc, .func (.func 45) #[] #[], .func (.func 46) #[] #[], .func (.func 47) #[] #[], .func (.func 48) #[] #[], .func (.func 49) #[] #[], .func (.func 50) #[] #[], .func (.func 51) #[] #[], .func (.func 52) #[] #[], .func (.func 53) #[] #[]]
theorem rulesOf_any (w : World) : Calls Tryz.prog 33 #[] w fun e w' => e = .returned (.agg rulesV.toArray) ∧ w.grownBy w' none := by
  have hr := heap_alloc_new w (.cells rulesV.toArray 78)
  have HG := Lib.hid (And.intro (World.grownBy_alloc w (.cells rulesV.toArray 78) none) hr)
  clear hr
  go_enter Tryz.func33, Tryz.ntmps33
  go_wp2
  exact bodyPost_ret (results_cell_row rfl _ _ w.heap.size 78 _ (0, 0) _ rfl HG.out.2 Tryz.underlying78 rfl (by kernel_rfl)) rfl ⟨rfl, HG.out.1⟩


/-- the rule of an instruction: which function, what it leaves -/
theorem rule_any (W : World) (b g : Nat) (cs : Array Value) (at_ : Nat) (c : Cd.Code) (l : List Int) (qs : Kn) (op n k : Int) (h1 : 1 ≤ op) (h9 : op ≤ 9) :
    ∃ f, rulesV[op.toNat]? = some (.func (.func f) #[] #[]) ∧ (∀ args w, (callFunc f args).run Tryz.prog w = .ok (.enter f args) w) ∧
      ∀ w, At W w b g cs at_ c l qs → Calls Tryz.prog f #[.pointer (some ⟨b, 0, none⟩), .agg #[.int .i64 op, .int .i64 n, .int .i64 k]] w (RuP W w b g cs at_ (Cd.rule c ⟨op, n, k⟩ l at_ qs)) := by
  rcases (show op = 1 ∨ op = 2 ∨ op = 3 ∨ op = 4 ∨ op = 5 ∨ op = 6 ∨ op = 7 ∨ op = 8 ∨ op = 9 by omega) with rfl | rfl | rfl | rfl | rfl | rfl | rfl | rfl | rfl
  · exact ⟨45, rfl, fun args w => enters Tryz.func45 (by kernel_rfl) rfl args w, fun w h => push_any W b g cs at_ c l qs 1 n k w h⟩
  · exact ⟨46, rfl, fun args w => enters Tryz.func46 (by kernel_rfl) rfl args w, fun w h => load_any W b g cs at_ c l qs 2 n k w h⟩
  · refine ⟨47, rfl, fun args w => enters Tryz.func47 (by kernel_rfl) rfl args w, fun w h => ?_⟩
    have := save_any W b g cs at_ c l qs 3 n k w h
    have e : Cd.rule c ⟨3, n, k⟩ l at_ qs = if 0 ≤ n ∧ n < c.kinds.length then (if c.ins ≤ n then Cd.onTop l (c.kinds.getD n.toNat 0) (fun r => Cd.lead r at_ 0 qs) else none) else none := by
      show (if (0 ≤ n ∧ n < c.kinds.length) ∧ c.ins ≤ n then Cd.onTop l (c.kinds.getD n.toNat 0) (fun r => Cd.lead r at_ 0 qs) else none) = _
      by_cases h1 : 0 ≤ n ∧ n < c.kinds.length
      · by_cases h2 : c.ins ≤ n
        · rw [if_pos ⟨h1, h2⟩, if_pos h1, if_pos h2]
        · rw [if_neg (fun h => h2 h.2), if_pos h1, if_neg h2]
      · rw [if_neg (fun h => h1 h.1), if_neg h1]
    rw [e]
    exact this
  · exact ⟨48, rfl, fun args w => enters Tryz.func48 (by kernel_rfl) rfl args w, fun w h => unary_any W b g cs at_ c l qs 4 n k w h⟩
  · exact ⟨49, rfl, fun args w => enters Tryz.func49 (by kernel_rfl) rfl args w, fun w h => binary_any W b g cs at_ c l qs 5 n k w h⟩
  · exact ⟨50, rfl, fun args w => enters Tryz.func50 (by kernel_rfl) rfl args w, fun w h => kcast_any W b g cs at_ c l qs 6 n k w h⟩
  · exact ⟨51, rfl, fun args w => enters Tryz.func51 (by kernel_rfl) rfl args w, fun w h => jump_any W b g cs at_ c l qs 7 n k w h⟩
  · exact ⟨52, rfl, fun args w => enters Tryz.func52 (by kernel_rfl) rfl args w, fun w h => branch_any W b g cs at_ c l qs 8 n k w h⟩
  · exact ⟨53, rfl, fun args w => enters Tryz.func53 (by kernel_rfl) rfl args w, fun w h => end_any W b g cs at_ c l qs 9 n k w h⟩
end Go.Proofs.YtfbhflpjhbemlaaGreat

/- Package code: what the walker begins with; canRun. -/
namespace Go.Proofs.YtfbhflpjhbemlaaGreat
open Go.RowKit Go.Maps Go.WideMaps
open Cd (Kn)

/-- rows of stacks that are not reached -/
theorem made_rows (n i j : Nat) (hi : i < n) (hj : j < 66) : (madeCells (rowC none).toArray (n * 66))[i * 66 + j]? = (rowC none)[j]? := by
  have h1 : i * 66 + j < n * 66 := by omega
  have h2 : (rowC none).toArray.size = 66 := by rw [List.size_toArray, rowC_len]
  unfold madeCells
  rw [Array.getElem?_map, Array.getElem?_range, if_pos h1, Option.map_some, h2, show (i * 66 + j) % 66 = j by omega, getElem!_pos _ _ (by rw [h2]; exact hj), List.getElem_toArray, List.getElem?_eq_getElem]
theorem mk_stacks (n : Nat) (hn : n ≤ 60000) (w : World) : (Instr.makeSlice 71 (.int .i64 (n : Int)) (.int .i64 (n : Int))).run Tryz.prog w = .ok (.slice (some ⟨w.heap.size, 0, none⟩) n n) (w.alloc (.cells (madeCells (rowC none).toArray (n * 66)) 74)) := by
  have hi : Tryz.prog.info? 74 = some ((Tryz.prog.info? 74).getD default) := by kernel_rfl
  have hz : ((Tryz.prog.info? 74).getD default).zero = some (.agg (rowC none).toArray) := by kernel_rfl
  have hs : ((Tryz.prog.info? 74).getD default).size = 66 := by kernel_rfl
  have hb : ((Tryz.prog.info? 74).getD default).bytes = 66 := by kernel_rfl
  have := run_makeSlice (P := Tryz.prog) w 71 74 _ _ Tryz.underlying71 hi hz .i64 .i64 (n : Int) (n : Int) (by omega) (Int.le_refl _) (by rw [hs]; omega) (by rw [hb]; omega) (by omega)
  rw [hs] at this
  simpa only [Int.toNat_natCast, Value.cells] using this
/-- the walker's block, as it is made -/
def wk0 (cs : Array Value) (g n : Nat) : Array Value := cs ++ (#[.int .i64 0] ++ ((rowC none).toArray ++ #[.slice (some ⟨g, 0, none⟩) n n]))
theorem wk0_new {W w : World} {b g : Nat} {cs : Array Value} {n : Nat} (hn : 0 < n) (hg : W.grownBy w none) (hb : W.heap.size ≤ b) (hgg : W.heap.size ≤ g) (hne : b ≠ g) (h7 : cs.size = 7) (hrb : w.heap[b]? = some (.cells (wk0 cs g n) 76 (0, 0))) (hrg : w.heap[g]? = some (.cells (madeCells (rowC none).toArray (n * 66)) 74 (0, 0))) :
    Wk W (w.setCell ⟨g, 0, none⟩ (.bool true)) b g cs 0 none (some [] :: Cd.nots (n - 1)) := by
  have cb : ∀ o, w.cell? ⟨b, o, none⟩ = (wk0 cs g n)[o]? := fun o => by unfold World.cell?; rw [hrb]; simp
  have cg : ∀ o, w.cell? ⟨g, o, none⟩ = (madeCells (rowC none).toArray (n * 66))[o]? := fun o => by unfold World.cell?; rw [hrg]; simp
  have hlen : (some [] :: Cd.nots (n - 1) : Kn).length = n := by simp [Cd.nots]; omega
  have fb : ∀ o, w.frozen? ⟨b, o, none⟩ = false := fun o => by simp [World.frozen?, hrb]
  have fg : ∀ o, w.frozen? ⟨g, o, none⟩ = false := fun o => by simp [World.frozen?, hrg]
  have hk : Kp [g] w (w.setCell ⟨g, 0, none⟩ (.bool true)) := (Kp.refl _ _).set (by simp) _
  have ebb : (w.setCell ⟨g, 0, none⟩ (.bool true)).heap[b]? = w.heap[b]? := hk.block b (Array.getElem?_eq_some_iff.1 hrb).1 (by simp; exact hne)
  have hsz : (wk0 cs g n).size = 75 := by simp [wk0, h7, rowC_len]
  have row0 : ∀ i, i < n → w.rangeAt g (i * 66) (rowC none) := fun i hi j v hv => by
    have hj : j < 66 := by have := (List.getElem?_eq_some_iff.1 hv).1; rwa [rowC_len] at this
    rw [cg, made_rows n i j hi hj, hv]
  refine ⟨Kp.grown hg hk (fun k hx => by simp at hx; subst hx; exact hgg), hb, hgg, hne, h7, ?_, ?_, ?_, ?_, ?_, ?_, ?_⟩
  · refine rangeAt.of (w := w) (fun j v hv => ?_) ebb
    have hj : j < 7 := by have := (List.getElem?_eq_some_iff.1 hv).1; rwa [Array.length_toList, h7] at this
    rw [cb, wk0, Nat.zero_add, Array.getElem?_append_left (by omega)]
    simpa using hv
  · rw [cell_of_block ebb, cb, wk0, Array.getElem?_append_right (by omega), h7, Array.getElem?_append_left (by simp)]
    rfl
  · refine rangeAt.of (w := w) (fun j v hv => ?_) ebb
    have hj : j < 66 := by have := (List.getElem?_eq_some_iff.1 hv).1; rwa [rowC_len] at this
    rw [cb, wk0, Array.getElem?_append_right (by omega), h7, Array.getElem?_append_right (by simp; omega), Array.getElem?_append_left (by simp [rowC_len]; omega)]
    rw [show 8 + j - 7 - #[Value.int IntKind.i64 0].size = j by simp; omega]
    simpa using hv
  · rw [cell_of_block ebb, cb, wk0, Array.getElem?_append_right (by omega), h7, Array.getElem?_append_right (by simp), Array.getElem?_append_right (by simp [rowC_len]), hlen]
    simp [rowC_len]
  · refine there.of (w := w) (fun j hj => ⟨?_, ?_⟩) ebb
    · rw [cb, Array.getElem?_eq_getElem (by omega)]; rfl
    · exact fb _
  · intro i q hi
    have hil : i < n := by have := (List.getElem?_eq_some_iff.1 hi).1; rwa [hlen] at this
    cases i with
    | zero =>
      simp at hi
      subst hi
      obtain ⟨r0, r1, r2⟩ := row_parts.1 (row0 0 hil)
      refine row_parts.2 ⟨?_, ?_, fun j hj => ?_⟩
      · exact cell_set_same _ (by simpa using r0)
      · exact (cell_set_ne _ (by omega)).trans r1
      · exact (cell_set_ne _ (by omega)).trans (r2 j hj)
    | succ i =>
      have : q = none := by
        simp [Cd.nots, List.getElem?_replicate] at hi
        exact hi.2.symm
      subst this
      intro j v hv
      rw [cell_set_ne _ (by omega)]
      exact row0 _ hil j v hv
  · rw [hlen]
    refine there_set (fun j hj => ⟨?_, fg _⟩) _ _
    rw [cg, Array.getElem?_eq_getElem (by rw [size_madeCells]; omega)]
    rfl
/-- the walker comes to an instruction -/
theorem Wk.come {W w : World} {b g : Nat} {cs : Array Value} {a t : Nat} {s : Option (List Int)} {qs : Kn} {l : List Int} (h : Wk W w b g cs a s qs) : Wk W ((w.setCell ⟨b, 7, none⟩ (.int .i64 (t : Int))).setCells b 8 (rowC (some l))) b g cs t (some l) qs ∧ Kp [b, g] w ((w.setCell ⟨b, 7, none⟩ (.int .i64 (t : Int))).setCells b 8 (rowC (some l))) := by
  have hk : ∀ X, b ∈ X → Kp X w ((w.setCell ⟨b, 7, none⟩ (.int .i64 (t : Int))).setCells b 8 (rowC (some l))) := fun X hX => kp_setCells hX _ _ _ ((Kp.refl X w).set hX _)
  have hgk : 0 < qs.length → ((w.setCell ⟨b, 7, none⟩ (.int .i64 (t : Int))).setCells b 8 (rowC (some l))).heap[g]? = w.heap[g]? := fun hq => (hk [b] (by simp)).block g (h.gl hq) (by simp; exact fun e => h.ne e.symm)
  have hc : ∀ o, o < 7 ∨ o = 74 → ((w.setCell ⟨b, 7, none⟩ (.int .i64 (t : Int))).setCells b 8 (rowC (some l))).cell? ⟨b, o, none⟩ = w.cell? ⟨b, o, none⟩ := fun o ho => by
    rw [World.cell?_setCells_out b _ 8 _ _ (fun _ _ => by rw [rowC_len]; simp; omega)]
    exact cell_set_ne _ (by omega)
  have ht : (w.setCell ⟨b, 7, none⟩ (.int .i64 (t : Int))).there b 0 75 := there_set h.tb _ _
  refine ⟨⟨Kp.grown h.grown (hk [b] (by simp)) (fun k hx => by simp at hx; subst hx; exact h.hb), h.hb, h.hg, h.ne, h.n7, fun j v hv => ?_, ?_, ?_, (hc 74 (by omega)).trans h.ways, ?_, fun i q hi => ?_, ?_⟩, hk _ (by simp)⟩
  · have hj : j < 7 := by
      have := (List.getElem?_eq_some_iff.1 hv).1
      rwa [Array.length_toList, h.n7] at this
    rw [hc (0 + j) (by omega)]
    exact h.code j v hv
  · rw [World.cell?_setCells_out b _ 8 _ _ (fun _ _ => by simp)]
    exact cell_set_same _ h.place
  · exact World.rangeAt_setCells_same _ b 8 (rowC (some l)) (fun j hj => by
      rw [rowC_len] at hj
      have := ht (8 + j) (by omega)
      rwa [Nat.zero_add] at this)
  · exact World.there_setCells ht b 8 (rowC (some l))
  · exact rangeAt.of (h.rows i q hi) (hgk (by have := (List.getElem?_eq_some_iff.1 hi).1; omega))
  · by_cases hq : 0 < qs.length
    · exact there.of h.tg (hgk hq)
    · exact fun j hj => by omega
end Go.Proofs.YtfbhflpjhbemlaaGreat

/- Package code: canRun's beginning. -/
namespace Go.Proofs.YtfbhflpjhbemlaaGreat
open Go.RowKit Go.Maps Go.WideMaps
open Cd (Kn)

theorem row_range {w : World} {b : Nat} {a : Array Value} {T : TypeId} (h : w.heap[b]? = some (.cells a T (0, 0))) : w.rangeAt b 0 a.toList := fun j v hv => by
  unfold World.cell?
  rw [h]
  simpa using hv
/-- the walker's block before anything is in it -/
def zeroW : Array Value := #[.slice none 0 0, .int .i64 0, .int .i64 0, .int .i64 0, .int .i64 0, .slice none 0 0, .slice none 0 0, .int .i64 0] ++ ((rowC none).toArray ++ #[.slice none 0 0])

theorem hold_stR {P : Program} {ops : Array Oper} {rest : List Oper} {d : Option Tmp} {p v : Operand} {ty : TypeId} {s : String} {af : Array Edge} {g : Option (Nat × Bool)} {a : Act} {w : World} {Q : Exit → Act → World → Prop}
    (hK : Hid (wpList P ops Q ({ dst := d, op := Op.store 78 p v, type := ty, pos := s, after := af, guard := g } :: rest) a w)) :
    wpList P ops Q ({ dst := d, op := Op.store 78 p v, type := ty, pos := s, after := af, guard := g } :: rest) a w := hK
theorem setRow_at {w : World} {g : Nat} {cs old : Array Value} {t : TypeId} (h : w.heap[g]? = some (.cells old t (0, 0))) : (w.setRow g cs).heap[g]? = some (.cells cs t (0, 0)) := by simp [World.setRow, Array.getElem?_modify, h]
/-- what canRun's loop keeps -/
def LpR (w : World) (b g : Nat) (cs : Array Value) (r : Nat) (c : Cd.Code) (N : Nat) (D : Bool) (t : Nat) (wr : World) : Prop := ∃ (a : Nat) (s : Option (List Int)) (qs : Kn), Wk w wr b g cs a s qs ∧ qs.length = N ∧ Cd.Sks c qs ∧ wr.heap[r]? = some (.cells rulesV.toArray 78 (0, 0)) ∧ Cd.go c (c.body.drop t) (qs.drop t) = D
theorem zeroW_size : zeroW.size = 75 := by simp [zeroW, rowC_len]
theorem wk0_size {cs : Array Value} (h : cs.size = 7) (g n : Nat) : (wk0 cs g n).size = 75 := by simp [wk0, h, rowC_len]
theorem wk0_one {cs : Array Value} (h : cs.all (·.oneCell') = true) (g n : Nat) : (wk0 cs g n).all (·.oneCell') = true := by
  have := row_one none
  simp only [wk0, Array.all_append, h, this, Bool.true_and]
  simp [Value.oneCell']

set_option maxHeartbeats 4000000 in
set_option maxRecDepth 100000 in
theorem canRun_any (w : World) (c : Cd.Code) (ka : Option Addr) (kc : Nat) (ia : Option Addr) (ic : Nat) (ba : Option Addr) (bc : Nat) (hc : CodeAt w c ka ia ba) (hN1 : c.body.length ≤ 60000) (hN0 : 0 < c.body.length) (hs0 : 0 ≤ c.stack) (hs64 : c.stack ≤ 64) (hi0 : 0 ≤ c.ins) (hkk : ∀ k ∈ c.kinds, 1 ≤ k ∧ k ≤ 9) (hops : ∀ x ∈ c.body, 1 ≤ x.op ∧ x.op ≤ 9) :
    Calls Tryz.prog 19 #[.agg (codeV c ka kc ia ic ba bc)] w fun e w' => e = .returned (.bool (Cd.go c c.body (some [] :: Cd.nots (c.body.length - 1)))) ∧ w.grownBy w' none := by
  have HH := Lib.hid (And.intro hc (And.intro hN0 (And.intro hs0 (And.intro hs64 (And.intro hi0 (And.intro hkk hops))))))
  obtain ⟨N, hN⟩ : ∃ N, N = c.body.length := ⟨_, rfl⟩
  obtain ⟨D, hD⟩ : ∃ D : Bool, D = Cd.go c c.body (some [] :: Cd.nots (c.body.length - 1)) := ⟨_, rfl⟩
  rw [← hD]
  have HD := Lib.hid hD
  obtain ⟨cs, hcs⟩ : ∃ cs, cs = codeV c ka kc ia ic ba bc := ⟨_, rfl⟩
  have hbox := heap_alloc_new w (.cells (codeV c ka kc ia ic ba bc) 27)
  have hgb := World.grownBy_alloc w (.cells (codeV c ka kc ia ic ba bc) 27) none
  have hmk := fun V => mk_stacks N (by omega) V
  have HN := Lib.hid hN
  rw [← hN] at hN1 hN0
  clear hc hD hs0 hs64 hi0 hkk hops
  have HB := Lib.hid (And.intro hbox hgb)
  clear hbox hgb
  have hS0 : (w.alloc (.cells (codeV c ka kc ia ic ba bc) 27)).drew.heap[w.heap.size]? = some (.cells (codeV c ka kc ia ic ba bc) 27 (0, 0)) := HB.out.1
  unfold codeV at hS0 HB
  unfold codeV
  rw [← hN] at hS0 HB ⊢
  clear hN
  go_enter Tryz.func19, Tryz.ntmps19
  go_wp2
  obtain ⟨W0, hW0⟩ : ∃ W0, W0 = (w.alloc (.cells #[.slice ka c.kinds.length kc, .int .i64 c.ins, .int .i64 c.outs, .int .i64 c.cells, .int .i64 c.stack, .slice ia c.init.length ic, .slice ba N bc] 27)).drew := ⟨_, rfl⟩
  have hg0 : w.grownBy W0 none := by rw [hW0]; exact ⟨HB.out.2.os, HB.out.2.tape, HB.out.2.output, HB.out.2.size, HB.out.2.block⟩
  refine wp_region_L (S := fun V => V.heap[w.heap.size]? = some (.cells #[.slice ka c.kinds.length kc, .int .i64 c.ins, .int .i64 c.outs, .int .i64 c.cells, .int .i64 c.stack, .slice ia c.init.length ic, .slice ba N bc] 27 (0, 0))) (Z := []) (by kernel_rfl) ?_
  rw [← hW0] at hS0 ⊢
  have HG0 := Lib.hid hg0
  clear hW0 hg0
  refine t2 0 7 (.agg #[.slice ka c.kinds.length kc, .int .i64 c.ins, .int .i64 c.outs, .int .i64 c.cells, .int .i64 c.stack, .slice ia c.init.length ic, .slice ba N bc]) (fun w' hw' => ?_) hS0 ?_
  · exact exec_load_mid 27 _ rfl w.heap.size 0 rfl _ _ (row_range hw') Tryz.underlying27 rfl (by kernel_rfl)
  (try simp only [Act.put, sA, sB, sC])
  refine t1 1 8 (.pointer (some ⟨w.heap.size, 6, none⟩)) hS0 ?_
  (try simp only [Act.put, sA, sB, sC])
  refine t2 2 9 (.slice ba N bc) (fun w' hw' => ?_) hS0 ?_
  · have hc0 := cell_of_row w' _ 6 _ _ _ hw'; clear hw'; go_simp
  (try simp only [Act.put, sA, sB, sC])
  refine t2 3 10 (.int .i64 (N : Int)) (fun w' hw' => ?_) hS0 ?_
  · clear hw'; go_simp
  (try simp only [Act.put, sA, sB, sC])
  have hsz := gl hS0
  refine wpL_both (i := 4) (j := 6) (by kernel_rfl) ?_ ?_
  · refine wpOp_val (v := .slice (some ⟨W0.heap.size, 0, none⟩) N N) (w' := W0.alloc (.cells (madeCells (rowC none).toArray (N * 66)) 74)) rfl rfl (by kernel_rfl) ?_ ?_
    · have := hmk W0
      go_simp
    obtain ⟨W1, hW1⟩ : ∃ W1, W1 = W0.alloc (.cells (madeCells (rowC none).toArray (N * 66)) 74) := ⟨_, rfl⟩
    have hS1 : W1.heap[w.heap.size]? = some (.cells #[.slice ka c.kinds.length kc, .int .i64 c.ins, .int .i64 c.outs, .int .i64 c.cells, .int .i64 c.stack, .slice ia c.init.length ic, .slice ba N bc] 27 (0, 0)) := by rw [hW1]; exact heap_alloc_old _ _ hsz |>.trans hS0
    have hgr1 : W1.heap[W0.heap.size]? = some (.cells (madeCells (rowC none).toArray (N * 66)) 74 (0, 0)) := by rw [hW1]; exact heap_alloc_new W0 _
    have hz1 : W1.heap.size = W0.heap.size + 1 := by rw [hW1, World.size_alloc]
    have hgw1 : w.grownBy W1 none := by rw [hW1]; exact HG0.out.trans (World.grownBy_alloc W0 _ none)
    rw [← hW1]
    clear hW1
    refine ⟨fun _ => hS1, ?_⟩
    (try simp only [Act.put, sA, sB, sC])
    refine t2 5 12 (.agg (wk0 #[.slice ka c.kinds.length kc, .int .i64 c.ins, .int .i64 c.outs, .int .i64 c.cells, .int .i64 c.stack, .slice ia c.init.length ic, .slice ba N bc] W0.heap.size N)) (fun w' hw' => ?_) hS1 ?_
    · kernel_rfl
    (try simp only [Act.put, sA, sB, sC])
    obtain ⟨W2, hW2⟩ : ∃ W2, W2 = W1.alloc (.cells zeroW 76) := ⟨_, rfl⟩
    have hS2 : W2.heap[w.heap.size]? = some (.cells #[.slice ka c.kinds.length kc, .int .i64 c.ins, .int .i64 c.outs, .int .i64 c.cells, .int .i64 c.stack, .slice ia c.init.length ic, .slice ba N bc] 27 (0, 0)) := by rw [hW2]; exact heap_alloc_old _ _ (gl hS1) |>.trans hS1
    have hgr2 : W2.heap[W0.heap.size]? = some (.cells (madeCells (rowC none).toArray (N * 66)) 74 (0, 0)) := by rw [hW2]; exact heap_alloc_old _ _ (gl hgr1) |>.trans hgr1
    have hbr2 : W2.heap[W1.heap.size]? = some (.cells zeroW 76 (0, 0)) := by rw [hW2]; exact heap_alloc_new W1 _
    have hgw2 : w.grownBy W2 none := by rw [hW2]; exact hgw1.trans (World.grownBy_alloc W1 _ none)
    refine wpL_val (i := 6) (d := 3) (v := .pointer (some ⟨W1.heap.size, 0, none⟩)) (w' := W2) (by kernel_rfl) rfl rfl (by kernel_rfl) (by rw [hW2]; kernel_rfl) hS2 ?_
    (try simp only [Act.put, sA, sB, sC])
    clear hW2
    obtain ⟨g, hg⟩ : ∃ g, g = W0.heap.size := ⟨_, rfl⟩
    obtain ⟨b, hb⟩ : ∃ b, b = W1.heap.size := ⟨_, rfl⟩
    have hgl : w.heap.size < g := by omega
    have hbl : w.heap.size < b := by omega
    have hne : b ≠ g := by omega
    rw [← hb] at hbr2 ⊢
    rw [← hg] at hgr2 ⊢
    clear hb hg hz1 hgr1 hS1 hgw1
    refine wpL_store (i := 7) b (wk0 #[.slice ka c.kinds.length kc, .int .i64 c.ins, .int .i64 c.outs, .int .i64 c.cells, .int .i64 c.stack, .slice ia c.init.length ic, .slice ba N bc] g N) zeroW 76 76 (.tmp 3) (.tmp 12) (by kernel_rfl) rfl (by kernel_rfl) rfl rfl rfl rfl hbr2 (by rw [wk0_size rfl]; kernel_rfl) (by rw [wk0_size rfl, zeroW_size]) (wk0_one (by kernel_rfl) g N) (fun V hbV hgV2 => ⟨?_, ?_⟩)
    · exact (hgV2.block _ (gl hS2) (by simp; omega)).trans hS2
    refine wpL_done (by kernel_rfl) ?_ _
    have hgV : V.heap[g]? = some (.cells (madeCells (rowC none).toArray (N * 66)) 74 (0, 0)) := (hgV2.block _ (gl hgr2) (by simp; omega)).trans hgr2
    have hSV : V.heap[w.heap.size]? = some (.cells #[.slice ka c.kinds.length kc, .int .i64 c.ins, .int .i64 c.outs, .int .i64 c.cells, .int .i64 c.stack, .slice ia c.init.length ic, .slice ba N bc] 27 (0, 0)) := (hgV2.block _ (gl hS2) (by simp; omega)).trans hS2
    have hgw : w.grownBy V none := Kp.grown hgw2 (Kp.of hgV2 [b] (fun k e _ => by cases e; simp)) (fun k hk => by simp at hk; omega)
    have HWK := Lib.hid (And.intro (wk0_new (W := w) (cs := #[.slice ka c.kinds.length kc, .int .i64 c.ins, .int .i64 c.outs, .int .i64 c.cells, .int .i64 c.stack, .slice ia c.init.length ic, .slice ba N bc]) hN0 hgw (by omega) (by omega) hne rfl hbV hgV) (And.intro hgw hSV))
    have q74 : V.cell? ⟨b, 74, none⟩ = some (.slice (some ⟨g, 0, none⟩) N N) := by
      have := (wk0_new (W := w) (cs := #[.slice ka c.kinds.length kc, .int .i64 c.ins, .int .i64 c.outs, .int .i64 c.cells, .int .i64 c.stack, .slice ia c.init.length ic, .slice ba N bc]) hN0 hgw (by omega) (by omega) hne rfl hbV hgV).ways
      rw [World.cell?_setCell_far _ _ _ _ (fun e => hne e.symm)] at this
      have e : (some [] :: Cd.nots (N - 1) : Kn).length = N := by simp [Cd.nots]; omega
      rw [e] at this
      exact this
    have q0 : V.cell? ⟨g, 0, none⟩ = some (.bool false) := by
      have := made_rows N 0 0 hN0 (by omega)
      unfold World.cell?
      rw [hgV]
      have e : (rowC none)[0]? = some (.bool false) := rfl
      rw [e] at this
      simpa using this
    have qf : V.frozen? ⟨g, 0, none⟩ = false := by simp [World.frozen?, hgV]
    clear hbV hgV hSV hgw hgV2 hS2 hbr2 hgr2 hgw2 hS0 hsz hmk
    go_wp2_with (first | (go_at_call 33; refine (rulesOf_any _).mono ?_; rintro e W3 ⟨rfl, hg3⟩; have HG3 := Lib.hid hg3; clear hg3) | (with_reducible refine hold_stR ?_))
    refine Lib.hid ?_
    refine wpList_plain rfl fun K' hK' => wp_store_row 78 _ _ rfl W3.heap.size rulesV.toArray rfl rfl _ _ (heap_alloc_new W3 _) (by kernel_rfl) rfl (by kernel_rfl) (hK' _ _ ?_)
    have hrr := setRow_at (cs := rulesV.toArray) (heap_alloc_new W3 (.cells #[.nilFunc, .nilFunc, .nilFunc, .nilFunc, .nilFunc, .nilFunc, .nilFunc, .nilFunc, .nilFunc, .nilFunc] 78))
    have hkr : Kp [W3.heap.size] W3 ((W3.alloc (.cells #[.nilFunc, .nilFunc, .nilFunc, .nilFunc, .nilFunc, .nilFunc, .nilFunc, .nilFunc, .nilFunc, .nilFunc] 78)).setRow W3.heap.size rulesV.toArray) := (Kp.of0 (World.grownBy_alloc W3 _ none) _).trans (Kp.of (grown_setRow _ _ _) _ (fun k e _ => by cases e; simp))
    have hg4 := Kp.grown HG3.out (hkr.mono (fun k hk _ => hk)) (fun k hk => by simp at hk; rw [hk]; exact HG3.out.size)
    generalize (W3.alloc (.cells #[.nilFunc, .nilFunc, .nilFunc, .nilFunc, .nilFunc, .nilFunc, .nilFunc, .nilFunc, .nilFunc, .nilFunc] 78)).setRow W3.heap.size rulesV.toArray = W4 at hrr hg4 ⊢
    obtain ⟨r, hr⟩ : ∃ r, r = W3.heap.size := ⟨_, rfl⟩
    rw [← hr] at hrr ⊢
    have hrb : r ≠ b ∧ r ≠ g ∧ w.heap.size ≤ r := by
      have h1 := HWK.out.1.bl
      have h2 := HWK.out.1.gl (by simp)
      have h3 := HG3.out.size
      have h4 := HWK.out.2.1.size
      have h5 : (V.setCell ⟨g, 0, none⟩ (.bool true)).heap.size = V.heap.size := by simp [World.setCell]
      omega
    have hlen : (some [] :: Cd.nots (N - 1) : Kn).length = N := by simp [Cd.nots]; omega
    have HL : Hid (Wk w W4 b g #[.slice ka c.kinds.length kc, .int .i64 c.ins, .int .i64 c.outs, .int .i64 c.cells, .int .i64 c.stack, .slice ia c.init.length ic, .slice ba N bc] 0 none (some [] :: Cd.nots (N - 1)) ∧ W4.heap[r]? = some (.cells rulesV.toArray 78 (0, 0)) ∧ W4.cell? ⟨w.heap.size, 6, none⟩ = some (.slice ba N bc)) := Lib.hid ⟨HWK.out.1.on (by simp) hg4, hrr, by
      have h1 := cell_of_row V _ 6 _ _ _ HWK.out.2.2
      have h2 : (V.setCell ⟨g, 0, none⟩ (.bool true)).cell? ⟨w.heap.size, 6, none⟩ = some (.slice ba N bc) := by
        rw [World.cell?_setCell_far _ _ _ _ (by simp; omega)]
        exact h1
      exact hg4.cell h2 (by simp)⟩
    have k6 := HL.out.2.2
    clear hr hg4 hkr hrr HG3 HWK q74 q0 qf hlen HB HG0 hcs cs
    go_wp2
    obtain ⟨cs, hcs⟩ : ∃ cs : Array Value, cs = #[.slice ka c.kinds.length kc, .int .i64 c.ins, .int .i64 c.outs, .int .i64 c.cells, .int .i64 c.stack, .slice ia c.init.length ic, .slice ba N bc] := ⟨_, rfl⟩
    have HCO : Hid (Co cs c ∧ ∃ ka kc, cs[0]? = some (.slice ka c.kinds.length kc) ∧ NumsAt w ka c.kinds) := Lib.hid ⟨by rw [hcs]; exact ⟨⟨_, _, rfl⟩, rfl, rfl⟩, by rw [hcs]; exact ⟨_, _, rfl, HH.out.1.kinds⟩⟩
    rw [← hcs] at HL ⊢
    clear hcs
    generalize Value.agg (wk0 cs g N) = X12
    have HL0 : Hid (LpR w b g cs r c N D 0 W4) := Lib.hid ⟨0, none, _, HL.out.1, by simp [Cd.nots]; omega, fun l hl => by
      simp [Cd.nots] at hl
      subst hl
      exact ⟨by simpa using HH.out.2.2.1, by simp⟩, HL.out.2.1, by rw [HD.out, List.drop_zero, List.drop_zero, HN.out]⟩
    clear HL k6 hbl hgl
    go_loopw [21] (fun iv wr => ∃ t : Nat, t ≤ N ∧ iv = .int .i64 (t : Int) ∧ Hid (LpR w b g cs r c N D t wr)) (fun i _ => N - (intOf i).toNat)
    case atStart => exact ⟨0, Nat.zero_le _, rfl, HL0⟩
    case round =>
      obtain ⟨t, ht, rfl, HT⟩ := hrel
      by_cases hlt : t < N
      · obtain ⟨x, hx⟩ : ∃ x, c.body[t]? = some x := ⟨_, List.getElem?_eq_getElem (by rw [← HN.out]; exact hlt)⟩
        obtain ⟨b1, o1, rfl, hc1, hc2, hc3⟩ := HH.out.1.body t x hx
        obtain ⟨a0, s0, qs, hwk, hql, hsks, hrules, hgo⟩ := HT.out
        have p1 := hwk.grown.cell hc1 (by simp)
        have p2 := hwk.grown.cell hc2 (by simp)
        have p3 := hwk.grown.cell hc3 (by simp)
        have hx9 := HH.out.2.2.2.2.2.2 x (List.mem_iff_getElem?.2 ⟨_, hx⟩)
        obtain ⟨q, hqt⟩ : ∃ q, qs[t]? = some q := ⟨_, List.getElem?_eq_getElem (by rw [hql]; exact hlt)⟩
        obtain ⟨xo, xn, xk⟩ := x
        simp only at p1 p2 p3 hx9
        have hwk1 := hwk.on (by rw [hql]; exact hN0) (World.grownBy_alloc wr (.cells #[.int .i64 xo, .int .i64 xn, .int .i64 xk] 32) none)
        have y74 := hwk1.ways
        rw [hql] at y74
        have yq := (row_parts.1 (hwk1.rows t q hqt)).1
        have hru1 := row_alloc hrules (.cells #[.int .i64 xo, .int .i64 xn, .int .i64 xk] 32)
        have HX := Lib.hid (And.intro hx (And.intro hqt (And.intro hql (And.intro hsks (And.intro hgo (And.intro hx9 (And.intro hwk1 hru1)))))))
        have hbox1 := heap_alloc_new wr (.cells #[.int .i64 xo, .int .i64 xn, .int .i64 xk] 32)
        have hpn : wr.heap.size ≠ b ∧ wr.heap.size ≠ g ∧ wr.heap.size ≠ r := by
          have h1 := hwk.bl
          have h2 := hwk.gl (by rw [hql]; exact hN0)
          have h3 := gl hrules
          omega
        have HPB := Lib.hid (And.intro hbox1 hpn)
        clear hx hc1 hc2 hc3 hqt hql hsks hgo hx9 hwk1 hru1 hwk hrules hbox1 hpn
        cases q with
        | none =>
          simp only [Option.isSome_none] at yq
          go_wp2
          refine ⟨⟨t + 1, by omega, by go_num, Lib.hid ⟨a0, s0, qs, HX.out.2.2.2.2.2.2.1, HX.out.2.2.1, HX.out.2.2.2.1, HX.out.2.2.2.2.2.2.2, ?_⟩⟩, by simp [intOf]; omega⟩
          rw [← Cd.go_skip HX.out.1 HX.out.2.1]
          exact HX.out.2.2.2.2.1
        | some l =>
          simp only [Option.isSome_some] at yq
          have y7 := HX.out.2.2.2.2.2.2.1.place
          have f7 := HX.out.2.2.2.2.2.2.1.fr (o := 7) (by omega)
          go_wp2_with (with_reducible refine hold_ldS ?_)
          refine Lib.hid ?_
          refine wpList_load_mid rfl 74 _ rfl g (t * 66) rfl (rowC (some l)) _ (HX.out.2.2.2.2.2.2.1.rows t _ HX.out.2.1) Tryz.underlying74 rfl (by rw [rowC_len]; kernel_rfl) ?_
          go_wp2_with (with_reducible refine hold_stS ?_)
          refine Lib.hid ?_
          refine wpList_store_mid rfl 74 _ _ rfl b 8 (rowC (some l)).toArray rfl rfl (by
            rw [List.size_toArray, rowC_len]
            exact fun j hj => by
              have := there_set HX.out.2.2.2.2.2.2.1.tb ⟨b, 7, none⟩ (.int .i64 (t : Int)) (8 + j) (by omega)
              rwa [Nat.zero_add] at this) (by rw [List.size_toArray, rowC_len]; kernel_rfl) (row_one _) ?_
          rw [List.toList_toArray]
          have HQ := Lib.hid (Wk.come (t := t) (l := l) HX.out.2.2.2.2.2.2.1)
          generalize ((wr.alloc (.cells #[.int .i64 xo, .int .i64 xn, .int .i64 xk] 32)).setCell ⟨b, 7, none⟩ (.int .i64 (t : Int))).setCells b 8 (rowC (some l)) = W9 at HQ ⊢
          have hS9 : W9.drew.heap[wr.heap.size]? = some (.cells #[.int .i64 xo, .int .i64 xn, .int .i64 xk] 32 (0, 0)) ∧ W9.drew.heap[r]? = some (.cells rulesV.toArray 78 (0, 0)) := ⟨(HQ.out.2.block _ (gl HPB.out.1) (by simp; exact ⟨HPB.out.2.1, HPB.out.2.2.1⟩)).trans HPB.out.1, (HQ.out.2.block _ (gl HX.out.2.2.2.2.2.2.2) (by simp; exact ⟨hrb.1, hrb.2.1⟩)).trans HX.out.2.2.2.2.2.2.2⟩
          have hWK9 := HQ.out.1.drew
          clear y74 yq y7 f7 p1 p2 p3 HQ
          go_wp2
          refine wp_region_L (S := fun V => V.heap[wr.heap.size]? = some (.cells #[.int .i64 xo, .int .i64 xn, .int .i64 xk] 32 (0, 0)) ∧ V.heap[r]? = some (.cells rulesV.toArray 78 (0, 0))) (Z := []) (by kernel_rfl) ?_
          generalize W9.drew = W9 at hS9 hWK9 ⊢
          refine t2 0 41 (.agg #[.int .i64 xo, .int .i64 xn, .int .i64 xk]) (fun w' hw' => ?_) hS9 ?_
          · exact exec_load_mid 32 _ rfl wr.heap.size 0 rfl _ _ (row_range hw'.1) Tryz.underlying32 rfl (by kernel_rfl)
          (try simp only [Act.put, sA, sB, sC])
          have hact := Cd.go_act (c := c) HX.out.1 HX.out.2.1
          have hskl : Cd.Sk c l := HX.out.2.2.2.1 l (List.mem_iff_getElem?.2 ⟨_, HX.out.2.1⟩)
          rw [Cd.act_rule c ⟨xo, xn, xk⟩ l t qs HX.out.2.2.2.2.2.1.1 HX.out.2.2.2.2.2.1.2 HH.out.2.2.2.2.1 hskl, HX.out.2.2.2.2.1] at hact
          cases hbr : Cd.bare ⟨xo, xn, xk⟩ with
          | false =>
            rw [hbr] at hact
            simp only [Bool.false_eq_true, if_false] at hact
            refine wpL_call (i := 1) (d := 42) (R := fun v w' => v = .bool false ∧ W9.grownBy w' none) (by kernel_rfl) rfl rfl (by kernel_rfl) (by kernel_rfl) ((bare_any W9 xo xn xk).mono fun e w' he => ⟨_, he.1, by rw [hbr], he.2⟩) (fun v w' hR => ⟨(hR.2.block _ (gl hS9.1) (by simp)).trans hS9.1, (hR.2.block _ (gl hS9.2) (by simp)).trans hS9.2⟩) (fun v w' hR => ?_)
            obtain ⟨rfl, hgB⟩ := hR
            have hSB : w'.heap[wr.heap.size]? = some (.cells #[.int .i64 xo, .int .i64 xn, .int .i64 xk] 32 (0, 0)) ∧ w'.heap[r]? = some (.cells rulesV.toArray 78 (0, 0)) := ⟨(hgB.block _ (gl hS9.1) (by simp)).trans hS9.1, (hgB.block _ (gl hS9.2) (by simp)).trans hS9.2⟩
            (try simp only [Act.put, sA, sB, sC])
            refine t1 2 43 (.bool true) hSB ?_
            (try simp only [Act.put, sA, sB, sC])
            refine t1 3 44 (.bool true) hSB ?_
            (try simp only [Act.put, sA, sB, sC])
            refine t3 4 45 hSB ?_
            (try simp only [Act.put, sA, sB, sC])
            refine t3 5 46 hSB ?_
            (try simp only [Act.put, sA, sB, sC])
            refine t3 6 47 hSB ?_
            (try simp only [Act.put, sA, sB, sC])
            refine t3 7 48 hSB ?_
            (try simp only [Act.put, sA, sB, sC])
            refine t3 8 49 hSB ?_
            (try simp only [Act.put, sA, sB, sC])
            refine t3 9 50 hSB ?_
            (try simp only [Act.put, sA, sB, sC])
            refine t3 10 51 hSB ?_
            (try simp only [Act.put, sA, sB, sC])
            refine t1 11 52 (.bool true) hSB ?_
            (try simp only [Act.put, sA, sB, sC])
            refine wpL_done (by kernel_rfl) ?_ _
            have HF := Lib.hid (And.intro hact (hWK9.grown.trans hgB))
            clear hact hgB hWK9 hSB hS9
            go_wp2
            go_ret
            exact ⟨(by rw [HF.out.1]; rfl), HF.out.2⟩
          | true =>
            rw [hbr] at hact
            simp only [if_true] at hact
            refine wpL_call (i := 1) (d := 42) (R := fun v w' => v = .bool true ∧ W9.grownBy w' none) (by kernel_rfl) rfl rfl (by kernel_rfl) (by kernel_rfl) ((bare_any W9 xo xn xk).mono fun e w' he => ⟨_, he.1, by rw [hbr], he.2⟩) (fun v w' hR => ⟨(hR.2.block _ (gl hS9.1) (by simp)).trans hS9.1, (hR.2.block _ (gl hS9.2) (by simp)).trans hS9.2⟩) (fun v W10 hR => ?_)
            obtain ⟨rfl, hgB⟩ := hR
            have hSB : W10.heap[wr.heap.size]? = some (.cells #[.int .i64 xo, .int .i64 xn, .int .i64 xk] 32 (0, 0)) ∧ W10.heap[r]? = some (.cells rulesV.toArray 78 (0, 0)) := ⟨(hgB.block _ (gl hS9.1) (by simp)).trans hS9.1, (hgB.block _ (gl hS9.2) (by simp)).trans hS9.2⟩
            have hWKB := hWK9.on (by rw [HX.out.2.2.1]; exact hN0) hgB
            have hAt : At w W10 b g cs t c l qs := ⟨HCO.out.1, hWKB, hskl, HH.out.2.2.2.1, fun m hm => by have := (HX.out.2.2.2.1 m hm).1; have := HH.out.2.2.2.1; omega, by rw [HX.out.2.2.1]; exact hN1, by rw [HX.out.2.2.1]; exact hlt, HCO.out.2, HH.out.2.2.2.2.2.1⟩
            obtain ⟨f, hf1, hcf, hfc⟩ := rule_any w b g cs t c l qs xo xn xk HX.out.2.2.2.2.2.1.1 HX.out.2.2.2.2.2.1.2
            have hrule := hfc W10 hAt
            have hx19 := HX.out.2.2.2.2.2.1
            have HG10 := Lib.hid hWKB.grown
            have HBG := Lib.hid (And.intro hWKB.hb hWKB.hg)
            clear hfc hAt hWKB hS9 hgB hWK9
            obtain ⟨on, rfl⟩ : ∃ on : Nat, xo = on := ⟨xo.toNat, by omega⟩
            rw [Int.toNat_natCast] at hf1
            have hon : on < 10 := by omega
            (try simp only [Act.put, sA, sB, sC])
            refine t1 2 43 (.bool false) hSB ?_
            (try simp only [Act.put, sA, sB, sC])
            refine t1 3 44 (.bool false) hSB ?_
            (try simp only [Act.put, sA, sB, sC])
            refine t1 4 45 (.pointer (some ⟨wr.heap.size, 0, none⟩)) hSB ?_
            (try simp only [Act.put, sA, sB, sC])
            refine t2 5 46 (.int .i64 (on : Int)) (fun w' hw' => ?_) hSB ?_
            · have hc0 := cell_of_row w' _ 0 _ _ _ hw'.1; clear hw'; go_simp
            (try simp only [Act.put, sA, sB, sC])
            refine t2 6 47 (.pointer (some ⟨r, on, none⟩)) (fun w' hw' => ?_) hSB ?_
            · clear hw'; go_simp; (intro h10; omega)
            (try simp only [Act.put, sA, sB, sC])
            refine t2 7 48 (.func (.func f) #[] #[]) (fun w' hw' => ?_) hSB ?_
            · have hc0 : w'.cell? ⟨r, on, none⟩ = some (.func (.func f) #[] #[]) := by
                unfold World.cell?
                rw [hw'.2]
                simpa using hf1
              clear hw'; go_simp
            (try simp only [Act.put, sA, sB, sC])
            refine t2 8 49 (.agg #[.int .i64 (on : Int), .int .i64 xn, .int .i64 xk]) (fun w' hw' => ?_) hSB ?_
            · exact exec_load_mid 32 _ rfl wr.heap.size 0 rfl _ _ (row_range hw'.1) Tryz.underlying32 rfl (by kernel_rfl)
            (try simp only [Act.put, sA, sB, sC])
            refine wpL_call (i := 9) (d := 50) (R := fun v w' => v = .bool (Cd.rule c ⟨on, xn, xk⟩ l t qs).isSome ∧ RuP w W10 b g cs t (Cd.rule c ⟨on, xn, xk⟩ l t qs) (.returned v) w') (by kernel_rfl) rfl rfl (by kernel_rfl) (by go_simp) (hrule.mono fun e w' he => ⟨_, he.1, rfl, by rw [← he.1]; exact he⟩) (fun v w' hR => ⟨(hR.2.2.1.block _ (gl hSB.1) (by simp; exact ⟨HPB.out.2.1, HPB.out.2.2.1⟩)).trans hSB.1, (hR.2.2.1.block _ (gl hSB.2) (by simp; exact ⟨hrb.1, hrb.2.1⟩)).trans hSB.2⟩) (fun v W11 hR => ?_)
            obtain ⟨rfl, hRu⟩ := hR
            have hSC : W11.heap[wr.heap.size]? = some (.cells #[.int .i64 (on : Int), .int .i64 xn, .int .i64 xk] 32 (0, 0)) ∧ W11.heap[r]? = some (.cells rulesV.toArray 78 (0, 0)) := ⟨(hRu.2.1.block _ (gl hSB.1) (by simp; exact ⟨HPB.out.2.1, HPB.out.2.2.1⟩)).trans hSB.1, (hRu.2.1.block _ (gl hSB.2) (by simp; exact ⟨hrb.1, hrb.2.1⟩)).trans hSB.2⟩
            cases hR : Cd.rule c ⟨on, xn, xk⟩ l t qs with
            | none =>
              rw [hR] at hact hRu
              simp only [Option.isSome_none] at hRu ⊢
              (try simp only [Act.put, sA, sB, sC])
              refine t1 10 51 (.bool true) hSC ?_
              (try simp only [Act.put, sA, sB, sC])
              refine t1 11 52 (.bool true) hSC ?_
              (try simp only [Act.put, sA, sB, sC])
              refine wpL_done (by kernel_rfl) ?_ _
              have HF := Lib.hid (And.intro hact (Kp.grown HG10.out hRu.2.1 (fun k hk => by simp at hk; rcases hk with rfl | rfl; exact HBG.out.1; exact HBG.out.2)))
              clear hact hRu hSB hSC hrule
              go_wp2
              go_ret
              exact ⟨(by rw [HF.out.1]; rfl), HF.out.2⟩
            | some q =>
              rw [hR] at hact hRu
              simp only [Option.isSome_some] at hRu ⊢
              (try simp only [Act.put, sA, sB, sC])
              refine t1 10 51 (.bool false) hSC ?_
              (try simp only [Act.put, sA, sB, sC])
              refine t1 11 52 (.bool false) hSC ?_
              (try simp only [Act.put, sA, sB, sC])
              refine wpL_done (by kernel_rfl) ?_ _
              obtain ⟨s', hwq⟩ := hRu.2.2 q rfl
              obtain ⟨hsq, hlq⟩ := Cd.rule_sks HH.out.2.2.2.2.2.1 hskl HX.out.2.2.2.1 hR
              have HF : Hid (LpR w b g cs r c N D (t + 1) W11) := Lib.hid ⟨t, s', q, hwq, hlq.trans HX.out.2.2.1, hsq, hSC.2, hact.symm⟩
              clear hact hRu hSB hSC hrule hwq hsq hlq
              go_wp2
              exact ⟨⟨t + 1, by omega, by go_num, HF⟩, by simp [intOf]; omega⟩
      · obtain rfl : t = N := by omega
        have HDT : Hid (D = true) := Lib.hid (by
          obtain ⟨_, _, qs, _, _, _, _, h⟩ := HT.out
          rw [← h, HN.out]
          exact Cd.go_end)
        have HGT : Hid (w.grownBy wr none) := Lib.hid (by
          obtain ⟨_, _, _, h, _⟩ := HT.out
          exact h.grown)
        go_wp2
        go_ret
        exact ⟨(by rw [HDT.out]; rfl), HGT.out⟩
  · obtain ⟨W1, hW1⟩ : ∃ W1, W1 = W0.alloc (.cells zeroW 76) := ⟨_, rfl⟩
    have hS1 : W1.heap[w.heap.size]? = some (.cells #[.slice ka c.kinds.length kc, .int .i64 c.ins, .int .i64 c.outs, .int .i64 c.cells, .int .i64 c.stack, .slice ia c.init.length ic, .slice ba N bc] 27 (0, 0)) := by rw [hW1]; exact heap_alloc_old _ _ hsz |>.trans hS0
    have hbr1 : W1.heap[W0.heap.size]? = some (.cells zeroW 76 (0, 0)) := by rw [hW1]; exact heap_alloc_new W0 _
    have hz1 : W1.heap.size = W0.heap.size + 1 := by rw [hW1, World.size_alloc]
    have hgw1 : w.grownBy W1 none := by rw [hW1]; exact HG0.out.trans (World.grownBy_alloc W0 _ none)
    refine wpOp_val (v := .pointer (some ⟨W0.heap.size, 0, none⟩)) (w' := W1) rfl rfl (by kernel_rfl) (by rw [hW1]; kernel_rfl) ?_
    clear hW1
    refine ⟨fun _ => hS1, ?_⟩
    (try simp only [Act.put, sA, sB, sC])
    obtain ⟨W2, hW2⟩ : ∃ W2, W2 = W1.alloc (.cells (madeCells (rowC none).toArray (N * 66)) 74) := ⟨_, rfl⟩
    have hS2 : W2.heap[w.heap.size]? = some (.cells #[.slice ka c.kinds.length kc, .int .i64 c.ins, .int .i64 c.outs, .int .i64 c.cells, .int .i64 c.stack, .slice ia c.init.length ic, .slice ba N bc] 27 (0, 0)) := by rw [hW2]; exact heap_alloc_old _ _ (gl hS1) |>.trans hS1
    have hbr2 : W2.heap[W0.heap.size]? = some (.cells zeroW 76 (0, 0)) := by rw [hW2]; exact heap_alloc_old _ _ (gl hbr1) |>.trans hbr1
    have hgr2 : W2.heap[W1.heap.size]? = some (.cells (madeCells (rowC none).toArray (N * 66)) 74 (0, 0)) := by rw [hW2]; exact heap_alloc_new W1 _
    have hgw2 : w.grownBy W2 none := by rw [hW2]; exact hgw1.trans (World.grownBy_alloc W1 _ none)
    refine wpL_val (i := 4) (d := 11) (v := .slice (some ⟨W1.heap.size, 0, none⟩) N N) (w' := W2) (by kernel_rfl) rfl rfl (by kernel_rfl) ?_ hS2 ?_
    · have := hmk W1
      rw [hW2]
      go_simp
    (try simp only [Act.put, sA, sB, sC])
    clear hW2
    refine t2 5 12 (.agg (wk0 #[.slice ka c.kinds.length kc, .int .i64 c.ins, .int .i64 c.outs, .int .i64 c.cells, .int .i64 c.stack, .slice ia c.init.length ic, .slice ba N bc] W1.heap.size N)) (fun w' hw' => ?_) hS2 ?_
    · kernel_rfl
    (try simp only [Act.put, sA, sB, sC])
    obtain ⟨b, hb⟩ : ∃ b, b = W0.heap.size := ⟨_, rfl⟩
    obtain ⟨g, hg⟩ : ∃ g, g = W1.heap.size := ⟨_, rfl⟩
    have hgl : w.heap.size < g := by omega
    have hbl : w.heap.size < b := by omega
    have hne : b ≠ g := by omega
    rw [← hb] at hbr2 ⊢
    rw [← hg] at hgr2 ⊢
    clear hb hg hz1 hbr1 hS1 hgw1
    refine wpL_store (i := 7) b (wk0 #[.slice ka c.kinds.length kc, .int .i64 c.ins, .int .i64 c.outs, .int .i64 c.cells, .int .i64 c.stack, .slice ia c.init.length ic, .slice ba N bc] g N) zeroW 76 76 (.tmp 3) (.tmp 12) (by kernel_rfl) rfl (by kernel_rfl) rfl rfl rfl rfl hbr2 (by rw [wk0_size rfl]; kernel_rfl) (by rw [wk0_size rfl, zeroW_size]) (wk0_one (by kernel_rfl) g N) (fun V hbV hgV2 => ⟨?_, ?_⟩)
    · exact (hgV2.block _ (gl hS2) (by simp; omega)).trans hS2
    refine wpL_done (by kernel_rfl) ?_ _
    have hgV : V.heap[g]? = some (.cells (madeCells (rowC none).toArray (N * 66)) 74 (0, 0)) := (hgV2.block _ (gl hgr2) (by simp; omega)).trans hgr2
    have hSV : V.heap[w.heap.size]? = some (.cells #[.slice ka c.kinds.length kc, .int .i64 c.ins, .int .i64 c.outs, .int .i64 c.cells, .int .i64 c.stack, .slice ia c.init.length ic, .slice ba N bc] 27 (0, 0)) := (hgV2.block _ (gl hS2) (by simp; omega)).trans hS2
    have hgw : w.grownBy V none := Kp.grown hgw2 (Kp.of hgV2 [b] (fun k e _ => by cases e; simp)) (fun k hk => by simp at hk; omega)
    have HWK := Lib.hid (And.intro (wk0_new (W := w) (cs := #[.slice ka c.kinds.length kc, .int .i64 c.ins, .int .i64 c.outs, .int .i64 c.cells, .int .i64 c.stack, .slice ia c.init.length ic, .slice ba N bc]) hN0 hgw (by omega) (by omega) hne rfl hbV hgV) (And.intro hgw hSV))
    have q74 : V.cell? ⟨b, 74, none⟩ = some (.slice (some ⟨g, 0, none⟩) N N) := by
      have := (wk0_new (W := w) (cs := #[.slice ka c.kinds.length kc, .int .i64 c.ins, .int .i64 c.outs, .int .i64 c.cells, .int .i64 c.stack, .slice ia c.init.length ic, .slice ba N bc]) hN0 hgw (by omega) (by omega) hne rfl hbV hgV).ways
      rw [World.cell?_setCell_far _ _ _ _ (fun e => hne e.symm)] at this
      have e : (some [] :: Cd.nots (N - 1) : Kn).length = N := by simp [Cd.nots]; omega
      rw [e] at this
      exact this
    have q0 : V.cell? ⟨g, 0, none⟩ = some (.bool false) := by
      have := made_rows N 0 0 hN0 (by omega)
      unfold World.cell?
      rw [hgV]
      have e : (rowC none)[0]? = some (.bool false) := rfl
      rw [e] at this
      simpa using this
    have qf : V.frozen? ⟨g, 0, none⟩ = false := by simp [World.frozen?, hgV]
    clear hbV hgV hSV hgw hgV2 hS2 hbr2 hgr2 hgw2 hS0 hsz hmk
    go_wp2_with (first | (go_at_call 33; refine (rulesOf_any _).mono ?_; rintro e W3 ⟨rfl, hg3⟩; have HG3 := Lib.hid hg3; clear hg3) | (with_reducible refine hold_stR ?_))
    refine Lib.hid ?_
    refine wpList_plain rfl fun K' hK' => wp_store_row 78 _ _ rfl W3.heap.size rulesV.toArray rfl rfl _ _ (heap_alloc_new W3 _) (by kernel_rfl) rfl (by kernel_rfl) (hK' _ _ ?_)
    have hrr := setRow_at (cs := rulesV.toArray) (heap_alloc_new W3 (.cells #[.nilFunc, .nilFunc, .nilFunc, .nilFunc, .nilFunc, .nilFunc, .nilFunc, .nilFunc, .nilFunc, .nilFunc] 78))
    have hkr : Kp [W3.heap.size] W3 ((W3.alloc (.cells #[.nilFunc, .nilFunc, .nilFunc, .nilFunc, .nilFunc, .nilFunc, .nilFunc, .nilFunc, .nilFunc, .nilFunc] 78)).setRow W3.heap.size rulesV.toArray) := (Kp.of0 (World.grownBy_alloc W3 _ none) _).trans (Kp.of (grown_setRow _ _ _) _ (fun k e _ => by cases e; simp))
    have hg4 := Kp.grown HG3.out (hkr.mono (fun k hk _ => hk)) (fun k hk => by simp at hk; rw [hk]; exact HG3.out.size)
    generalize (W3.alloc (.cells #[.nilFunc, .nilFunc, .nilFunc, .nilFunc, .nilFunc, .nilFunc, .nilFunc, .nilFunc, .nilFunc, .nilFunc] 78)).setRow W3.heap.size rulesV.toArray = W4 at hrr hg4 ⊢
    obtain ⟨r, hr⟩ : ∃ r, r = W3.heap.size := ⟨_, rfl⟩
    rw [← hr] at hrr ⊢
    have hrb : r ≠ b ∧ r ≠ g ∧ w.heap.size ≤ r := by
      have h1 := HWK.out.1.bl
      have h2 := HWK.out.1.gl (by simp)
      have h3 := HG3.out.size
      have h4 := HWK.out.2.1.size
      have h5 : (V.setCell ⟨g, 0, none⟩ (.bool true)).heap.size = V.heap.size := by simp [World.setCell]
      omega
    have hlen : (some [] :: Cd.nots (N - 1) : Kn).length = N := by simp [Cd.nots]; omega
    have HL : Hid (Wk w W4 b g #[.slice ka c.kinds.length kc, .int .i64 c.ins, .int .i64 c.outs, .int .i64 c.cells, .int .i64 c.stack, .slice ia c.init.length ic, .slice ba N bc] 0 none (some [] :: Cd.nots (N - 1)) ∧ W4.heap[r]? = some (.cells rulesV.toArray 78 (0, 0)) ∧ W4.cell? ⟨w.heap.size, 6, none⟩ = some (.slice ba N bc)) := Lib.hid ⟨HWK.out.1.on (by simp) hg4, hrr, by
      have h1 := cell_of_row V _ 6 _ _ _ HWK.out.2.2
      have h2 : (V.setCell ⟨g, 0, none⟩ (.bool true)).cell? ⟨w.heap.size, 6, none⟩ = some (.slice ba N bc) := by
        rw [World.cell?_setCell_far _ _ _ _ (by simp; omega)]
        exact h1
      exact hg4.cell h2 (by simp)⟩
    have k6 := HL.out.2.2
    clear hr hg4 hkr hrr HG3 HWK q74 q0 qf hlen HB HG0 hcs cs
    go_wp2
    obtain ⟨cs, hcs⟩ : ∃ cs : Array Value, cs = #[.slice ka c.kinds.length kc, .int .i64 c.ins, .int .i64 c.outs, .int .i64 c.cells, .int .i64 c.stack, .slice ia c.init.length ic, .slice ba N bc] := ⟨_, rfl⟩
    have HCO : Hid (Co cs c ∧ ∃ ka kc, cs[0]? = some (.slice ka c.kinds.length kc) ∧ NumsAt w ka c.kinds) := Lib.hid ⟨by rw [hcs]; exact ⟨⟨_, _, rfl⟩, rfl, rfl⟩, by rw [hcs]; exact ⟨_, _, rfl, HH.out.1.kinds⟩⟩
    rw [← hcs] at HL ⊢
    clear hcs
    generalize Value.agg (wk0 cs g N) = X12
    have HL0 : Hid (LpR w b g cs r c N D 0 W4) := Lib.hid ⟨0, none, _, HL.out.1, by simp [Cd.nots]; omega, fun l hl => by
      simp [Cd.nots] at hl
      subst hl
      exact ⟨by simpa using HH.out.2.2.1, by simp⟩, HL.out.2.1, by rw [HD.out, List.drop_zero, List.drop_zero, HN.out]⟩
    clear HL k6 hbl hgl
    go_loopw [21] (fun iv wr => ∃ t : Nat, t ≤ N ∧ iv = .int .i64 (t : Int) ∧ Hid (LpR w b g cs r c N D t wr)) (fun i _ => N - (intOf i).toNat)
    case atStart => exact ⟨0, Nat.zero_le _, rfl, HL0⟩
    case round =>
      obtain ⟨t, ht, rfl, HT⟩ := hrel
      by_cases hlt : t < N
      · obtain ⟨x, hx⟩ : ∃ x, c.body[t]? = some x := ⟨_, List.getElem?_eq_getElem (by rw [← HN.out]; exact hlt)⟩
        obtain ⟨b1, o1, rfl, hc1, hc2, hc3⟩ := HH.out.1.body t x hx
        obtain ⟨a0, s0, qs, hwk, hql, hsks, hrules, hgo⟩ := HT.out
        have p1 := hwk.grown.cell hc1 (by simp)
        have p2 := hwk.grown.cell hc2 (by simp)
        have p3 := hwk.grown.cell hc3 (by simp)
        have hx9 := HH.out.2.2.2.2.2.2 x (List.mem_iff_getElem?.2 ⟨_, hx⟩)
        obtain ⟨q, hqt⟩ : ∃ q, qs[t]? = some q := ⟨_, List.getElem?_eq_getElem (by rw [hql]; exact hlt)⟩
        obtain ⟨xo, xn, xk⟩ := x
        simp only at p1 p2 p3 hx9
        have hwk1 := hwk.on (by rw [hql]; exact hN0) (World.grownBy_alloc wr (.cells #[.int .i64 xo, .int .i64 xn, .int .i64 xk] 32) none)
        have y74 := hwk1.ways
        rw [hql] at y74
        have yq := (row_parts.1 (hwk1.rows t q hqt)).1
        have hru1 := row_alloc hrules (.cells #[.int .i64 xo, .int .i64 xn, .int .i64 xk] 32)
        have HX := Lib.hid (And.intro hx (And.intro hqt (And.intro hql (And.intro hsks (And.intro hgo (And.intro hx9 (And.intro hwk1 hru1)))))))
        have hbox1 := heap_alloc_new wr (.cells #[.int .i64 xo, .int .i64 xn, .int .i64 xk] 32)
        have hpn : wr.heap.size ≠ b ∧ wr.heap.size ≠ g ∧ wr.heap.size ≠ r := by
          have h1 := hwk.bl
          have h2 := hwk.gl (by rw [hql]; exact hN0)
          have h3 := gl hrules
          omega
        have HPB := Lib.hid (And.intro hbox1 hpn)
        clear hx hc1 hc2 hc3 hqt hql hsks hgo hx9 hwk1 hru1 hwk hrules hbox1 hpn
        cases q with
        | none =>
          simp only [Option.isSome_none] at yq
          go_wp2
          refine ⟨⟨t + 1, by omega, by go_num, Lib.hid ⟨a0, s0, qs, HX.out.2.2.2.2.2.2.1, HX.out.2.2.1, HX.out.2.2.2.1, HX.out.2.2.2.2.2.2.2, ?_⟩⟩, by simp [intOf]; omega⟩
          rw [← Cd.go_skip HX.out.1 HX.out.2.1]
          exact HX.out.2.2.2.2.1
        | some l =>
          simp only [Option.isSome_some] at yq
          have y7 := HX.out.2.2.2.2.2.2.1.place
          have f7 := HX.out.2.2.2.2.2.2.1.fr (o := 7) (by omega)
          go_wp2_with (with_reducible refine hold_ldS ?_)
          refine Lib.hid ?_
          refine wpList_load_mid rfl 74 _ rfl g (t * 66) rfl (rowC (some l)) _ (HX.out.2.2.2.2.2.2.1.rows t _ HX.out.2.1) Tryz.underlying74 rfl (by rw [rowC_len]; kernel_rfl) ?_
          go_wp2_with (with_reducible refine hold_stS ?_)
          refine Lib.hid ?_
          refine wpList_store_mid rfl 74 _ _ rfl b 8 (rowC (some l)).toArray rfl rfl (by
            rw [List.size_toArray, rowC_len]
            exact fun j hj => by
              have := there_set HX.out.2.2.2.2.2.2.1.tb ⟨b, 7, none⟩ (.int .i64 (t : Int)) (8 + j) (by omega)
              rwa [Nat.zero_add] at this) (by rw [List.size_toArray, rowC_len]; kernel_rfl) (row_one _) ?_
          rw [List.toList_toArray]
          have HQ := Lib.hid (Wk.come (t := t) (l := l) HX.out.2.2.2.2.2.2.1)
          generalize ((wr.alloc (.cells #[.int .i64 xo, .int .i64 xn, .int .i64 xk] 32)).setCell ⟨b, 7, none⟩ (.int .i64 (t : Int))).setCells b 8 (rowC (some l)) = W9 at HQ ⊢
          have hS9 : W9.drew.heap[wr.heap.size]? = some (.cells #[.int .i64 xo, .int .i64 xn, .int .i64 xk] 32 (0, 0)) ∧ W9.drew.heap[r]? = some (.cells rulesV.toArray 78 (0, 0)) := ⟨(HQ.out.2.block _ (gl HPB.out.1) (by simp; exact ⟨HPB.out.2.1, HPB.out.2.2.1⟩)).trans HPB.out.1, (HQ.out.2.block _ (gl HX.out.2.2.2.2.2.2.2) (by simp; exact ⟨hrb.1, hrb.2.1⟩)).trans HX.out.2.2.2.2.2.2.2⟩
          have hWK9 := HQ.out.1.drew
          clear y74 yq y7 f7 p1 p2 p3 HQ
          go_wp2
          refine wp_region_L (S := fun V => V.heap[wr.heap.size]? = some (.cells #[.int .i64 xo, .int .i64 xn, .int .i64 xk] 32 (0, 0)) ∧ V.heap[r]? = some (.cells rulesV.toArray 78 (0, 0))) (Z := []) (by kernel_rfl) ?_
          generalize W9.drew = W9 at hS9 hWK9 ⊢
          refine t2 0 41 (.agg #[.int .i64 xo, .int .i64 xn, .int .i64 xk]) (fun w' hw' => ?_) hS9 ?_
          · exact exec_load_mid 32 _ rfl wr.heap.size 0 rfl _ _ (row_range hw'.1) Tryz.underlying32 rfl (by kernel_rfl)
          (try simp only [Act.put, sA, sB, sC])
          have hact := Cd.go_act (c := c) HX.out.1 HX.out.2.1
          have hskl : Cd.Sk c l := HX.out.2.2.2.1 l (List.mem_iff_getElem?.2 ⟨_, HX.out.2.1⟩)
          rw [Cd.act_rule c ⟨xo, xn, xk⟩ l t qs HX.out.2.2.2.2.2.1.1 HX.out.2.2.2.2.2.1.2 HH.out.2.2.2.2.1 hskl, HX.out.2.2.2.2.1] at hact
          cases hbr : Cd.bare ⟨xo, xn, xk⟩ with
          | false =>
            rw [hbr] at hact
            simp only [Bool.false_eq_true, if_false] at hact
            refine wpL_call (i := 1) (d := 42) (R := fun v w' => v = .bool false ∧ W9.grownBy w' none) (by kernel_rfl) rfl rfl (by kernel_rfl) (by kernel_rfl) ((bare_any W9 xo xn xk).mono fun e w' he => ⟨_, he.1, by rw [hbr], he.2⟩) (fun v w' hR => ⟨(hR.2.block _ (gl hS9.1) (by simp)).trans hS9.1, (hR.2.block _ (gl hS9.2) (by simp)).trans hS9.2⟩) (fun v w' hR => ?_)
            obtain ⟨rfl, hgB⟩ := hR
            have hSB : w'.heap[wr.heap.size]? = some (.cells #[.int .i64 xo, .int .i64 xn, .int .i64 xk] 32 (0, 0)) ∧ w'.heap[r]? = some (.cells rulesV.toArray 78 (0, 0)) := ⟨(hgB.block _ (gl hS9.1) (by simp)).trans hS9.1, (hgB.block _ (gl hS9.2) (by simp)).trans hS9.2⟩
            (try simp only [Act.put, sA, sB, sC])
            refine t1 2 43 (.bool true) hSB ?_
            (try simp only [Act.put, sA, sB, sC])
            refine t1 3 44 (.bool true) hSB ?_
            (try simp only [Act.put, sA, sB, sC])
            refine t3 4 45 hSB ?_
            (try simp only [Act.put, sA, sB, sC])
            refine t3 5 46 hSB ?_
            (try simp only [Act.put, sA, sB, sC])
            refine t3 6 47 hSB ?_
            (try simp only [Act.put, sA, sB, sC])
            refine t3 7 48 hSB ?_
            (try simp only [Act.put, sA, sB, sC])
            refine t3 8 49 hSB ?_
            (try simp only [Act.put, sA, sB, sC])
            refine t3 9 50 hSB ?_
            (try simp only [Act.put, sA, sB, sC])
            refine t3 10 51 hSB ?_
            (try simp only [Act.put, sA, sB, sC])
            refine t1 11 52 (.bool true) hSB ?_
            (try simp only [Act.put, sA, sB, sC])
            refine wpL_done (by kernel_rfl) ?_ _
            have HF := Lib.hid (And.intro hact (hWK9.grown.trans hgB))
            clear hact hgB hWK9 hSB hS9
            go_wp2
            go_ret
            exact ⟨(by rw [HF.out.1]; rfl), HF.out.2⟩
          | true =>
            rw [hbr] at hact
            simp only [if_true] at hact
            refine wpL_call (i := 1) (d := 42) (R := fun v w' => v = .bool true ∧ W9.grownBy w' none) (by kernel_rfl) rfl rfl (by kernel_rfl) (by kernel_rfl) ((bare_any W9 xo xn xk).mono fun e w' he => ⟨_, he.1, by rw [hbr], he.2⟩) (fun v w' hR => ⟨(hR.2.block _ (gl hS9.1) (by simp)).trans hS9.1, (hR.2.block _ (gl hS9.2) (by simp)).trans hS9.2⟩) (fun v W10 hR => ?_)
            obtain ⟨rfl, hgB⟩ := hR
            have hSB : W10.heap[wr.heap.size]? = some (.cells #[.int .i64 xo, .int .i64 xn, .int .i64 xk] 32 (0, 0)) ∧ W10.heap[r]? = some (.cells rulesV.toArray 78 (0, 0)) := ⟨(hgB.block _ (gl hS9.1) (by simp)).trans hS9.1, (hgB.block _ (gl hS9.2) (by simp)).trans hS9.2⟩
            have hWKB := hWK9.on (by rw [HX.out.2.2.1]; exact hN0) hgB
            have hAt : At w W10 b g cs t c l qs := ⟨HCO.out.1, hWKB, hskl, HH.out.2.2.2.1, fun m hm => by have := (HX.out.2.2.2.1 m hm).1; have := HH.out.2.2.2.1; omega, by rw [HX.out.2.2.1]; exact hN1, by rw [HX.out.2.2.1]; exact hlt, HCO.out.2, HH.out.2.2.2.2.2.1⟩
            obtain ⟨f, hf1, hcf, hfc⟩ := rule_any w b g cs t c l qs xo xn xk HX.out.2.2.2.2.2.1.1 HX.out.2.2.2.2.2.1.2
            have hrule := hfc W10 hAt
            have hx19 := HX.out.2.2.2.2.2.1
            have HG10 := Lib.hid hWKB.grown
            have HBG := Lib.hid (And.intro hWKB.hb hWKB.hg)
            clear hfc hAt hWKB hS9 hgB hWK9
            obtain ⟨on, rfl⟩ : ∃ on : Nat, xo = on := ⟨xo.toNat, by omega⟩
            rw [Int.toNat_natCast] at hf1
            have hon : on < 10 := by omega
            (try simp only [Act.put, sA, sB, sC])
            refine t1 2 43 (.bool false) hSB ?_
            (try simp only [Act.put, sA, sB, sC])
            refine t1 3 44 (.bool false) hSB ?_
            (try simp only [Act.put, sA, sB, sC])
            refine t1 4 45 (.pointer (some ⟨wr.heap.size, 0, none⟩)) hSB ?_
            (try simp only [Act.put, sA, sB, sC])
            refine t2 5 46 (.int .i64 (on : Int)) (fun w' hw' => ?_) hSB ?_
            · have hc0 := cell_of_row w' _ 0 _ _ _ hw'.1; clear hw'; go_simp
            (try simp only [Act.put, sA, sB, sC])
            refine t2 6 47 (.pointer (some ⟨r, on, none⟩)) (fun w' hw' => ?_) hSB ?_
            · clear hw'; go_simp; (intro h10; omega)
            (try simp only [Act.put, sA, sB, sC])
            refine t2 7 48 (.func (.func f) #[] #[]) (fun w' hw' => ?_) hSB ?_
            · have hc0 : w'.cell? ⟨r, on, none⟩ = some (.func (.func f) #[] #[]) := by
                unfold World.cell?
                rw [hw'.2]
                simpa using hf1
              clear hw'; go_simp
            (try simp only [Act.put, sA, sB, sC])
            refine t2 8 49 (.agg #[.int .i64 (on : Int), .int .i64 xn, .int .i64 xk]) (fun w' hw' => ?_) hSB ?_
            · exact exec_load_mid 32 _ rfl wr.heap.size 0 rfl _ _ (row_range hw'.1) Tryz.underlying32 rfl (by kernel_rfl)
            (try simp only [Act.put, sA, sB, sC])
            refine wpL_call (i := 9) (d := 50) (R := fun v w' => v = .bool (Cd.rule c ⟨on, xn, xk⟩ l t qs).isSome ∧ RuP w W10 b g cs t (Cd.rule c ⟨on, xn, xk⟩ l t qs) (.returned v) w') (by kernel_rfl) rfl rfl (by kernel_rfl) (by go_simp) (hrule.mono fun e w' he => ⟨_, he.1, rfl, by rw [← he.1]; exact he⟩) (fun v w' hR => ⟨(hR.2.2.1.block _ (gl hSB.1) (by simp; exact ⟨HPB.out.2.1, HPB.out.2.2.1⟩)).trans hSB.1, (hR.2.2.1.block _ (gl hSB.2) (by simp; exact ⟨hrb.1, hrb.2.1⟩)).trans hSB.2⟩) (fun v W11 hR => ?_)
            obtain ⟨rfl, hRu⟩ := hR
            have hSC : W11.heap[wr.heap.size]? = some (.cells #[.int .i64 (on : Int), .int .i64 xn, .int .i64 xk] 32 (0, 0)) ∧ W11.heap[r]? = some (.cells rulesV.toArray 78 (0, 0)) := ⟨(hRu.2.1.block _ (gl hSB.1) (by simp; exact ⟨HPB.out.2.1, HPB.out.2.2.1⟩)).trans hSB.1, (hRu.2.1.block _ (gl hSB.2) (by simp; exact ⟨hrb.1, hrb.2.1⟩)).trans hSB.2⟩
            cases hR : Cd.rule c ⟨on, xn, xk⟩ l t qs with
            | none =>
              rw [hR] at hact hRu
              simp only [Option.isSome_none] at hRu ⊢
              (try simp only [Act.put, sA, sB, sC])
              refine t1 10 51 (.bool true) hSC ?_
              (try simp only [Act.put, sA, sB, sC])
              refine t1 11 52 (.bool true) hSC ?_
              (try simp only [Act.put, sA, sB, sC])
              refine wpL_done (by kernel_rfl) ?_ _
              have HF := Lib.hid (And.intro hact (Kp.grown HG10.out hRu.2.1 (fun k hk => by simp at hk; rcases hk with rfl | rfl; exact HBG.out.1; exact HBG.out.2)))
              clear hact hRu hSB hSC hrule
              go_wp2
              go_ret
              exact ⟨(by rw [HF.out.1]; rfl), HF.out.2⟩
            | some q =>
              rw [hR] at hact hRu
              simp only [Option.isSome_some] at hRu ⊢
              (try simp only [Act.put, sA, sB, sC])
              refine t1 10 51 (.bool false) hSC ?_
              (try simp only [Act.put, sA, sB, sC])
              refine t1 11 52 (.bool false) hSC ?_
              (try simp only [Act.put, sA, sB, sC])
              refine wpL_done (by kernel_rfl) ?_ _
              obtain ⟨s', hwq⟩ := hRu.2.2 q rfl
              obtain ⟨hsq, hlq⟩ := Cd.rule_sks HH.out.2.2.2.2.2.1 hskl HX.out.2.2.2.1 hR
              have HF : Hid (LpR w b g cs r c N D (t + 1) W11) := Lib.hid ⟨t, s', q, hwq, hlq.trans HX.out.2.2.1, hsq, hSC.2, hact.symm⟩
              clear hact hRu hSB hSC hrule hwq hsq hlq
              go_wp2
              exact ⟨⟨t + 1, by omega, by go_num, HF⟩, by simp [intOf]; omega⟩
      · obtain rfl : t = N := by omega
        have HDT : Hid (D = true) := Lib.hid (by
          obtain ⟨_, _, qs, _, _, _, _, h⟩ := HT.out
          rw [← h, HN.out]
          exact Cd.go_end)
        have HGT : Hid (w.grownBy wr none) := Lib.hid (by
          obtain ⟨_, _, _, h, _⟩ := HT.out
          exact h.grown)
        go_wp2
        go_ret
        exact ⟨(by rw [HDT.out]; rfl), HGT.out⟩
end Go.Proofs.YtfbhflpjhbemlaaGreat

/- Package code: isFormed, Check: what chapter 19 says of Check is so. -/
namespace Go.Proofs.YtfbhflpjhbemlaaGreat
open Go.RowKit Go.Maps Go.WideMaps
open Cd (Kn)

theorem bad_is (c : Cd.Code) : Cd.bad c = !(decide (Cnt c) && ((c.kinds.all fun k => decide (0 < Bv.wid k)) && (iniB c && opsB c.body))) := by
  have h1 : decide (Cnt c) = !(decide (c.ins < 0) || decide (c.outs < 0) || decide (c.cells < 0) || decide (c.stack < 0) || decide ((c.kinds.length : Int) < c.ins) || decide ((c.kinds.length : Int) < c.outs) || decide ((c.kinds.length : Int) < c.cells) || decide ((c.kinds.length : Int) < c.ins + c.outs + c.cells)) := by
    rw [Bool.eq_iff_iff]
    simp only [decide_eq_true_eq, Bool.not_eq_true', Bool.or_eq_false_iff, decide_eq_false_iff_not]
    unfold Cnt
    omega
  have h2 : iniB c = !(((c.init.length : Int) != c.cells) || !((c.init.zip (c.kinds.drop (c.ins + c.outs).toNat)).all fun p => Bv.isv p.2 p.1)) := by
    unfold iniB
    rw [Bool.not_or, Bool.not_not, bne, Bool.not_not]
  rw [h1, h2]
  unfold Cd.bad opsB
  generalize (c.kinds.all fun k => decide (0 < Bv.wid k)) = a
  generalize ((c.init.zip (c.kinds.drop (c.ins + c.outs).toNat)).all fun p => Bv.isv p.2 p.1) = b
  generalize (c.body.all fun x => decide (1 ≤ x.op) && decide (x.op ≤ 9)) = d
  generalize ((c.init.length : Int) != c.cells) = f
  generalize (decide (c.ins < 0) || decide (c.outs < 0) || decide (c.cells < 0) || decide (c.stack < 0) || decide ((c.kinds.length : Int) < c.ins) || decide ((c.kinds.length : Int) < c.outs) || decide ((c.kinds.length : Int) < c.cells) || decide ((c.kinds.length : Int) < c.ins + c.outs + c.cells)) = k
  cases c.body.getLast? with
  | none => cases a <;> cases b <;> cases d <;> cases f <;> cases k <;> rfl
  | some x =>
    simp only [bne]
    generalize (x.op == 9) = e
    cases a <;> cases b <;> cases d <;> cases e <;> cases f <;> cases k <;> rfl

/-- the box that code came in -/
def Cb (W : World) (w : World) (cs : Array Value) (V : World) : Prop := w.grownBy V none ∧ V.heap[W.heap.size]? = some (.cells cs 27 (0, 0))
theorem Cb.on {W w V V' : World} {cs : Array Value} (h : Cb W w cs V) (hg : V.grownBy V' none) : Cb W w cs V' := ⟨h.1.trans hg, (hg.block _ (gl h.2) (by simp)).trans h.2⟩

def fmB (c : Cd.Code) : Bool := decide (Cnt c) && ((c.kinds.all fun k => decide (0 < Bv.wid k)) && (iniB c && opsB c.body))

theorem hold_ldC {P : Program} {ops : Array Oper} {rest : List Oper} {d : Option Tmp} {p : Operand} {ty : TypeId} {s : String} {af : Array Edge} {g : Option (Nat × Bool)} {a : Act} {w : World} {Q : Exit → Act → World → Prop}
    (hK : Hid (wpList P ops Q ({ dst := d, op := Op.load 27 p, type := ty, pos := s, after := af, guard := g } :: rest) a w)) :
    wpList P ops Q ({ dst := d, op := Op.load 27 p, type := ty, pos := s, after := af, guard := g } :: rest) a w := hK

set_option maxHeartbeats 4000000 in
theorem isFormed_any (w : World) (c : Cd.Code) (ka : Option Addr) (kc : Nat) (ia : Option Addr) (ic : Nat) (ba : Option Addr) (bc : Nat) (hkc : c.kinds.length ≤ kc) (hc : CodeAt w c ka ia ba) (hK : c.kinds.length ≤ 8000) (hB : c.body.length ≤ 60000) :
    Calls Tryz.prog 18 #[.agg (codeV c ka kc ia ic ba bc)] w fun e w' => e = .returned (.bool (fmB c)) ∧ w.grownBy w' none := by
  have f1 := fun V => hasCounts_any V c ka kc ia ic ba bc hK
  have f2 := fun V (h : w.grownBy V none) => hasKinds_any V c ka kc ia ic ba bc (hc.kinds.on h) (by unfold maxLen; omega)
  have f3 := fun V (h : w.grownBy V none) (hcn : Cnt c) => hasInits_any V c ka kc ia ic ba bc hkc (hc.kinds.on h) (hc.init.on h) hK hcn
  have f4 := fun V (h : w.grownBy V none) => hasOps_any V c ka kc ia ic ba bc (hc.body.on h) hB
  have hg0 := World.grownBy_alloc w (.cells (codeV c ka kc ia ic ba bc) 27) none
  have hr0 := heap_alloc_new w (.cells (codeV c ka kc ia ic ba bc) 27)
  have H0 : Cb w w (codeV c ka kc ia ic ba bc) (w.alloc (.cells (codeV c ka kc ia ic ba bc) 27)) := ⟨hg0, hr0⟩
  replace H0 := Lib.hid H0
  clear hg0 hr0
  obtain ⟨D, hD⟩ : ∃ D : Bool, D = fmB c := ⟨_, rfl⟩
  rw [← hD]
  unfold fmB at hD
  clear hc
  unfold codeV at f1 f2 f3 f4 H0
  unfold codeV
  by_cases h1 : Cnt c
  · rw [decide_eq_true h1, Bool.true_and] at hD
    have f3 := fun V h => f3 V h h1
    simp only [decide_eq_true h1] at f1
    clear h1 hkc hK hB
    cases h2 : (c.kinds.all fun k => decide (0 < Bv.wid k)) with
    | true =>
      rw [h2, Bool.true_and] at hD
      simp only [h2] at f2
      clear h2
      cases h3 : iniB c with
      | true =>
        rw [h3, Bool.true_and] at hD
        simp only [h3] at f3
        clear h3
        have HD := Lib.hid hD
        clear hD
        generalize opsB c.body = ob at f4 HD
        generalize c.kinds.length = K at *
        generalize c.body.length = B at *
        generalize c.init.length = I at *
        generalize c.stack = s at *
        generalize c.ins = ci at *
        generalize c.outs = co at *
        generalize c.cells = cc at *
        go_enter Tryz.func18, Tryz.ntmps18
        go_wp2_with (first | (go_at_call 29; refine (f1 _).mono ?_; rintro e w1 ⟨rfl, hg1⟩; have H1 := Lib.hid (H0.out.on hg1); clear hg1; have u0 := cell_of_row w1 _ 0 _ _ _ H1.out.2; have u1 := cell_of_row w1 _ 1 _ _ _ H1.out.2; have u2 := cell_of_row w1 _ 2 _ _ _ H1.out.2; have u3 := cell_of_row w1 _ 3 _ _ _ H1.out.2; have u4 := cell_of_row w1 _ 4 _ _ _ H1.out.2; have u5 := cell_of_row w1 _ 5 _ _ _ H1.out.2; have u6 := cell_of_row w1 _ 6 _ _ _ H1.out.2) | (go_at_call 30; refine (f2 _ H1.out.1).mono ?_; rintro e w2 ⟨rfl, hg2⟩; have H2 := Lib.hid (H1.out.on hg2); clear hg2; have u0 := cell_of_row w2 _ 0 _ _ _ H2.out.2; have u1 := cell_of_row w2 _ 1 _ _ _ H2.out.2; have u2 := cell_of_row w2 _ 2 _ _ _ H2.out.2; have u3 := cell_of_row w2 _ 3 _ _ _ H2.out.2; have u4 := cell_of_row w2 _ 4 _ _ _ H2.out.2; have u5 := cell_of_row w2 _ 5 _ _ _ H2.out.2; have u6 := cell_of_row w2 _ 6 _ _ _ H2.out.2) | (go_at_call 31; refine (f3 _ H2.out.1).mono ?_; rintro e w3 ⟨rfl, hg3⟩; have H3 := Lib.hid (H2.out.on hg3); clear hg3; have u0 := cell_of_row w3 _ 0 _ _ _ H3.out.2; have u1 := cell_of_row w3 _ 1 _ _ _ H3.out.2; have u2 := cell_of_row w3 _ 2 _ _ _ H3.out.2; have u3 := cell_of_row w3 _ 3 _ _ _ H3.out.2; have u4 := cell_of_row w3 _ 4 _ _ _ H3.out.2; have u5 := cell_of_row w3 _ 5 _ _ _ H3.out.2; have u6 := cell_of_row w3 _ 6 _ _ _ H3.out.2) | (go_at_call 32; refine (f4 _ H3.out.1).mono ?_; rintro e w4 ⟨rfl, hg4⟩; have H4 := Lib.hid (H3.out.on hg4); clear hg4; have u0 := cell_of_row w4 _ 0 _ _ _ H4.out.2; have u1 := cell_of_row w4 _ 1 _ _ _ H4.out.2; have u2 := cell_of_row w4 _ 2 _ _ _ H4.out.2; have u3 := cell_of_row w4 _ 3 _ _ _ H4.out.2; have u4 := cell_of_row w4 _ 4 _ _ _ H4.out.2; have u5 := cell_of_row w4 _ 5 _ _ _ H4.out.2; have u6 := cell_of_row w4 _ 6 _ _ _ H4.out.2))
        go_ret
        exact ⟨(by rw [HD.out]; rfl), H4.out.1⟩
      | false =>
        rw [h3, Bool.false_and] at hD
        simp only [h3] at f3
        clear h3 f4
        have HD := Lib.hid hD
        clear hD
        generalize c.kinds.length = K at *
        generalize c.body.length = B at *
        generalize c.init.length = I at *
        generalize c.stack = s at *
        generalize c.ins = ci at *
        generalize c.outs = co at *
        generalize c.cells = cc at *
        go_enter Tryz.func18, Tryz.ntmps18
        go_wp2_with (first | (go_at_call 29; refine (f1 _).mono ?_; rintro e w1 ⟨rfl, hg1⟩; have H1 := Lib.hid (H0.out.on hg1); clear hg1; have u0 := cell_of_row w1 _ 0 _ _ _ H1.out.2; have u1 := cell_of_row w1 _ 1 _ _ _ H1.out.2; have u2 := cell_of_row w1 _ 2 _ _ _ H1.out.2; have u3 := cell_of_row w1 _ 3 _ _ _ H1.out.2; have u4 := cell_of_row w1 _ 4 _ _ _ H1.out.2; have u5 := cell_of_row w1 _ 5 _ _ _ H1.out.2; have u6 := cell_of_row w1 _ 6 _ _ _ H1.out.2) | (go_at_call 30; refine (f2 _ H1.out.1).mono ?_; rintro e w2 ⟨rfl, hg2⟩; have H2 := Lib.hid (H1.out.on hg2); clear hg2; have u0 := cell_of_row w2 _ 0 _ _ _ H2.out.2; have u1 := cell_of_row w2 _ 1 _ _ _ H2.out.2; have u2 := cell_of_row w2 _ 2 _ _ _ H2.out.2; have u3 := cell_of_row w2 _ 3 _ _ _ H2.out.2; have u4 := cell_of_row w2 _ 4 _ _ _ H2.out.2; have u5 := cell_of_row w2 _ 5 _ _ _ H2.out.2; have u6 := cell_of_row w2 _ 6 _ _ _ H2.out.2) | (go_at_call 31; refine (f3 _ H2.out.1).mono ?_; rintro e w3 ⟨rfl, hg3⟩; have H3 := Lib.hid (H2.out.on hg3); clear hg3; have u0 := cell_of_row w3 _ 0 _ _ _ H3.out.2; have u1 := cell_of_row w3 _ 1 _ _ _ H3.out.2; have u2 := cell_of_row w3 _ 2 _ _ _ H3.out.2; have u3 := cell_of_row w3 _ 3 _ _ _ H3.out.2; have u4 := cell_of_row w3 _ 4 _ _ _ H3.out.2; have u5 := cell_of_row w3 _ 5 _ _ _ H3.out.2; have u6 := cell_of_row w3 _ 6 _ _ _ H3.out.2))
        go_ret
        exact ⟨(by rw [HD.out]; rfl), H3.out.1⟩
    | false =>
      rw [h2, Bool.false_and] at hD
      simp only [h2] at f2
      clear h2 f3 f4
      have HD := Lib.hid hD
      clear hD
      generalize c.kinds.length = K at *
      generalize c.body.length = B at *
      generalize c.init.length = I at *
      generalize c.stack = s at *
      generalize c.ins = ci at *
      generalize c.outs = co at *
      generalize c.cells = cc at *
      go_enter Tryz.func18, Tryz.ntmps18
      go_wp2_with (first | (go_at_call 29; refine (f1 _).mono ?_; rintro e w1 ⟨rfl, hg1⟩; have H1 := Lib.hid (H0.out.on hg1); clear hg1; have u0 := cell_of_row w1 _ 0 _ _ _ H1.out.2; have u1 := cell_of_row w1 _ 1 _ _ _ H1.out.2; have u2 := cell_of_row w1 _ 2 _ _ _ H1.out.2; have u3 := cell_of_row w1 _ 3 _ _ _ H1.out.2; have u4 := cell_of_row w1 _ 4 _ _ _ H1.out.2; have u5 := cell_of_row w1 _ 5 _ _ _ H1.out.2; have u6 := cell_of_row w1 _ 6 _ _ _ H1.out.2) | (go_at_call 30; refine (f2 _ H1.out.1).mono ?_; rintro e w2 ⟨rfl, hg2⟩; have H2 := Lib.hid (H1.out.on hg2); clear hg2; have u0 := cell_of_row w2 _ 0 _ _ _ H2.out.2; have u1 := cell_of_row w2 _ 1 _ _ _ H2.out.2; have u2 := cell_of_row w2 _ 2 _ _ _ H2.out.2; have u3 := cell_of_row w2 _ 3 _ _ _ H2.out.2; have u4 := cell_of_row w2 _ 4 _ _ _ H2.out.2; have u5 := cell_of_row w2 _ 5 _ _ _ H2.out.2; have u6 := cell_of_row w2 _ 6 _ _ _ H2.out.2))
      go_ret
      exact ⟨(by rw [HD.out]; rfl), H2.out.1⟩
  · rw [decide_eq_false h1, Bool.false_and] at hD
    simp only [decide_eq_false h1] at f1
    clear h1 f2 f3 f4 hkc hK hB
    have HD := Lib.hid hD
    clear hD
    generalize c.kinds.length = K at *
    generalize c.body.length = B at *
    generalize c.init.length = I at *
    generalize c.stack = s at *
    generalize c.ins = ci at *
    generalize c.outs = co at *
    generalize c.cells = cc at *
    go_enter Tryz.func18, Tryz.ntmps18
    go_wp2_with (go_at_call 29; refine (f1 _).mono ?_; rintro e w1 ⟨rfl, hg1⟩; have H1 := Lib.hid (H0.out.on hg1); clear hg1; have u0 := cell_of_row w1 _ 0 _ _ _ H1.out.2; have u1 := cell_of_row w1 _ 1 _ _ _ H1.out.2; have u2 := cell_of_row w1 _ 2 _ _ _ H1.out.2; have u3 := cell_of_row w1 _ 3 _ _ _ H1.out.2; have u4 := cell_of_row w1 _ 4 _ _ _ H1.out.2; have u5 := cell_of_row w1 _ 5 _ _ _ H1.out.2; have u6 := cell_of_row w1 _ 6 _ _ _ H1.out.2)
    go_ret
    exact ⟨(by rw [HD.out]; rfl), H1.out.1⟩

/-- what is formed has kinds, counts and instructions that can be -/
theorem formed_of {c : Cd.Code} (h : fmB c = true) : Cnt c ∧ (∀ k ∈ c.kinds, 1 ≤ k ∧ k ≤ 9) ∧ 0 < c.body.length ∧ ∀ x ∈ c.body, 1 ≤ x.op ∧ x.op ≤ 9 := by
  unfold fmB at h
  simp only [Bool.and_eq_true, decide_eq_true_eq] at h
  obtain ⟨h1, h2, h3, h4⟩ := h
  unfold opsB at h4
  simp only [Bool.and_eq_true] at h4
  refine ⟨h1, fun k hk => ?_, ?_, fun x hx => ?_⟩
  · have := List.all_eq_true.1 h2 k hk
    exact Cd.wid_k (by simpa using this)
  · cases hb : c.body with
    | nil => rw [hb] at h4; simp at h4
    | cons a b => simp
  · have := List.all_eq_true.1 h4.1 x hx
    simpa using this

set_option maxHeartbeats 4000000 in
theorem ccheck_any : CCheck := by
  intro w c ka kc ia ic ba bc hc h64 hkc
  have g1 := fun V => isShort_any V c ka kc ia ic ba bc
  have hg0 := World.grownBy_alloc w (.cells (codeV c ka kc ia ic ba bc) 27) none
  have hr0 := heap_alloc_new w (.cells (codeV c ka kc ia ic ba bc) 27)
  have H0 : Cb w w (codeV c ka kc ia ic ba bc) (w.alloc (.cells (codeV c ka kc ia ic ba bc) 27)) := ⟨hg0, hr0⟩
  replace H0 := Lib.hid H0
  clear hg0 hr0 h64
  obtain ⟨D, hD⟩ : ∃ D : Int, D = Cd.check c := ⟨_, rfl⟩
  rw [← hD]
  unfold Cd.check at hD
  by_cases hs : 60000 < c.body.length ∨ 8000 < c.kinds.length ∨ 64 < c.stack
  · rw [if_pos hs] at hD
    simp only [decide_eq_true hs, Bool.not_true] at g1
    clear hs hc hkc
    have HD := Lib.hid hD
    clear hD
    unfold codeV at g1 H0 ⊢
    generalize c.kinds.length = K at *
    generalize c.body.length = B at *
    generalize c.init.length = I at *
    generalize c.stack = s at *
    generalize c.ins = ci at *
    generalize c.outs = co at *
    generalize c.cells = cc at *
    go_enter Tryz.func10, Tryz.ntmps10
    go_wp2_with (go_at_call 17; refine (g1 _).mono ?_; rintro e w1 ⟨rfl, hg1⟩; have H1 := Lib.hid (H0.out.on hg1); clear hg1; have u0 := cell_of_row w1 _ 0 _ _ _ H1.out.2; have u1 := cell_of_row w1 _ 1 _ _ _ H1.out.2; have u2 := cell_of_row w1 _ 2 _ _ _ H1.out.2; have u3 := cell_of_row w1 _ 3 _ _ _ H1.out.2; have u4 := cell_of_row w1 _ 4 _ _ _ H1.out.2; have u5 := cell_of_row w1 _ 5 _ _ _ H1.out.2; have u6 := cell_of_row w1 _ 6 _ _ _ H1.out.2)
    all_goals go_ret
    all_goals exact ⟨(by rw [HD.out]; rfl), H1.out.1⟩
  · rw [if_neg hs] at hD
    simp only [decide_eq_false hs, Bool.not_false] at g1
    have g2 := fun V (h : w.grownBy V none) => isFormed_any V c ka kc ia ic ba bc hkc (hc.on h) (by omega) (by omega)
    have hb : Cd.bad c = !fmB c := bad_is c
    rw [hb] at hD
    cases hf : fmB c with
    | false =>
      rw [hf, Bool.not_false, if_pos rfl] at hD
      simp only [hf] at g2
      clear hs hc hkc hb hf
      have HD := Lib.hid hD
      clear hD
      unfold codeV at g1 g2 H0 ⊢
      generalize c.kinds.length = K at *
      generalize c.body.length = B at *
      generalize c.init.length = I at *
      generalize c.stack = s at *
      generalize c.ins = ci at *
      generalize c.outs = co at *
      generalize c.cells = cc at *
      go_enter Tryz.func10, Tryz.ntmps10
      go_wp2_with (first | (go_at_call 17; refine (g1 _).mono ?_; rintro e w1 ⟨rfl, hg1⟩; have H1 := Lib.hid (H0.out.on hg1); clear hg1; have u0 := cell_of_row w1 _ 0 _ _ _ H1.out.2; have u1 := cell_of_row w1 _ 1 _ _ _ H1.out.2; have u2 := cell_of_row w1 _ 2 _ _ _ H1.out.2; have u3 := cell_of_row w1 _ 3 _ _ _ H1.out.2; have u4 := cell_of_row w1 _ 4 _ _ _ H1.out.2; have u5 := cell_of_row w1 _ 5 _ _ _ H1.out.2; have u6 := cell_of_row w1 _ 6 _ _ _ H1.out.2) | (go_at_call 18; refine (g2 _ H1.out.1).mono ?_; rintro e w2 ⟨rfl, hg2⟩; have H2 := Lib.hid (H1.out.on hg2); clear hg2; have u0 := cell_of_row w2 _ 0 _ _ _ H2.out.2; have u1 := cell_of_row w2 _ 1 _ _ _ H2.out.2; have u2 := cell_of_row w2 _ 2 _ _ _ H2.out.2; have u3 := cell_of_row w2 _ 3 _ _ _ H2.out.2; have u4 := cell_of_row w2 _ 4 _ _ _ H2.out.2; have u5 := cell_of_row w2 _ 5 _ _ _ H2.out.2; have u6 := cell_of_row w2 _ 6 _ _ _ H2.out.2))
      all_goals go_ret
      all_goals exact ⟨(by rw [HD.out]; rfl), H2.out.1⟩
    | true =>
      rw [hf, Bool.not_true, if_neg (by decide)] at hD
      simp only [hf] at g2
      obtain ⟨x1, x2, x3, x4⟩ := formed_of hf
      have g3 := fun V (h : w.grownBy V none) => canRun_any V c ka kc ia ic ba bc (hc.on h) (by omega) x3 x1.2.2.2.1 (by omega) x1.1.1 x2 x4
      have e : Cd.go c c.body (some [] :: List.replicate (c.body.length - 1) none) = Cd.go c c.body (some [] :: Cd.nots (c.body.length - 1)) := rfl
      rw [e] at hD
      clear hs hc hkc hb hf x1 x2 x3 x4 e
      cases hg : Cd.go c c.body (some [] :: Cd.nots (c.body.length - 1)) with
      | true =>
        rw [hg, if_pos rfl] at hD
        simp only [hg] at g3
        clear hg
        have HD := Lib.hid hD
        clear hD
        unfold codeV at g1 g2 g3 H0 ⊢
        generalize c.kinds.length = K at *
        generalize c.body.length = B at *
        generalize c.init.length = I at *
        generalize c.stack = s at *
        generalize c.ins = ci at *
        generalize c.outs = co at *
        generalize c.cells = cc at *
        go_enter Tryz.func10, Tryz.ntmps10
        go_wp2_with (first | (go_at_call 17; refine (g1 _).mono ?_; rintro e w1 ⟨rfl, hg1⟩; have H1 := Lib.hid (H0.out.on hg1); clear hg1; have u0 := cell_of_row w1 _ 0 _ _ _ H1.out.2; have u1 := cell_of_row w1 _ 1 _ _ _ H1.out.2; have u2 := cell_of_row w1 _ 2 _ _ _ H1.out.2; have u3 := cell_of_row w1 _ 3 _ _ _ H1.out.2; have u4 := cell_of_row w1 _ 4 _ _ _ H1.out.2; have u5 := cell_of_row w1 _ 5 _ _ _ H1.out.2; have u6 := cell_of_row w1 _ 6 _ _ _ H1.out.2) | (go_at_call 18; refine (g2 _ H1.out.1).mono ?_; rintro e w2 ⟨rfl, hg2⟩; have H2 := Lib.hid (H1.out.on hg2); clear hg2; have u0 := cell_of_row w2 _ 0 _ _ _ H2.out.2; have u1 := cell_of_row w2 _ 1 _ _ _ H2.out.2; have u2 := cell_of_row w2 _ 2 _ _ _ H2.out.2; have u3 := cell_of_row w2 _ 3 _ _ _ H2.out.2; have u4 := cell_of_row w2 _ 4 _ _ _ H2.out.2; have u5 := cell_of_row w2 _ 5 _ _ _ H2.out.2; have u6 := cell_of_row w2 _ 6 _ _ _ H2.out.2) | (go_at_call 19; refine (g3 _ H2.out.1).mono ?_; rintro e w3 ⟨rfl, hg3⟩; have H3 := Lib.hid (H2.out.on hg3); clear hg3; have u0 := cell_of_row w3 _ 0 _ _ _ H3.out.2; have u1 := cell_of_row w3 _ 1 _ _ _ H3.out.2; have u2 := cell_of_row w3 _ 2 _ _ _ H3.out.2; have u3 := cell_of_row w3 _ 3 _ _ _ H3.out.2; have u4 := cell_of_row w3 _ 4 _ _ _ H3.out.2; have u5 := cell_of_row w3 _ 5 _ _ _ H3.out.2; have u6 := cell_of_row w3 _ 6 _ _ _ H3.out.2))
        all_goals go_ret
        all_goals exact ⟨(by rw [HD.out]; rfl), H3.out.1⟩
      | false =>
        rw [hg, if_neg (by decide)] at hD
        simp only [hg] at g3
        clear hg
        have HD := Lib.hid hD
        clear hD
        unfold codeV at g1 g2 g3 H0 ⊢
        generalize c.kinds.length = K at *
        generalize c.body.length = B at *
        generalize c.init.length = I at *
        generalize c.stack = s at *
        generalize c.ins = ci at *
        generalize c.outs = co at *
        generalize c.cells = cc at *
        go_enter Tryz.func10, Tryz.ntmps10
        go_wp2_with (first | (go_at_call 17; refine (g1 _).mono ?_; rintro e w1 ⟨rfl, hg1⟩; have H1 := Lib.hid (H0.out.on hg1); clear hg1; have u0 := cell_of_row w1 _ 0 _ _ _ H1.out.2; have u1 := cell_of_row w1 _ 1 _ _ _ H1.out.2; have u2 := cell_of_row w1 _ 2 _ _ _ H1.out.2; have u3 := cell_of_row w1 _ 3 _ _ _ H1.out.2; have u4 := cell_of_row w1 _ 4 _ _ _ H1.out.2; have u5 := cell_of_row w1 _ 5 _ _ _ H1.out.2; have u6 := cell_of_row w1 _ 6 _ _ _ H1.out.2) | (go_at_call 18; refine (g2 _ H1.out.1).mono ?_; rintro e w2 ⟨rfl, hg2⟩; have H2 := Lib.hid (H1.out.on hg2); clear hg2; have u0 := cell_of_row w2 _ 0 _ _ _ H2.out.2; have u1 := cell_of_row w2 _ 1 _ _ _ H2.out.2; have u2 := cell_of_row w2 _ 2 _ _ _ H2.out.2; have u3 := cell_of_row w2 _ 3 _ _ _ H2.out.2; have u4 := cell_of_row w2 _ 4 _ _ _ H2.out.2; have u5 := cell_of_row w2 _ 5 _ _ _ H2.out.2; have u6 := cell_of_row w2 _ 6 _ _ _ H2.out.2) | (go_at_call 19; refine (g3 _ H2.out.1).mono ?_; rintro e w3 ⟨rfl, hg3⟩; have H3 := Lib.hid (H2.out.on hg3); clear hg3; have u0 := cell_of_row w3 _ 0 _ _ _ H3.out.2; have u1 := cell_of_row w3 _ 1 _ _ _ H3.out.2; have u2 := cell_of_row w3 _ 2 _ _ _ H3.out.2; have u3 := cell_of_row w3 _ 3 _ _ _ H3.out.2; have u4 := cell_of_row w3 _ 4 _ _ _ H3.out.2; have u5 := cell_of_row w3 _ 5 _ _ _ H3.out.2; have u6 := cell_of_row w3 _ 6 _ _ _ H3.out.2))
        all_goals go_ret
        all_goals exact ⟨(by rw [HD.out]; rfl), H3.out.1⟩
end Go.Proofs.YtfbhflpjhbemlaaGreat
