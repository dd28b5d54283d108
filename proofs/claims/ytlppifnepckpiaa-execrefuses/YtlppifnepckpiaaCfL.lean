/- Package code: isShort, hasCounts, hasKinds. -/
import Derived.Test.YtlppifnepckpiaaCfF
namespace Go.Proofs.Ytlppifnepckpiaa
open Go.RowKit Go.Maps Go.WideMaps
open Cd (Kn)

theorem len63 {n : Nat} (h : n ≤ maxLen) : n ≤ 9223372036854775807 := by simpa [maxLen] using h

set_option maxHeartbeats 2000000 in
theorem isShort_any (w : World) (c : Cd.Code) (ka : Option Addr) (kc : Nat) (ia : Option Addr) (ic : Nat) (ba : Option Addr) (bc : Nat) :
    Calls Try.prog 15 #[.agg (codeV c ka kc ia ic ba bc)] w fun e w' => e = .returned (.bool (!decide (60000 < c.body.length ∨ 8000 < c.kinds.length ∨ 64 < c.stack))) ∧ w.grownBy w' none := by
  unfold codeV
  have hg := World.grownBy_alloc w (.cells #[.slice ka c.kinds.length kc, .int .i64 c.ins, .int .i64 c.outs, .int .i64 c.cells, .int .i64 c.stack, .slice ia c.init.length ic, .slice ba c.body.length bc] 30) none
  have HG := Lib.hid hg
  clear hg
  generalize c.kinds.length = K at *
  generalize c.body.length = B at *
  generalize c.init.length = I at *
  generalize c.stack = s at *
  generalize c.ins = ci at *
  generalize c.outs = co at *
  generalize c.cells = cc at *
  by_cases h1 : B ≤ 60000
  · have d1 : decide ((B : Int) ≤ 60000) = true := by rw [decide_eq_true_iff]; omega
    by_cases h2 : K ≤ 8000
    · have d2 : decide ((K : Int) ≤ 8000) = true := by rw [decide_eq_true_iff]; omega
      have e : (!decide (60000 < B ∨ 8000 < K ∨ 64 < s)) = decide (s ≤ 64) := by
        by_cases h3 : s ≤ 64
        · rw [decide_eq_true h3, decide_eq_false (by omega)]; rfl
        · rw [decide_eq_false h3, decide_eq_true (by omega)]; rfl
      rw [e]
      go_enter Try.func15, Try.ntmps15
      go_wp2
      go_ret
      exact ⟨rfl, HG.out⟩
    · have d2 : decide ((K : Int) ≤ 8000) = false := by rw [decide_eq_false_iff_not]; omega
      rw [decide_eq_true (show 60000 < B ∨ 8000 < K ∨ 64 < s by omega)]
      go_enter Try.func15, Try.ntmps15
      go_wp2
      go_ret
      exact ⟨rfl, HG.out⟩
  · have d1 : decide ((B : Int) ≤ 60000) = false := by rw [decide_eq_false_iff_not]; omega
    rw [decide_eq_true (show 60000 < B ∨ 8000 < K ∨ 64 < s by omega)]
    go_enter Try.func15, Try.ntmps15
    go_wp2
    go_ret
    exact ⟨rfl, HG.out⟩

set_option maxHeartbeats 2000000 in
theorem hasKinds_any (w : World) (c : Cd.Code) (ka : Option Addr) (kc : Nat) (ia : Option Addr) (ic : Nat) (ba : Option Addr) (bc : Nat) (hn : NumsAt w ka c.kinds) (hm : c.kinds.length ≤ maxLen) :
    Calls Try.prog 21 #[.agg (codeV c ka kc ia ic ba bc)] w fun e w' => e = .returned (.bool (c.kinds.all fun k => decide (0 < Bv.wid k))) ∧ w.grownBy w' none := by
  unfold codeV
  have hg := World.grownBy_alloc w (.cells #[.slice ka c.kinds.length kc, .int .i64 c.ins, .int .i64 c.outs, .int .i64 c.cells, .int .i64 c.stack, .slice ia c.init.length ic, .slice ba c.body.length bc] 30) none
  have HG := Lib.hid hg
  have HN := Lib.hid hn
  have hm := len63 hm
  clear hg hn
  obtain ⟨l, hl⟩ : ∃ l, l = c.kinds := ⟨_, rfl⟩
  rw [← hl] at HN hm HG ⊢
  clear hl
  obtain ⟨K, hK⟩ : ∃ K, K = l.length := ⟨_, rfl⟩
  rw [← hK] at hm HG ⊢
  have HK := Lib.hid hK
  clear hK
  generalize c.body.length = B at *
  generalize c.init.length = I at *
  generalize c.stack = s at *
  generalize c.ins = ci at *
  generalize c.outs = co at *
  generalize c.cells = cc at *
  have hkd := fun x V => isKind_any x V
  go_enter Try.func21, Try.ntmps21
  go_wp2
  go_loopw [8] (fun iv wr => ∃ t : Nat, t ≤ K ∧ iv = .int .i64 (t : Int) ∧ Hid ((l.take t).all (fun k => decide (0 < Bv.wid k)) = true ∧ w.grownBy wr none)) (fun i _ => K - (intOf i).toNat)
  case atStart => exact ⟨0, Nat.zero_le _, rfl, Lib.hid ⟨by simp, HG.out⟩⟩
  case round =>
    obtain ⟨t, ht, rfl, HT⟩ := hrel
    by_cases hlt : t < K
    · obtain ⟨x, hx⟩ : ∃ x, l[t]? = some x := ⟨_, List.getElem?_eq_getElem (by rw [← HK.out]; exact hlt)⟩
      obtain ⟨b1, o1, rfl, hc1⟩ := HN.out t x hx
      have p1 := HT.out.2.cell hc1 (by simp)
      have HX := Lib.hid hx
      clear hx hc1
      have hkx := fun V => hkd x V
      by_cases hxy : 0 < Bv.wid x
      · have e2 : decide (0 < Bv.wid x) = true := by simpa using hxy
        have HXY := Lib.hid e2
        simp only [e2] at hkx
        clear hxy e2
        go_wp2_with (go_at_call 37; refine (hkx _).mono ?_; rintro e w' ⟨rfl, hw'⟩; obtain rfl := hw'.symm)
        refine ⟨⟨t + 1, by omega, by go_num, Lib.hid ⟨?_, HT.out.2⟩⟩, by simp [intOf]; omega⟩
        rw [List.take_add_one, List.all_append, HX.out, HT.out.1]
        simp [HXY.out]
      · have e2 : decide (0 < Bv.wid x) = false := by simpa using hxy
        have HD : Hid ((l.all fun k => decide (0 < Bv.wid k)) = false) := Lib.hid (by
          rw [List.all_eq_false]
          exact ⟨x, List.mem_iff_getElem?.2 ⟨_, HX.out⟩, by simpa using e2⟩)
        simp only [e2] at hkx
        clear hxy e2
        go_wp2_with (go_at_call 37; refine (hkx _).mono ?_; rintro e w' ⟨rfl, hw'⟩; obtain rfl := hw'.symm)
        go_ret
        exact ⟨(by rw [HD.out]; rfl), HT.out.2⟩
    · obtain rfl : t = K := by omega
      have HD : Hid ((l.all fun k => decide (0 < Bv.wid k)) = true) := Lib.hid (by
        have := HT.out.1
        rw [HK.out, List.take_length] at this
        exact this)
      go_wp2
      go_ret
      exact ⟨(by rw [HD.out]; rfl), HT.out.2⟩
end Go.Proofs.Ytlppifnepckpiaa
