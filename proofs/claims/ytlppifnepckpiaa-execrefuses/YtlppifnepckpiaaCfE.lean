/- Package code: the walker's put and isSlot; the rules push, jump, branch, end. -/
import Derived.Test.YtlppifnepckpiaaCfD
import Derived.Test.YtlppifnepckpiaaBvN
namespace Go.Proofs.Ytlppifnepckpiaa
open Go.RowKit Go.Maps Go.WideMaps
open Cd (Kn)

theorem cell_code {W w : World} {b g : Nat} {cs : Array Value} {at_ : Nat} {s : Option (List Int)} {qs : Kn} (h : Wk W w b g cs at_ s qs) (j : Nat) {v : Value} (hv : cs[j]? = some v) : w.cell? ⟨b, j, none⟩ = some v := by
  have := h.code j v (by simpa using hv)
  rwa [Nat.zero_add] at this
/-- what the walker has of the code -/
structure Co (cs : Array Value) (c : Cd.Code) : Prop where
  kinds : ∃ ka kc, cs[0]? = some (.slice ka c.kinds.length kc)
  ins : cs[1]? = some (.int .i64 c.ins)
  stack : cs[4]? = some (.int .i64 c.stack)

set_option maxHeartbeats 1000000 in
theorem wput_no (W : World) (b g : Nat) (cs : Array Value) (at_ : Nat) (c : Cd.Code) (hc : Co cs c) (l : List Int) (qs : Kn) (k : Int) (hl : l.length ≤ 64) (hno : c.stack ≤ l.length) (w : World) (h : Wk W w b g cs at_ (some l) qs) :
    Calls Try.prog 52 #[.pointer (some ⟨b, 0, none⟩), .int .i64 k] w fun e w' => e = .returned (.bool false) ∧ w.grownBy w' none := by
  obtain ⟨-, c1, -⟩ := row_parts.1 h.now
  simp only [Option.getD_some, Nat.reduceAdd] at c1
  have c4 := cell_code h 4 hc.stack
  have hd : decide (c.stack ≤ (l.length : Int)) = true := by simpa using hno
  clear h hc
  generalize l.length = n at *
  go_enter Try.func52, Try.ntmps52
  go_wp2
  go_quiet (fail)
  go_wp2
  go_ret
  exact ⟨rfl, grown_drewN _ _ _⟩

set_option maxHeartbeats 1000000 in
theorem wput_yes (W : World) (b g : Nat) (cs : Array Value) (at_ : Nat) (c : Cd.Code) (hc : Co cs c) (l : List Int) (qs : Kn) (k : Int) (hk : 1 ≤ k ∧ k ≤ 9) (hl : l.length < 64) (hlt : (l.length : Int) < c.stack) (w : World) (h : Wk W w b g cs at_ (some l) qs) :
    Calls Try.prog 52 #[.pointer (some ⟨b, 0, none⟩), .int .i64 k] w fun e w' => e = .returned (.bool true) ∧ Wk W w' b g cs at_ (some (k :: l)) qs ∧ Kp [b, g] w w' := by
  obtain ⟨-, c1, -⟩ := row_parts.1 h.now
  simp only [Option.getD_some, Nat.reduceAdd] at c1
  have c4 := cell_code h 4 hc.stack
  have hd : decide (c.stack ≤ (l.length : Int)) = false := by rw [decide_eq_false_iff_not]; omega
  have hp := fun m => sput_any W b g cs at_ l qs k hl hk (w.drewN m) (h.drewN m)
  have HK := fun (m : Nat) (V : World) (hv : Kp [b, g] (w.drewN m) V) => Lib.hid (show Kp [b, g] w V from ⟨hv.os, hv.tape, hv.output, hv.size, hv.block⟩)
  clear h hc
  generalize l.length = n at *
  go_enter Try.func52, Try.ntmps52
  go_wp2
  go_quiet (fail)
  go_wp2_with (go_at_call 65; refine (hp _).mono ?_; rintro e w' ⟨rfl, H1, H2⟩; have H2 := HK _ _ H2; have H1 := Lib.hid H1)
  go_ret
  exact ⟨rfl, H1.out, H2.out⟩

theorem isSlot_any (W : World) (b g : Nat) (cs : Array Value) (at_ : Nat) (c : Cd.Code) (hc : Co cs c) (s : Option (List Int)) (qs : Kn) (n : Int) (w : World) (h : Wk W w b g cs at_ s qs) :
    Calls Try.prog 54 #[.pointer (some ⟨b, 0, none⟩), .int .i64 n] w fun e w' => e = .returned (.bool (decide (0 ≤ n ∧ n < c.kinds.length))) ∧ w' = w := by
  obtain ⟨ka, kc, c0⟩ := hc.kinds
  have c0 := cell_code h 0 c0
  clear h hc
  generalize c.kinds.length = N at *
  by_cases h0 : 0 ≤ n
  · have hd : decide (0 ≤ n) = true := by simpa using h0
    go_enter Try.func54, Try.ntmps54
    go_wp2
    go_ret
    exact ⟨by simp [h0], rfl⟩
  · have hd : decide (0 ≤ n) = false := by simpa using h0
    go_enter Try.func54, Try.ntmps54
    go_wp2
    go_ret
    exact ⟨by simp, rfl⟩

/-- what a rule leaves -/
def RuP (W w : World) (b g : Nat) (cs : Array Value) (at_ : Nat) (R : Option Kn) (e : Ending) (w' : World) : Prop := e = .returned (.bool R.isSome) ∧ Kp [b, g] w w' ∧ ∀ q, R = some q → ∃ s, Wk W w' b g cs at_ s q
theorem RuP.no {W w w' : World} {b g : Nat} {cs : Array Value} {at_ : Nat} (h : Kp [b, g] w w') : RuP W w b g cs at_ none (.returned (.bool false)) w' := ⟨rfl, h, fun _ h => by cases h⟩
theorem LeP.ru {W w0 w w' : World} {b g : Nat} {cs : Array Value} {at_ : Nat} {m : List Int} {qs : Kn} {n : Int} {e : Ending} (hk : Kp [b, g] w0 w) (h : LeP W w b g cs at_ m qs n e w') : RuP W w0 b g cs at_ (Cd.lead m at_ n qs) e w' := by
  obtain ⟨h1, h2, q', -, h3, h4⟩ := h
  exact ⟨h1, hk.trans h2, fun q hq => ⟨some m, by rw [← h4 q hq]; exact h3⟩⟩

/-- where a rule is asked -/
structure At (W w : World) (b g : Nat) (cs : Array Value) (at_ : Nat) (c : Cd.Code) (l : List Int) (qs : Kn) : Prop where
  co : Co cs c
  wk : Wk W w b g cs at_ (some l) qs
  sk : Cd.Sk c l
  s64 : c.stack ≤ 64
  sks : ∀ l, some l ∈ qs → l.length ≤ 64
  q6 : qs.length ≤ 60000
  ha : at_ < qs.length
  nums : ∃ ka kc, cs[0]? = some (.slice ka c.kinds.length kc) ∧ NumsAt W ka c.kinds
  kk : ∀ k ∈ c.kinds, 1 ≤ k ∧ k ≤ 9
theorem At.l64 {W w : World} {b g : Nat} {cs : Array Value} {at_ : Nat} {c : Cd.Code} {l : List Int} {qs : Kn} (h : At W w b g cs at_ c l qs) : l.length ≤ 64 := by
  have := h.sk.1
  have := h.s64
  omega

set_option maxHeartbeats 1000000 in
theorem push_any (W : World) (b g : Nat) (cs : Array Value) (at_ : Nat) (c : Cd.Code) (l : List Int) (qs : Kn) (op n k : Int) (w : World) (h : At W w b g cs at_ c l qs) :
    Calls Try.prog 38 #[.pointer (some ⟨b, 0, none⟩), .agg #[.int .i64 op, .int .i64 n, .int .i64 k]] w (RuP W w b g cs at_ (if Bv.isv k n then (if (l.length : Int) < c.stack then Cd.lead (k :: l) at_ 0 qs else none) else none)) := by
  have hi := fun V => is_any k n V
  obtain ⟨w1, hw1⟩ : ∃ w1, w1 = w.alloc (.cells #[.int .i64 op, .int .i64 n, .int .i64 k] 41) := ⟨_, rfl⟩
  have hk1 : Kp [b, g] w w1 := by rw [hw1]; exact Kp.of0 (World.grownBy_alloc w _ none) _
  have hwk1 : Wk W w1 b g cs at_ (some l) qs := by rw [hw1]; exact h.wk.on (by have := h.ha; omega) (World.grownBy_alloc w _ none)
  have hr1 : w1.heap[w.heap.size]? = some (.cells #[.int .i64 op, .int .i64 n, .int .i64 k] 41 (0, 0)) := by rw [hw1]; exact heap_alloc_new w _
  cases hv : Bv.isv k n with
  | false =>
    simp only [Bool.false_eq_true, if_false]
    have HK := Lib.hid hk1
    rw [hw1] at HK
    clear h hwk1 hr1 hk1 hw1
    simp only [hv] at hi
    go_enter Try.func38, Try.ntmps38
    go_wp2_with (go_at_call 18; refine (hi _).mono ?_; rintro e w' ⟨rfl, hw⟩; obtain rfl := hw.symm)
    go_ret
    exact RuP.no HK.out
  | true =>
    simp only [if_true]
    have hkk : 1 ≤ k ∧ k ≤ 9 := Cd.wid_k (by simp [Bv.isv] at hv; exact hv.1)
    simp only [hv] at hi
    by_cases hs : (l.length : Int) < c.stack
    · rw [if_pos hs]
      have hl : l.length < 64 := by have := h.s64; omega
      have hp := wput_yes W b g cs at_ c h.co l qs k hkk hl hs w1 hwk1
      have hn := fun V hV => next_any W b g cs at_ (k :: l) qs hl h.sks h.q6 h.ha V hV
      have HK := Lib.hid hk1
      rw [hw1] at hp HK hr1
      clear h hwk1 hk1 hw1
      go_enter Try.func38, Try.ntmps38
      go_wp2_with (first | (go_at_call 18; refine (hi _).mono ?_; rintro e w' ⟨rfl, hw⟩; obtain rfl := hw.symm) | (go_at_call 52; with_reducible refine hp.mono ?_; rintro e w2 ⟨rfl, H1, H2⟩; have H2 := Lib.hid (HK.out.trans H2); have H1 := Lib.hid H1) | (go_at_call 53; refine (hn _ H1.out).mono ?_; rintro e w3 H3; have H4 := LeP.ru H2.out H3; obtain rfl := H3.1; have H4 := Lib.hid H4; clear H3))
      go_ret
      exact H4.out
    · rw [if_neg hs]
      have hp := wput_no W b g cs at_ c h.co l qs k h.l64 (by omega) w1 hwk1
      have HK := Lib.hid hk1
      rw [hw1] at hp HK
      clear h hwk1 hk1 hw1 hr1
      go_enter Try.func38, Try.ntmps38
      go_wp2_with (first | (go_at_call 18; refine (hi _).mono ?_; rintro e w' ⟨rfl, hw⟩; obtain rfl := hw.symm) | (go_at_call 52; with_reducible refine hp.mono ?_; rintro e w2 ⟨rfl, H2⟩; have H2 := Lib.hid (HK.out.trans (Kp.of0 H2 _))))
      go_ret
      exact RuP.no H2.out

set_option maxHeartbeats 1000000 in
theorem jump_any (W : World) (b g : Nat) (cs : Array Value) (at_ : Nat) (c : Cd.Code) (l : List Int) (qs : Kn) (op n k : Int) (w : World) (h : At W w b g cs at_ c l qs) :
    Calls Try.prog 44 #[.pointer (some ⟨b, 0, none⟩), .agg #[.int .i64 op, .int .i64 n, .int .i64 k]] w (RuP W w b g cs at_ (Cd.lead l at_ n qs)) := by
  have hg1 := World.grownBy_alloc w (.cells #[.int .i64 op, .int .i64 n, .int .i64 k] 41) none
  have hn := lead_any W b g cs at_ l qs n h.l64 h.sks h.q6 h.ha _ (h.wk.on (by have := h.ha; omega) hg1)
  have HK := Lib.hid (Kp.of0 hg1 [b, g])
  clear h hg1
  go_enter Try.func44, Try.ntmps44
  go_wp2_with (go_at_call 57; refine hn.mono ?_; rintro e w3 H3; have H4 := LeP.ru HK.out H3; obtain rfl := H3.1; have H4 := Lib.hid H4; clear H3)
  go_ret
  exact H4.out

set_option maxHeartbeats 1000000 in
theorem end_any (W : World) (b g : Nat) (cs : Array Value) (at_ : Nat) (c : Cd.Code) (l : List Int) (qs : Kn) (op n k : Int) (w : World) (h : At W w b g cs at_ c l qs) :
    Calls Try.prog 46 #[.pointer (some ⟨b, 0, none⟩), .agg #[.int .i64 op, .int .i64 n, .int .i64 k]] w (RuP W w b g cs at_ (if l = [] then some qs else none)) := by
  have hg1 := World.grownBy_alloc w (.cells #[.int .i64 op, .int .i64 n, .int .i64 k] 41) none
  have HW := Lib.hid (h.wk.on (by have := h.ha; omega) hg1)
  obtain ⟨-, c1, -⟩ := row_parts.1 HW.out.now
  simp only [Option.getD_some, Nat.reduceAdd] at c1
  have HK := Lib.hid (Kp.of0 hg1 [b, g])
  clear h hg1
  cases l with
  | nil =>
    simp only [List.length_nil] at c1
    rw [if_pos rfl]
    go_enter Try.func46, Try.ntmps46
    go_wp2
    go_ret
    refine ⟨rfl, HK.out, fun q hq => ⟨some [], ?_⟩⟩
    obtain rfl := Option.some.inj hq
    exact HW.out
  | cons a r =>
    have e1 : (((r.length : Int) + 1) == 0) = false := by rw [beq_eq_false_iff_ne]; omega
    simp only [List.length_cons, Int.natCast_add, Int.natCast_one] at c1
    generalize hn : r.length = n at *
    clear hn
    rw [if_neg (by simp)]
    go_enter Try.func46, Try.ntmps46
    go_wp2
    go_ret
    exact RuP.no HK.out

set_option maxHeartbeats 1000000 in
theorem branch_any (W : World) (b g : Nat) (cs : Array Value) (at_ : Nat) (c : Cd.Code) (l : List Int) (qs : Kn) (op n k : Int) (w : World) (h : At W w b g cs at_ c l qs) :
    Calls Try.prog 45 #[.pointer (some ⟨b, 0, none⟩), .agg #[.int .i64 op, .int .i64 n, .int .i64 k]] w (RuP W w b g cs at_ (Cd.onTop l 1 (fun r => (Cd.lead r at_ 0 qs).bind fun q => Cd.lead r at_ n q))) := by
  have hg1 := World.grownBy_alloc w (.cells #[.int .i64 op, .int .i64 n, .int .i64 k] 41) none
  have hwk := h.wk.on (by have := h.ha; omega) hg1
  have hr1 := heap_alloc_new w (.cells #[.int .i64 op, .int .i64 n, .int .i64 k] 41)
  have HK := Lib.hid (Kp.of0 hg1 [b, g])
  by_cases hno : l.head? = some 1
  · obtain ⟨r, rfl⟩ : ∃ r, l = 1 :: r := by
      cases l with
      | nil => cases hno
      | cons a r => simp at hno; exact ⟨r, by rw [hno]⟩
    have hl : r.length < 64 := h.l64
    have ht := take_some W b g cs at_ r qs 1 hl (by omega) _ hwk
    have hn := fun V hV => next_any W b g cs at_ r qs (by omega) h.sks h.q6 h.ha V hV
    have hbne : w.heap.size ≠ b ∧ w.heap.size ≠ g := ⟨by have := h.wk.bl; omega, by have := h.wk.gl (by have := h.ha; omega); omega⟩
    rw [Cd.onTop_yes]
    cases hl0 : Cd.lead r at_ 0 qs with
    | none =>
      rw [Option.bind_none]
      have hn' : ∀ V, Wk W V b g cs at_ (some r) qs → Calls Try.prog 53 #[.pointer (some ⟨b, 0, none⟩)] V fun e w' => e = .returned (.bool false) ∧ Kp [b, g] V w' := fun V hV => (hn V hV).mono fun e w' H => ⟨by rw [H.1, hl0]; rfl, H.2.1⟩
      clear h hg1 hwk hno hn hr1
      go_enter Try.func45, Try.ntmps45
      go_wp2_with (first | (go_at_call 55; with_reducible refine ht.mono ?_; rintro e w2 ⟨rfl, H1, H2⟩; have H2 := Lib.hid (HK.out.trans H2); have H1 := Lib.hid H1) | (go_at_call 53; refine (hn' _ H1.out).mono ?_; rintro e w3 ⟨rfl, H3⟩; have H4 := Lib.hid (H2.out.trans H3); clear H3))
      go_ret
      exact RuP.no H4.out
    | some q =>
      rw [Option.bind_some]
      have hq := Cd.lead_sks (c := ⟨[], 0, 0, 0, [], 64, []⟩) (m := r) (at_ := at_) (n := 0) (qs := qs) (q := q)
      have hq6 : q.length = qs.length ∧ ∀ l, some l ∈ q → l.length ≤ 64 := by
        have hl1 := hl0
        unfold Cd.lead at hl1
        rw [if_neg (by decide)] at hl1
        split at hl1
        · cases hl1
        · obtain rfl := Option.some.inj hl1
          refine ⟨by simp, fun l hl2 => ?_⟩
          rcases List.mem_or_eq_of_mem_set hl2 with h3 | h3
          · exact h.sks l h3
          · obtain rfl := Option.some.inj h3
            omega
        · split at hl1
          · obtain rfl := Option.some.inj hl1
            exact ⟨rfl, h.sks⟩
          · cases hl1
      have hn' : ∀ V, Wk W V b g cs at_ (some r) qs → Calls Try.prog 53 #[.pointer (some ⟨b, 0, none⟩)] V fun e w' => e = .returned (.bool true) ∧ Kp [b, g] V w' ∧ Wk W w' b g cs at_ (some r) q := fun V hV => (hn V hV).mono fun e w' H => by
        obtain ⟨e1, k1, q', -, w1, e2⟩ := H
        rw [e1, hl0]
        have := e2 q hl0
        subst this
        exact ⟨rfl, k1, w1⟩
      have hld := fun V hV => lead_any W b g cs at_ r q n (by omega) hq6.2 (by rw [hq6.1]; exact h.q6) (by rw [hq6.1]; exact h.ha) V hV
      have hcell : ∀ V, Kp [b, g] (w.alloc (.cells #[.int .i64 op, .int .i64 n, .int .i64 k] 41)) V → V.cell? ⟨w.heap.size, 1, none⟩ = some (.int .i64 n) := fun V hV => hV.cell (cell_of_row _ _ 1 _ _ _ hr1) (by simp; exact hbne)
      clear h hg1 hwk hno hn hq hr1
      go_enter Try.func45, Try.ntmps45
      go_wp2_with (first | (go_at_call 55; with_reducible refine ht.mono ?_; rintro e w2 ⟨rfl, H1, H2⟩; have H2 := Lib.hid H2; have H1 := Lib.hid H1) | (go_at_call 53; refine (hn' _ H1.out).mono ?_; rintro e w3 ⟨rfl, H3, H4⟩; have H3 := Lib.hid (H2.out.trans H3); have H4 := Lib.hid H4; have hcn := hcell _ H3.out) | (go_at_call 57; refine (hld _ H4.out).mono ?_; rintro e w4 H5; have H6 := LeP.ru (HK.out.trans H3.out) H5; obtain rfl := H5.1; have H6 := Lib.hid H6; clear H5))
      go_ret
      exact H6.out
  · have ht := take_none W b g cs at_ l qs 1 h.l64 h.sk.2 hno _ hwk
    rw [Cd.onTop_no hno]
    clear h hg1 hwk hno hr1
    go_enter Try.func45, Try.ntmps45
    go_wp2_with (go_at_call 55; with_reducible refine ht.mono ?_; rintro e w2 ⟨rfl, H2⟩; have H2 := Lib.hid (HK.out.trans (Kp.of0 H2 _)))
    go_ret
    exact RuP.no H2.out
end Go.Proofs.Ytlppifnepckpiaa
