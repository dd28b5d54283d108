/- Stage 21: metronomelaw21.same, num, alive; the example. -/
import Derived.Test.YthcejnfnamhpfaaGreatExH
import Derived.Test.YthcejnfnamhpfaaGreatJnK
import Derived.Deep.CutRange
import Derived.BigQuiet
namespace Go.Proofs.YthcejnfnamhpfaaGreat
open Go.RowKit Go.Maps Go.WideMaps

set_option maxHeartbeats 2000000 in
set_option maxRecDepth 20000 in
theorem same21_any (w : World) (l m : List Int) (aa ab : Option Addr) (ca cb : Nat) (hl : NumsAt w aa l) (hm : NumsAt w ab m) (h1 : l.length ≤ maxLen) (_h2 : m.length ≤ maxLen) :
    Calls Tryz.prog 16 #[.slice aa l.length ca, .slice ab m.length cb] w fun e w' => e = .returned (.bool (decide (l = m))) ∧ w.grownBy w' none := by
  have HL := Lib.hid hl
  have HM := Lib.hid hm
  clear hl hm
  by_cases hne : l.length = m.length
  · have e1 : ((l.length : Int) == (m.length : Int)) = true := by rw [beq_iff_eq]; omega
    have HNE := Lib.hid hne
    have hm63 : l.length ≤ 9223372036854775807 := by simpa [maxLen] using h1
    obtain ⟨N, hN⟩ : ∃ N, N = l.length := ⟨_, rfl⟩
    rw [← hne, ← hN]
    rw [← hN] at hm63
    have HN := Lib.hid hN
    clear hN hne e1 h1 _h2
    go_enter Tryz.func16, Tryz.ntmps16
    go_wp2
    go_loopw [5] (fun iv wr => ∃ t : Nat, t ≤ N ∧ iv = .int .i64 (t : Int) ∧ Hid (l.take t = m.take t ∧ w.grownBy wr none)) (fun i _ => N - (intOf i).toNat)
    case atStart => exact ⟨0, Nat.zero_le _, rfl, Lib.hid ⟨by simp, World.grownBy.refl w none⟩⟩
    case round =>
      obtain ⟨t, ht, rfl, HT⟩ := hrel
      by_cases hlt : t < N
      · obtain ⟨x, hx⟩ : ∃ x, l[t]? = some x := ⟨_, List.getElem?_eq_getElem (by rw [← HN.out]; exact hlt)⟩
        obtain ⟨y, hy⟩ : ∃ y, m[t]? = some y := ⟨_, List.getElem?_eq_getElem (by rw [← HNE.out, ← HN.out]; exact hlt)⟩
        obtain ⟨b1, o1, rfl, hc1⟩ := HL.out t x hx
        obtain ⟨b2, o2, rfl, hc2⟩ := HM.out t y hy
        have p1 := HT.out.2.cell hc1 (by simp)
        have p2 := HT.out.2.cell hc2 (by simp)
        have HX := Lib.hid (And.intro hx hy)
        clear hx hy hc1 hc2
        by_cases hxy : x = y
        · have e2 : (x != y) = false := by simp [hxy]
          have HXY := Lib.hid hxy
          clear hxy
          go_wp2
          go_upto_region 6 with fail
          go_quiet (fail)
          go_wp2
          refine ⟨⟨t + 1, by omega, by go_num, Lib.hid ⟨?_, ?_⟩⟩, by simp [intOf]; omega⟩
          · rw [List.take_add_one, List.take_add_one, HX.out.1, HX.out.2, HT.out.1, HXY.out]
          · exact ⟨HT.out.2.os, HT.out.2.tape, HT.out.2.output, HT.out.2.size, HT.out.2.block⟩
        · have e2 : (x != y) = true := by simp [hxy]
          have hd : decide (l = m) = false := by rw [decide_eq_false_iff_not]; intro e; have := HX.out; rw [e] at this; exact hxy (Option.some.inj (this.1.symm.trans this.2))
          have HD := Lib.hid hd
          clear hd
          have HXY := Lib.hid hxy
          clear hxy
          go_wp2
          go_upto_region 6 with fail
          go_quiet (fail)
          go_wp2
          go_ret
          exact ⟨(by rw [HD.out]; rfl), ⟨HT.out.2.os, HT.out.2.tape, HT.out.2.output, HT.out.2.size, HT.out.2.block⟩⟩
      · obtain rfl : t = N := by omega
        have hd : decide (l = m) = true := by
          rw [decide_eq_true_iff]
          have := HT.out.1
          rw [HN.out, List.take_length, HNE.out, List.take_length] at this
          exact this
        have HD := Lib.hid hd
        clear hd
        go_wp2
        go_ret
        exact ⟨(by rw [HD.out]; rfl), HT.out.2⟩
  · have e1 : ((l.length : Int) == (m.length : Int)) = false := by rw [beq_eq_false_iff_ne]; omega
    have hd : decide (l = m) = false := by rw [decide_eq_false_iff_not]; exact fun e => hne (by rw [e])
    rw [hd]
    have e2 : ((l.length : Int) != (m.length : Int)) = true := by simp; omega
    go_enter Tryz.func16, Tryz.ntmps16
    go_wp2
    go_ret
    exact ⟨rfl, World.grownBy.refl w none⟩


theorem num21_any (k : Int) (w : World) : Calls Tryz.prog 12 #[.int .i64 k] w fun e w' => e = .returned (.int .i64 k) ∧ w' = w := by
  go_enter Tryz.func12, Tryz.ntmps12
  go_wp2
  go_ret
  exact ⟨rfl, rfl⟩
theorem ex_5 : Ex.tickR Cd.small [] [5] = ([6], 5, 0, []) := by decide +kernel
theorem ex_127 : Ex.tickR Cd.small [] [127] = ([-128], 5, 0, []) := by decide +kernel
theorem own_one {w : World} {B : Nat} {v : Value} {x : Int} (h : w.ownsRow B 3 1 v [x].length (ints [x])) : ∃ b c, v = .slice (some ⟨b, 0, none⟩) 1 c ∧ w.cell? ⟨b, 0, none⟩ = some (.int .i64 x) := by
  rcases h.2 with ⟨_, h0⟩ | ⟨g, cap, cur, rfl, _⟩
  · simp at h0
  · have := h.cells (g := g) rfl 0 (.int .i64 x) rfl
    rw [addr_at] at this
    exact ⟨g, cap, rfl, this⟩
theorem nums_one (w : World) (x : Int) : NumsAt (w.alloc (.cells #[.int .i64 x] 3)) (some ⟨w.heap.size, 0, none⟩) [x] := nums_row (l := [x]) (heap_alloc_new w _)

set_option maxHeartbeats 4000000 in
set_option maxRecDepth 100000 in
theorem alive21_any (w : World) : Calls Tryz.prog 7 #[] w fun e w' => e = .returned (.bool true) ∧ w.grownBy w' none := by
  have hsm := fun V => small_any V
  have hnum := fun k V => num21_any k V
  go_enter Tryz.func7, Tryz.ntmps7
  go_upto_region 6 with (first
    | (go_at_call 25; refine (hsm _).mono ?_; rintro e w1 ⟨g1, h1, rfl, hc1, _, _, hg1⟩; have H1 := Lib.hid (And.intro hc1 hg1); clear hc1 hg1)
    | (go_at_call 10; refine (new_any _ Cd.small _ 2 _ 0 _ 5 H1.out.1 small_64 (by decide)).mono ?_; rintro e w2 ⟨hg2, _, hm2⟩; obtain ⟨m, rfl, iv, nv, kv, bv, hM0⟩ := hm2 Cd.small_ok; have hM : MachR w1.heap.size w2 m Cd.small [] iv nv kv bv := hM0; have H2 := Lib.hid (And.intro (H1.out.2.trans hg2) (And.intro hM (show w.heap.size ≤ w1.heap.size from H1.out.2.size))); clear hm2 hg2 hM hM0)
    | (go_at_call 12; refine (hnum _ _).mono ?_; rintro e w9 ⟨rfl, hw9⟩; obtain rfl := hw9.symm)
    | (go_at_call 14; have q := H3; refine (xtick_any (H3.out.2.1.on (World.grownBy_alloc w3 (.cells #[.int .i64 127] 3) none)) Cd.small_ok small_64 1 (ins := [127]) (nums_one w3 127) (by decide) (by intro y hy; simp at hy; subst hy; unfold Bv.I64; omega)).mono ?_; rintro e w4 ⟨hk4, ⟨nv4, hM4, _⟩, v4, rfl, ho4⟩; rw [ex_127] at hM4 ho4 ⊢; obtain ⟨b4, c4, rfl, p4⟩ := own_one ho4; have H4 := Lib.hid (And.intro hk4 p4); clear hk4 hM4 ho4 p4)
    | (go_at_call 14; refine (xtick_any (H2.out.2.1.on (World.grownBy_alloc w2 (.cells #[.int .i64 5] 3) none)) Cd.small_ok small_64 1 (ins := [5]) (nums_one w2 5) (by decide) (by intro y hy; simp at hy; subst hy; unfold Bv.I64; omega)).mono ?_; rintro e w3 ⟨hk3, ⟨nv3, hM3, _⟩, v3, rfl, ho3⟩; rw [ex_5] at hM3 ho3 ⊢; obtain ⟨b3, c3, rfl, p3⟩ := own_one ho3; have H3 := Lib.hid (And.intro hk3 (And.intro hM3 (And.intro ho3 p3))); clear hk3 hM3 ho3 p3))
  have HG : Hid (w.grownBy w4 none ∧ w4.cell? ⟨b3, 0, none⟩ = some (.int .i64 6)) := Lib.hid (by
    have hM := H2.out.2.1
    have hml := gl hM.row
    have hmb := hM.mb
    have hw1 := H2.out.2.2
    have hb3 := (H3.out.2.2.1.lt b3 rfl).1
    rw [World.size_alloc] at hb3
    refine ⟨?_, H4.out.1.cell (Lib.cell?_alloc_some _ H3.out.2.2.2) (by simp; omega)⟩
    have k1 : Kp [m] w w3 := (Kp.of0 (H2.out.1.trans (World.grownBy_alloc w2 _ none)) _).trans H3.out.1
    have k2 : Kp [m] w w4 := k1.trans ((Kp.of0 (World.grownBy_alloc w3 _ none) _).trans H4.out.1)
    exact Kp.grown (World.grownBy.refl w none) k2 (fun k hk => by simp at hk; omega))
  have p3 := HG.out.2
  have p4 := H4.out.2
  go_wp2_with (go_at_call 12; refine (hnum _ _).mono ?_; rintro e w9 ⟨rfl, hw9⟩; obtain rfl := hw9.symm)
  go_ret
  exact ⟨rfl, HG.out.1⟩
end Go.Proofs.YthcejnfnamhpfaaGreat
