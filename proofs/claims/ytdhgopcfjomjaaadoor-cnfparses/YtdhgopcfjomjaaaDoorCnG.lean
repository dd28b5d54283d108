/- gates.Check; metronomeref22.CheckNet; metronomelaw22.Big. -/
import Derived.Test.YtdhgopcfjomjaaaDoorCnF
namespace Go.Proofs.YtdhgopcfjomjaaaDoor
open Go.RowKit Go.Maps Go.WideMaps
open Cn (I64)

theorem bigN_any (w : World) (a : Option Addr) (n cap : Nat) (_hm : n ≤ 140737488351232) :
    Calls Tryd.prog 15 #[.agg #[.slice a n cap]] w fun e w' => e = .returned (.bool (decide (5000 < n))) ∧ w.grownBy w' none := by
  have e1 : decide ((5000 : Int) < (n : Int)) = decide (5000 < n) := by rw [decide_eq_decide]; omega
  cases h : decide (5000 < n) with
  | true =>
    rw [h] at e1
    clear h
    go_enter Tryd.func15, Tryd.ntmps15
    go_wp2
    go_ret
    exact ⟨rfl, World.grownBy_alloc _ _ _⟩
  | false =>
    rw [h] at e1
    clear h
    go_enter Tryd.func15, Tryd.ntmps15
    go_wp2
    go_ret
    exact ⟨rfl, World.grownBy_alloc _ _ _⟩

theorem net_big {n : List Cn.Gt} (h : 200000 < n.length) : Cn.netE n = 2 := by unfold Cn.netE; rw [if_pos h]
theorem net_small {n : List Cn.Gt} (h : n.length ≤ 200000) : Cn.netE n = if Cn.goks 0 n = true then 0 else 40 := by unfold Cn.netE; rw [if_neg (by omega)]
theorem gok_false {n : List Cn.Gt} {t : Nat} {g : Cn.Gt} (h : n[t]? = some g) (hg : Cn.gok t g = false) : Cn.goks 0 n = false := by
  rw [Bool.eq_false_iff]
  intro h0
  have := Cn.goks_at 0 n h0 t g h
  rw [Nat.zero_add, hg] at this
  cases this

set_option maxHeartbeats 2000000 in
set_option maxRecDepth 100000 in
theorem gcheck_any (w : World) (a : Option Addr) (n : List Cn.Gt) (cap : Nat) (h : GatesAt w a n) (hm : n.length ≤ 140737488351232) :
    Calls Tryd.prog 29 #[.agg #[.slice a n.length cap]] w fun e w' => e = .returned (.int .i64 (Cn.netE n)) ∧ w.grownBy w' none := by
  have HL := Lib.hid h
  have hm63 : n.length ≤ 9223372036854775807 := by omega
  obtain ⟨N, hN⟩ : ∃ N, N = n.length := ⟨_, rfl⟩
  rw [← hN] at hm63 ⊢
  have HN := Lib.hid hN
  obtain ⟨R, hR⟩ : ∃ R, R = Cn.netE n := ⟨_, rfl⟩
  rw [← hR]
  have HR := Lib.hid hR
  have HGA := Lib.hid (World.grownBy_alloc w (.cells #[.slice a N cap] 35) none)
  by_cases hb : 200000 < N
  · have e1 : decide ((200000 : Int) < (N : Int)) = true := xT (by omega)
    have HR2 : Hid (R = 2) := Lib.hid (by rw [hR, net_big (by omega)])
    clear hN h hm hR hb
    go_enter Tryd.func29, Tryd.ntmps29
    go_wp2
    go_ret
    exact ⟨by rw [HR2.out]; rfl, HGA.out⟩
  · have e1 : decide ((200000 : Int) < (N : Int)) = false := xF (by omega)
    have HR2 : Hid (R = if Cn.goks 0 n = true then 0 else 40) := Lib.hid (by rw [hR, net_small (by omega)])
    have HB := Lib.hid hb
    clear hN h hm hR hb HR
    go_enter Tryd.func29, Tryd.ntmps29
    go_wp2
    go_loopw [12] (fun iv wr => ∃ t : Nat, t ≤ N ∧ iv = .int .i64 (t : Int) ∧ Hid (Cn.goks 0 (n.take t) = true ∧ w.grownBy wr none)) (fun iv _ => N - (intOf iv).toNat)
    case atStart => exact ⟨0, Nat.zero_le _, rfl, Lib.hid ⟨rfl, HGA.out⟩⟩
    case round =>
      obtain ⟨t, ht, rfl, HT⟩ := hrel
      by_cases hlt : t < N
      · obtain ⟨g, hg⟩ : ∃ g, n[t]? = some g := ⟨_, List.getElem?_eq_getElem (by rw [← HN.out]; exact hlt)⟩
        obtain ⟨b, o, rfl, h1, h2, h3, _⟩ := (HL.out.on HT.out.2) t g hg
        have hig := fun V => isGate_any g t (by have := HB.out; omega) V
        have hst := Cn.goks_step hg
        have HS := Lib.hid (And.intro hst hg)
        have HW3 := Lib.hid (World.grownBy_alloc wr (.cells #[.int .i64 g.op, .int .i64 g.a, .int .i64 g.b] 48) none)
        clear hst hg
        cases hq : Cn.gok t g with
        | true =>
          rw [hq] at hig HS
          have HQ := Lib.hid hq
          clear hq
          go_wp2_with (go_at_call 40; refine (hig _).mono ?_; rintro e w2 ⟨rfl, hg2⟩)
          refine ⟨⟨t + 1, by omega, by go_num, Lib.hid ⟨?_, HT.out.2.trans (HW3.out.trans hg2)⟩⟩, by simp [intOf]; omega⟩
          rw [HS.out.1, HT.out.1]; rfl
        | false =>
          rw [hq] at hig
          have HQ := Lib.hid hq
          clear hq
          go_wp2_with (go_at_call 40; refine (hig _).mono ?_; rintro e w2 ⟨rfl, hg2⟩)
          go_ret
          refine ⟨?_, HT.out.2.trans (HW3.out.trans hg2)⟩
          rw [HR2.out, gok_false HS.out.2 HQ.out]; rfl
      · obtain rfl : t = N := by omega
        go_wp2
        go_ret
        refine ⟨?_, HT.out.2⟩
        have h2 := HT.out.1
        rw [HN.out, List.take_length] at h2
        rw [HR2.out, h2]; rfl

set_option maxHeartbeats 4000000 in
set_option maxRecDepth 100000 in
theorem rchecknet_any (w : World) (a : Option Addr) (n : List Cn.Gt) (cap : Nat) (h : GatesAt w a n) (hm : n.length ≤ 140737488351232) :
    Calls Tryd.prog 32 #[.agg #[.slice a n.length cap]] w fun e w' => e = .returned (.int .i64 (Cn.netE n)) ∧ w.grownBy w' none := by
  have HL := Lib.hid h
  have hm63 : n.length ≤ 9223372036854775807 := by omega
  obtain ⟨N, hN⟩ : ∃ N, N = n.length := ⟨_, rfl⟩
  rw [← hN] at hm63 ⊢
  have HN := Lib.hid hN
  obtain ⟨R, hR⟩ : ∃ R, R = Cn.netE n := ⟨_, rfl⟩
  rw [← hR]
  have hga := World.grownBy_alloc w (.cells #[.slice a N cap] 35) none
  by_cases hb : 200000 < N
  · have e1 : decide ((200000 : Int) < (N : Int)) = true := xT (by omega)
    have HR2 : Hid (R = 2) := Lib.hid (by rw [hR, net_big (by omega)])
    have HGA := Lib.hid hga
    clear hN h hm hR hb hga
    go_enter Tryd.func32, Tryd.ntmps32
    go_wp2
    go_ret
    exact ⟨by rw [HR2.out]; rfl, HGA.out⟩
  · have e1 : decide ((200000 : Int) < (N : Int)) = false := xF (by omega)
    have HR2 : Hid (R = if Cn.goks 0 n = true then 0 else 40) := Lib.hid (by rw [hR, net_small (by omega)])
    have HB := Lib.hid hb
    obtain ⟨W, hW⟩ : ∃ W, W = w.alloc (.cells #[.slice a N cap] 35) := ⟨_, rfl⟩
    have c0 : W.cell? ⟨w.heap.size, 0, none⟩ = some (.slice a N cap) := by rw [hW]; simp
    have HW := Lib.hid (show w.grownBy W none by rw [hW]; exact hga)
    clear hN h hm hR hb hga
    go_enter Tryd.func32, Tryd.ntmps32
    go_wp2
    rw [← hW]
    clear hW
    go_loopw [3] (fun iv wr => ∃ t : Nat, t ≤ N ∧ iv = .int .i64 (t : Int) ∧ Hid (Cn.goks 0 (n.take t) = true ∧ W.grownBy wr none)) (fun iv _ => N - (intOf iv).toNat)
    case atStart => exact ⟨0, Nat.zero_le _, rfl, Lib.hid ⟨rfl, World.grownBy.refl _ _⟩⟩
    case round =>
      obtain ⟨t, ht, rfl, HT⟩ := hrel
      have d0 := HT.out.2.cell c0 (by simp)
      by_cases hlt : t < N
      · obtain ⟨g, hg⟩ : ∃ g, n[t]? = some g := ⟨_, List.getElem?_eq_getElem (by rw [← HN.out]; exact hlt)⟩
        obtain ⟨b, o, rfl, h1, h2, h3, hg64⟩ := (HL.out.on (HW.out.trans HT.out.2)) t g hg
        have hw2 : wrap64 (2 * (t : Int)) = 2 * (t : Int) := by have := HB.out; unfold wrap64; omega
        have hst := Cn.goks_step hg
        have HW3 := Lib.hid (World.grownBy_alloc wr (.cells #[.int .i64 g.op, .int .i64 g.a, .int .i64 g.b] 48) none)
        have HS := Lib.hid (And.intro hst hg)
        clear hst hg hg64
        obtain ⟨op, x, y⟩ := g
        obtain ⟨Q, hQ⟩ : ∃ Q, Q = Cn.gok t ⟨op, x, y⟩ := ⟨_, rfl⟩
        rw [← hQ] at HS
        have HQE := Lib.hid hQ
        unfold Cn.gok at hQ
        simp only at *
        have yes : Q = true → Hid (Cn.goks 0 (n.take (t + 1)) = true) := fun h => Lib.hid (by rw [HS.out.1, HT.out.1, h]; rfl)
        have no : Q = false → Hid (R = 40) := fun h => Lib.hid (by rw [HR2.out, gok_false HS.out.2 (HQE.out.symm.trans h)]; rfl)
        by_cases h12 : op = 1 ∨ op = 2
        · have q0 : Q = (decide (x = 0) && decide (y = 0)) := by
            rw [hQ, xF (show ¬ op = 3 by omega), show (decide (op = 1) || decide (op = 2)) = true by simpa using h12]; simp
          clear hQ
          by_cases hx : x = 0
          · have ex : (x != 0) = false := by simp [hx]
            by_cases hy : y = 0
            · have ey : (y != 0) = false := by simp [hy]
              have Y := yes (by rw [q0, xT hx, xT hy]; rfl)
              clear yes no q0 hx hy
              rcases h12 with rfl | rfl
              · go_wp2
                exact ⟨⟨t + 1, by omega, by go_num, Lib.hid ⟨Y.out, HT.out.2.trans HW3.out⟩⟩, by simp [intOf]; omega⟩
              · go_wp2
                exact ⟨⟨t + 1, by omega, by go_num, Lib.hid ⟨Y.out, HT.out.2.trans HW3.out⟩⟩, by simp [intOf]; omega⟩
            · have ey : (y != 0) = true := by simp [hy]
              have Y := no (by rw [q0, xF hy, Bool.and_false])
              clear yes no q0 hx hy
              rcases h12 with rfl | rfl
              · go_wp2
                go_ret
                exact ⟨by rw [Y.out]; rfl, HW.out.trans (HT.out.2.trans HW3.out)⟩
              · go_wp2
                go_ret
                exact ⟨by rw [Y.out]; rfl, HW.out.trans (HT.out.2.trans HW3.out)⟩
          · have ex : (x != 0) = true := by simp [hx]
            have Y := no (by rw [q0, xF hx, Bool.false_and])
            clear yes no q0 hx
            rcases h12 with rfl | rfl
            · go_wp2
              go_ret
              exact ⟨by rw [Y.out]; rfl, HW.out.trans (HT.out.2.trans HW3.out)⟩
            · go_wp2
              go_ret
              exact ⟨by rw [Y.out]; rfl, HW.out.trans (HT.out.2.trans HW3.out)⟩
        · have n1 : op ≠ 1 := fun e => h12 (.inl e)
          have n2 : op ≠ 2 := fun e => h12 (.inr e)
          have f1 : (op == 1) = false := by simp [n1]
          have f2 : (op == 2) = false := by simp [n2]
          by_cases h3' : op = 3
          · have q0 : Q = (decide (0 ≤ x) && decide (x < 2 * (t : Int)) && decide (0 ≤ y) && decide (y < 2 * (t : Int))) := by
              rw [hQ, xF n1, xF n2, xT h3']; simp
            clear hQ h12 n1 n2 f1 f2
            subst h3'
            by_cases hx0 : x < 0
            · have ex : decide (x < 0) = true := xT hx0
              have Y := no (by rw [q0, xF (show ¬ 0 ≤ x by omega)]; simp)
              clear yes no q0 hx0
              go_wp2
              go_ret
              exact ⟨by rw [Y.out]; rfl, HW.out.trans (HT.out.2.trans HW3.out)⟩
            · have ex : decide (x < 0) = false := xF hx0
              by_cases hy0 : y < 0
              · have ey : decide (y < 0) = true := xT hy0
                have Y := no (by rw [q0, xF (show ¬ 0 ≤ y by omega)]; simp)
                clear yes no q0 hx0 hy0
                go_wp2
                go_ret
                exact ⟨by rw [Y.out]; rfl, HW.out.trans (HT.out.2.trans HW3.out)⟩
              · have ey : decide (y < 0) = false := xF hy0
                by_cases hx1 : 2 * (t : Int) ≤ x
                · have ex1 : decide (2 * (t : Int) ≤ x) = true := xT hx1
                  have Y := no (by rw [q0, xF (show ¬ x < 2 * (t : Int) by omega)]; simp)
                  clear yes no q0 hx0 hy0 hx1
                  go_wp2
                  go_ret
                  exact ⟨by rw [Y.out]; rfl, HW.out.trans (HT.out.2.trans HW3.out)⟩
                · have ex1 : decide (2 * (t : Int) ≤ x) = false := xF hx1
                  by_cases hy1 : 2 * (t : Int) ≤ y
                  · have ey1 : decide (2 * (t : Int) ≤ y) = true := xT hy1
                    have Y := no (by rw [q0, xF (show ¬ y < 2 * (t : Int) by omega)]; simp)
                    clear yes no q0 hx0 hy0 hx1 hy1
                    go_wp2
                    go_ret
                    exact ⟨by rw [Y.out]; rfl, HW.out.trans (HT.out.2.trans HW3.out)⟩
                  · have ey1 : decide (2 * (t : Int) ≤ y) = false := xF hy1
                    have Y := yes (by rw [q0, xT (show 0 ≤ x by omega), xT (show 0 ≤ y by omega), xT (show x < 2 * (t : Int) by omega), xT (show y < 2 * (t : Int) by omega)]; rfl)
                    clear yes no q0 hx0 hy0 hx1 hy1
                    go_wp2
                    exact ⟨⟨t + 1, by omega, by go_num, Lib.hid ⟨Y.out, HT.out.2.trans HW3.out⟩⟩, by simp [intOf]; omega⟩
          · have f3 : (op == 3) = false := by simp [h3']
            have Y := no (by rw [hQ, xF n1, xF n2, xF h3']; simp)
            clear yes no hQ h12 n1 n2 h3'
            go_wp2
            go_ret
            exact ⟨by rw [Y.out]; rfl, HW.out.trans (HT.out.2.trans HW3.out)⟩
      · obtain rfl : t = N := by omega
        go_wp2
        go_ret
        refine ⟨?_, HW.out.trans HT.out.2⟩
        have h2 := HT.out.1
        rw [HN.out, List.take_length] at h2
        rw [HR2.out, h2]; rfl
end Go.Proofs.YtdhgopcfjomjaaaDoor
