/- RateLoads. -/
import Derived.Test.YtncbaeephnahjaaRaV
namespace Rat
/-- the best so far, as the law looks for it -/
structure Bs (l : List (Int × Int)) (cs : List Int) (t : Nat) (best : Int) (tick : Nat) : Prop where
  none : t = 0 → best = -1 ∧ tick = 0
  some : 0 < t → best = (tot l cs tick : Int) ∧ tick < t ∧ (∀ j, j < t → tot l cs j ≤ tot l cs tick) ∧ ∀ j, j < tick → tot l cs j < tot l cs tick
theorem Bs.step {l : List (Int × Int)} {cs : List Int} {t : Nat} {best : Int} {tick : Nat} (h : Bs l cs t best tick) : Bs l cs (t + 1) (if best < (tot l cs t : Int) then (tot l cs t : Int) else best) (if best < (tot l cs t : Int) then t else tick) := by
  refine ⟨fun e => by omega, fun _ => ?_⟩
  by_cases h0 : t = 0
  · subst h0
    obtain ⟨rfl, rfl⟩ := h.none rfl
    rw [if_pos (by omega), if_pos (by omega)]
    exact ⟨rfl, by omega, fun j hj => by rw [show j = 0 by omega]; exact Nat.le_refl _, fun j hj => by omega⟩
  · obtain ⟨h1, h2, h3, h4⟩ := h.some (by omega)
    by_cases hc : best < (tot l cs t : Int)
    · rw [if_pos hc, if_pos hc]
      refine ⟨rfl, by omega, fun j hj => ?_, fun j hj => ?_⟩
      · by_cases e : j = t
        · rw [e]; exact Nat.le_refl _
        · have := h3 j (by omega); omega
      · have := h3 j hj; omega
    · rw [if_neg hc, if_neg hc]
      refine ⟨h1, by omega, fun j hj => ?_, h4⟩
      by_cases e : j = t
      · rw [e]; omega
      · exact h3 j (by omega)
theorem Bs.eq {l : List (Int × Int)} {cs : List Int} {best : Int} {tick most at_ : Nat} (h : Bs l cs (baseM l).1 best tick) (hb : 0 < (baseM l).1) (hx : Best l cs most at_) : best = (most : Int) ∧ tick = at_ := by
  obtain ⟨h1, h2, h3, h4⟩ := h.some hb
  obtain ⟨g1, g2, g3, g4⟩ := hx
  have e1 := h3 at_ g1
  have e2 := g3 tick h2
  have e3 : tot l cs tick = most := by omega
  refine ⟨by omega, ?_⟩
  rcases Nat.lt_trichotomy tick at_ with e | e | e
  · have := g4 tick e; omega
  · exact e
  · have := h4 at_ e; omega
theorem add_le {n xn k : Nat} (h : n ≤ k * 1000000) (h2 : xn ≤ 1000000) : n + xn ≤ (k + 1) * 1000000 ∧ n ≤ (k + 1) * 1000000 := by omega
theorem ptot_succ (l : List (Int × Int)) (cs : List Int) (t n : Nat) : sumR (n + 1) (fun k => if isOn l t k = true then cst cs k else 0) = sumR n (fun k => if isOn l t k = true then cst cs k else 0) + (if isOn l t n = true then cst cs n else 0) := rfl
def ptot (l : List (Int × Int)) (cs : List Int) (t n : Nat) : Nat := sumR n fun k => if isOn l t k = true then cst cs k else 0
end Rat
namespace Go.Proofs.Ytncbaeephnahjaa
open Go.RowKit Go.Maps Go.WideMaps Go.Shelf
open Rat (okP baseF baseM toN per off isOn cst tot Best Bs ptot)

theorem info_int' : (Try.prog.info? 3).map (fun i => (i.size, i.bytes, i.zero)) = some (1, 8, some (.int .i64 0)) := by kernel_rfl
theorem app_ints (w : World) (ca : Option Addr) (cc : Nat) (cs : List Int) (h : IntsAt w ca cs) (hn : cs.length ≤ 1000) (ty : TypeId) :
    ∃ a c w', (Builtin.append_ #[36, 36] ty #[.slice none 0 0, .slice ca cs.length cc]).run Try.prog w = .ok (.slice a cs.length c) w' ∧ w.grownBy w' none ∧ IntsAt w' a cs := by
  obtain ⟨it, hit, hz, hsz, hby⟩ := infoP info_int'
  cases ca with
  | none =>
    have hl : cs.length = 0 := by
      cases cs with
      | nil => rfl
      | cons x r => obtain ⟨g, o, e, _⟩ := h 0 x (by simp); cases e
    refine ⟨none, 0, w, ?_, World.grownBy.refl _ _, h⟩
    rw [hl]
    simp [Builtin.append_, run_underlying Try.underlying36, sizeOf, typeInfo, hit, Builtin.lenOf, Builtin.firstCells]
  | some ad =>
    have hnews : ∀ j u, (cs.map (Value.int .i64))[j]? = some u → w.cell? (ad.add j) = some u := by
      intro j u hu
      rw [List.getElem?_map] at hu
      cases hx : cs[j]? with
      | none => rw [hx] at hu; cases hu
      | some x =>
        rw [hx] at hu
        simp at hu
        subst hu
        obtain ⟨g, o, e, c0⟩ := h j x hx
        injection e with e
        subst e
        rw [addr_plain]
        exact c0
    obtain ⟨v', w', q1, q2, q3, _⟩ := run_append_own (P := Try.prog) w w.heap.size 36 ty 3 it _ 1 8 Try.underlying36 hit hz hsz hby rfl (by decide) (.slice none 0 0) 0 [] (World.ownsRow_nil _ _ _ _) ad cs.length cc (cs.map (Value.int .i64)) (by simp) hnews (fun u hu => by rw [List.mem_map] at hu; obtain ⟨x, _, rfl⟩ := hu; rfl) (by unfold maxLen; omega) (by omega) (Nat.le_refl _)
    rw [Nat.zero_add, List.nil_append] at q2
    rcases q2.2 with ⟨rfl, e⟩ | ⟨g, cap, cur, rfl, _, c1, _, _, _, ht⟩
    · rw [e] at q1 ⊢
      exact ⟨none, 0, w', q1, q3, fun i x hx => by have := (List.getElem?_eq_some_iff.1 hx).1; omega⟩
    · refine ⟨_, _, w', q1, q3, fun i x hx => ⟨g, 0, rfl, ?_⟩⟩
      have h1 : (cs.map (Value.int .i64))[i]? = some (.int .i64 x) := by rw [List.getElem?_map, hx]; rfl
      rw [← ht, List.getElem?_take] at h1
      rw [Nat.zero_add, cell_of_row w' g _ _ _ _ c1]
      split at h1
      · simpa using h1
      · cases h1
theorem IntsAt.kept {A B : World} {ca : Option Addr} {cs : List Int} (h : IntsAt A ca cs) (hg : A.grownBy B none) : IntsAt B ca cs := fun i x hx => by
  obtain ⟨g, o, h1, h2⟩ := h i x hx
  exact ⟨g, o, h1, hg.cell h2 (by simp)⟩
theorem load_bad {l : List (Int × Int)} {cs : List Int} (h0 : (baseM l).2 ≠ 0) {w : World} {e : Ending} {w' : World} (h : LPost l cs w e w') : e = .returned (.tuple #[.int .i64 0, .int .i64 0, .int .i64 ((baseM l).2 : Int)]) ∧ w.grownBy w' none := by
  obtain ⟨hg, ⟨_, he⟩ | ⟨h1, _⟩ | ⟨h1, _⟩⟩ := h
  · exact ⟨he, hg⟩
  · exact absurd h1 h0
  · exact absurd h1 h0
theorem load_cost {l : List (Int × Int)} {cs : List Int} (h0 : (baseM l).2 = 0) (hc : costE cs l.length ≠ 0) {w : World} {e : Ending} {w' : World} (h : LPost l cs w e w') : e = .returned (.tuple #[.int .i64 0, .int .i64 0, .int .i64 (costE cs l.length : Int)]) ∧ w.grownBy w' none := by
  obtain ⟨hg, ⟨h1, _⟩ | ⟨_, _, he⟩ | ⟨_, h1, _⟩⟩ := h
  · exact absurd h0 h1
  · exact ⟨he, hg⟩
  · exact absurd h1 hc
theorem load_good {l : List (Int × Int)} {cs : List Int} (h0 : (baseM l).2 = 0) (hc : costE cs l.length = 0) {w : World} {e : Ending} {w' : World} (h : LPost l cs w e w') : ∃ most at_ : Nat, e = .returned (.tuple #[.int .i64 (most : Int), .int .i64 (at_ : Int), .int .i64 0]) ∧ Best l cs most at_ ∧ w.grownBy w' none := by
  obtain ⟨hg, ⟨h1, _⟩ | ⟨_, h1, _⟩ | ⟨_, _, most, at_, hb, he⟩⟩ := h
  · exact absurd h0 h1
  · exact absurd hc h1
  · exact ⟨most, at_, he, hb, hg⟩

set_option maxRecDepth 100000 in
set_option maxHeartbeats 8000000 in
theorem rateLoads_any (l : List (Int × Int)) (cs : List Int) (la ca : Option Addr) (lc cc : Nat) (w : World) (h : PairsI w la l) (hc : IntsAt w ca cs) (hn : l.length ≤ maxLen) (hcn : cs.length ≤ maxLen) :
    Calls Try.prog 5 #[.slice la l.length lc, .slice ca cs.length cc] w fun e w' => e = .returned (.bool true) ∧ w.grownBy w' none := by
  have hal := alive_any w
  obtain ⟨L, hL⟩ : ∃ L, L = l.length := ⟨_, rfl⟩
  obtain ⟨C, hC⟩ : ∃ C, C = cs.length := ⟨_, rfl⟩
  rw [← hL, ← hC]
  rw [← hL] at hn
  rw [← hC] at hcn
  have HL := Lib.hid hL
  have HC := Lib.hid hC
  have HP := Lib.hid (And.intro h hc)
  have hmx : L ≤ 9223372036854775807 := by unfold maxLen at hn; omega
  have hmc : C ≤ 9223372036854775807 := by unfold maxLen at hcn; omega
  clear hL h hn hC hc hcn
  by_cases h100 : 100 < L
  · go_enter Try.func5, Try.ntmps5
    go_wp2_with (go_at_call 7; refine hal.mono ?_; clear hal; rintro e w1 ⟨rfl, hg1⟩; have HG1 := Lib.hid hg1; clear hg1)
    go_ret
    exact ⟨rfl, HG1.out⟩
  · by_cases h200 : 100 < C
    · go_enter Try.func5, Try.ntmps5
      go_wp2_with (go_at_call 7; refine hal.mono ?_; clear hal; rintro e w1 ⟨rfl, hg1⟩; have HG1 := Lib.hid hg1; clear hg1)
      go_ret
      exact ⟨rfl, HG1.out⟩
    · have hL1 : L ≤ 1000 := by omega
      have hC1 : C ≤ 1000 := by omega
      go_enter Try.func5, Try.ntmps5
      go_wp2_with (first | (go_at_call 7; refine hal.mono ?_; clear hal; rintro e w1 ⟨rfl, hg1⟩; have HG1 := Lib.hid hg1; clear hg1) | (at_builtin; refine Hid.out ?_))
      obtain ⟨a2, c2, w2, hr, hg2, hp2⟩ := app_ints w1 ca cc cs (HP.out.2.kept HG1.out) (by rw [← HC.out]; exact hC1) 36
      rw [← HC.out] at hr
      refine Lib.hid (wpList_append_run rfl _ _ 36 rfl _ _ _ rfl rfl hr ?_)
      have ht := load_any l cs la a2 lc c2 w2 (HP.out.1.kept (gtrans HG1.out hg2)) hp2 (by rw [← HL.out]; exact hL1) (by rw [← HC.out]; exact hC1)
      have hrt := fun V (hg : w2.grownBy V none) => rtable_any l la lc V (HP.out.1.kept (gtrans (gtrans HG1.out hg2) hg)) (by rw [← HL.out]; exact hL1)
      rw [← HL.out] at ht hrt
      rw [← HC.out] at ht
      have HG2 := Lib.hid (gtrans HG1.out hg2)
      clear hr hg2 hp2
      by_cases h0 : (baseM l).2 = 0
      · have hb := Rat.baseM_all h0
        replace hrt := fun V hg => (hrt V hg).mono (fun e w' h => rtable_good h0 h)
        have hb5 := hb.2.1
        have hbp := hb.2.2.1
        have H0 := Lib.hid h0
        clear hb h0
        by_cases hCL : C = L
        · by_cases hco : cs.all okC = true
          · have hcE : costE cs l.length = 0 := by unfold costE; rw [if_neg (by rw [← HC.out, ← HL.out]; simpa using hCL), if_pos hco]
            replace ht := ht.mono (fun e w' h => load_good H0.out hcE h)
            obtain ⟨b, hbe⟩ : ∃ b, b = (baseM l).1 := ⟨_, rfl⟩
            rw [← hbe] at hrt hb5 hbp
            rw [← HL.out] at hrt
            have hnum := num_any 0
            have HB := Lib.hid (And.intro hbe hco)
            clear hbe hcE hco
            subst hCL
            go_wp2_with (first | (go_at_call 13; refine ht.mono ?_; clear ht; rintro e w3 ⟨most, at_, rfl, hbest, hg3⟩; have hrt1 := hrt w3 hg3; have H3 := Lib.hid (And.intro hbest hg3); clear hg3 hrt hbest) | (go_at_call 9; refine hrt1.mono ?_; clear hrt1; rintro e w4 ⟨r2, c2', rfl, hR2, hg4⟩; have H4 := Lib.hid (And.intro hR2 hg4); clear hR2 hg4) | (go_at_call 10; refine (hnum _).mono ?_; rintro e w5 ⟨rfl, rfl⟩))
            have HI := Lib.hid (And.intro H4.out.1 (gtrans (gtrans HG2.out H3.out.2) H4.out.2))
            have HBest := Lib.hid H3.out.1
            clear H3 H4 HG2
            go_loopw [12] (fun iv V => ∃ i : Nat, i ≤ C ∧ iv = .int .i64 (i : Int) ∧ Hid (V = w4)) (fun iv _ => C - (intOf iv).toNat)
            case atStart => exact ⟨0, Nat.zero_le _, rfl, Lib.hid rfl⟩
            case round =>
              obtain ⟨i, hi, rfl, HV⟩ := hrel
              obtain rfl := HV.out.symm
              by_cases hlt : i < C
              · obtain ⟨x, hx⟩ : ∃ x, cs[i]? = some x := ⟨_, List.getElem?_eq_getElem (by rw [← HC.out]; exact hlt)⟩
                have hok := List.all_eq_true.1 HB.out.2 x (List.mem_of_getElem? hx)
                simp only [okC, Bool.and_eq_true, decide_eq_true_eq] at hok
                obtain ⟨h1, h2⟩ := hok
                obtain ⟨g, o, rfl, u0⟩ := (HP.out.2.kept HI.out.2) i x hx
                clear hx
                go_wp2
                exact ⟨⟨i + 1, by omega, by go_num, Lib.hid trivial⟩, by simp [intOf]; omega⟩
              · have hCi : C ≤ i := by omega
                go_wp2
                go_loopw [13, 14, 15] (fun bv kv tv V => ∃ (t : Nat) (best : Int) (tick : Nat), t ≤ b ∧ tv = .int .i64 (t : Int) ∧ bv = .int .i64 best ∧ kv = .int .i64 (tick : Int) ∧ -1 ≤ best ∧ best ≤ 100000000 ∧ tick ≤ 5000 ∧ Hid (V = w4 ∧ Bs l cs t best tick)) (fun _ _ tv _ => b - (intOf tv).toNat)
                case atStart => exact ⟨0, -1, 0, Nat.zero_le _, rfl, rfl, rfl, by omega, by omega, by omega, Lib.hid ⟨rfl, ⟨fun _ => ⟨rfl, rfl⟩, fun e => by omega⟩⟩⟩
                case round =>
                  obtain ⟨t, best, tick, ht, rfl, rfl, rfl, hb1, hb2, hk5, HV2⟩ := hrel
                  obtain ⟨hVe, hBs⟩ := HV2.out
                  obtain rfl := hVe.symm
                  have HBs := Lib.hid hBs
                  clear HV2 hBs
                  by_cases hlt : t < b
                  · go_wp2
                    go_loopw [16, 17] (fun nv iv V => ∃ k n : Nat, k ≤ C ∧ iv = .int .i64 (k : Int) ∧ nv = .int .i64 (n : Int) ∧ n ≤ k * 1000000 ∧ Hid (V = w4 ∧ n = ptot l cs t k)) (fun _ iv _ => C - (intOf iv).toNat)
                    case atStart => exact ⟨0, 0, Nat.zero_le _, rfl, rfl, by omega, Lib.hid ⟨rfl, rfl⟩⟩
                    case round =>
                      obtain ⟨k, n, hk, rfl, rfl, hn, HV3⟩ := hrel
                      obtain ⟨hVe, hnp⟩ := HV3.out
                      obtain rfl := hVe.symm
                      have HNP := Lib.hid hnp
                      clear HV3 hnp
                      by_cases hlt2 : k < C
                      · obtain ⟨a1, f1, d1, g1⟩ := HI.out.1.at hlt
                        obtain ⟨p1, rfl, q1⟩ := g1 k hlt2
                        obtain ⟨x, hx⟩ : ∃ x, cs[k]? = some x := ⟨_, List.getElem?_eq_getElem (by rw [← HC.out]; exact hlt2)⟩
                        have hok := List.all_eq_true.1 HB.out.2 x (List.mem_of_getElem? hx)
                        simp only [okC, Bool.and_eq_true, decide_eq_true_eq] at hok
                        obtain ⟨h1, h2⟩ := hok
                        obtain ⟨g, o, rfl, u0⟩ := (HP.out.2.kept HI.out.2) k x hx
                        obtain ⟨xn, rfl⟩ : ∃ xn : Nat, x = (xn : Int) := ⟨x.toNat, by omega⟩
                        have hcx : cst cs k = xn := by rw [cst_at hx]; simp
                        have hxm : xn ≤ 1000000 := by omega
                        have hn2 : n + xn ≤ (k + 1) * 1000000 := (Rat.add_le hn hxm).1
                        have hn3 : n ≤ (k + 1) * 1000000 := (Rat.add_le hn hxm).2
                        have hk100 : k ≤ 100 := by omega
                        cases hX : isOn l t k with
                        | true =>
                          rw [hX] at q1
                          have HX2 : Hid (n + xn = ptot l cs t (k + 1)) := Lib.hid (by rw [ptot, Rat.ptot_succ, if_pos hX, hcx]; exact congrArg (· + xn) HNP.out)
                          clear g1 hx hX hcx h1 h2
                          go_wp2
                          exact ⟨⟨k + 1, n + xn, by omega, by go_num, by go_num, hn2, Lib.hid ⟨trivial, HX2.out⟩⟩, by simp [intOf]; omega⟩
                        | false =>
                          rw [hX] at q1
                          have HX2 : Hid (n = ptot l cs t (k + 1)) := Lib.hid (by rw [ptot, Rat.ptot_succ, if_neg (by rw [hX]; simp), Nat.add_zero]; exact HNP.out)
                          clear g1 hx hX hcx h1 h2
                          go_wp2
                          exact ⟨⟨k + 1, n, by omega, by go_num, rfl, hn3, Lib.hid ⟨trivial, HX2.out⟩⟩, by simp [intOf]; omega⟩
                      · have e : k = C := by omega
                        subst e
                        have hst := HBs.out.step
                        have hnt : n = tot l cs t := by rw [HNP.out, HL.out]; rfl
                        rw [← hnt] at hst
                        have hn6 : n ≤ 100000000 := by omega
                        clear HNP hnt
                        by_cases hgt : best < (n : Int)
                        · rw [if_pos hgt, if_pos hgt] at hst
                          have HST := Lib.hid hst
                          clear hst
                          go_wp2
                          exact ⟨⟨t + 1, (n : Int), t, by omega, by go_num, rfl, rfl, by omega, by omega, by omega, Lib.hid ⟨trivial, HST.out⟩⟩, by simp [intOf]; omega⟩
                        · rw [if_neg hgt, if_neg hgt] at hst
                          have HST := Lib.hid hst
                          clear hst
                          go_wp2
                          exact ⟨⟨t + 1, best, tick, by omega, by go_num, rfl, rfl, hb1, hb2, hk5, Lib.hid ⟨trivial, HST.out⟩⟩, by simp [intOf]; omega⟩
                  · have e : t = b := by omega
                    subst e
                    have hbs := HBs.out
                    rw [HB.out.1] at hbs
                    obtain ⟨rfl, rfl⟩ := Rat.Bs.eq hbs (by rw [← HB.out.1]; exact hbp) HBest.out
                    clear hbs
                    go_wp2_with (go_at_call 10; refine (hnum _).mono ?_; rintro e w5 ⟨rfl, rfl⟩)
                    go_ret
                    exact ⟨rfl, HI.out.2⟩
          · have hcE : costE cs l.length = 1 := by unfold costE; rw [if_neg (by rw [← HC.out, ← HL.out]; simpa using hCL), if_neg hco]
            replace ht := ht.mono (fun e w' h => load_cost H0.out (by rw [hcE]; decide) h)
            rw [hcE] at ht
            have hnum := num_any 1
            have HCO := Lib.hid hco
            clear hcE hco
            subst hCL
            go_wp2_with (first | (go_at_call 13; refine ht.mono ?_; clear ht; rintro e w3 ⟨rfl, hg3⟩; have hrt1 := hrt w3 hg3; have H3 := Lib.hid hg3; clear hg3 hrt) | (go_at_call 9; refine hrt1.mono ?_; clear hrt1; rintro e w4 ⟨r2, c2', rfl, hR2, hg4⟩; have H4 := Lib.hid (And.intro hR2 hg4); clear hR2 hg4) | (go_at_call 10; refine (hnum _).mono ?_; rintro e w5 ⟨rfl, rfl⟩))
            have HI := Lib.hid (gtrans (gtrans HG2.out H3.out) H4.out.2)
            go_loopw [12] (fun iv V => ∃ i : Nat, i ≤ C ∧ iv = .int .i64 (i : Int) ∧ Hid (V = w4 ∧ (cs.take i).all okC = true)) (fun iv _ => C - (intOf iv).toNat)
            case atStart => exact ⟨0, Nat.zero_le _, rfl, Lib.hid ⟨rfl, by simp⟩⟩
            case round =>
              obtain ⟨i, hi, rfl, HV⟩ := hrel
              obtain ⟨hVe, hall⟩ := HV.out
              obtain rfl := hVe.symm
              clear HV
              have HAll := Lib.hid hall
              clear hall
              by_cases hlt : i < C
              · obtain ⟨x, hx⟩ : ∃ x, cs[i]? = some x := ⟨_, List.getElem?_eq_getElem (by rw [← HC.out]; exact hlt)⟩
                obtain ⟨g, o, rfl, u0⟩ := (HP.out.2.kept HI.out) i x hx
                have HX := Lib.hid hx
                clear hx
                by_cases h1 : x < 0
                · go_wp2_with (go_at_call 10; refine (hnum _).mono ?_; rintro e w5 ⟨rfl, rfl⟩)
                  go_ret
                  exact ⟨rfl, HI.out⟩
                · by_cases h2 : 1000000 < x
                  · go_wp2_with (go_at_call 10; refine (hnum _).mono ?_; rintro e w5 ⟨rfl, rfl⟩)
                    go_ret
                    exact ⟨rfl, HI.out⟩
                  · go_wp2
                    refine ⟨⟨i + 1, by omega, by go_num, Lib.hid ⟨trivial, ?_⟩⟩, by simp [intOf]; omega⟩
                    rw [List.take_add_one, HX.out, List.all_append, HAll.out]
                    simp [okC]
                    omega
              · have hall := HAll.out
                rw [List.take_of_length_le (by rw [← HC.out]; omega)] at hall
                exact absurd hall HCO.out
        · have hcE : costE cs l.length = 23 := by unfold costE; rw [if_pos (by rw [← HC.out, ← HL.out]; simpa using hCL)]
          replace ht := ht.mono (fun e w' h => load_cost H0.out (by rw [hcE]; decide) h)
          rw [hcE] at ht
          have hnum := num_any 23
          have e1 : ((C : Int) != (L : Int)) = true := by simp; omega
          have e2 : ((C : Int) == (L : Int)) = false := by simp; omega
          clear hcE
          go_wp2_with (first | (go_at_call 13; refine ht.mono ?_; clear ht; rintro e w3 ⟨rfl, hg3⟩; have hrt1 := hrt w3 hg3; have H3 := Lib.hid hg3; clear hg3 hrt) | (go_at_call 9; refine hrt1.mono ?_; clear hrt1; rintro e w4 ⟨r2, c2', rfl, hR2, hg4⟩; have H4 := Lib.hid (And.intro hR2 hg4); clear hR2 hg4) | (go_at_call 10; refine (hnum _).mono ?_; rintro e w5 ⟨rfl, rfl⟩))
          go_ret
          exact ⟨rfl, gtrans (gtrans HG2.out H3.out) H4.out.2⟩
      · have hb := (Rat.baseM_bad h0).2
        replace ht := ht.mono (fun e w' h => load_bad h0 h)
        replace hrt := fun V hg => (hrt V hg).mono (fun e w' h => rtable_bad h0 h)
        have hnum := num_any ((baseM l).2 : Int)
        obtain ⟨er, hE⟩ : ∃ er, er = (baseM l).2 := ⟨_, rfl⟩
        rw [← hE] at ht hrt hb hnum
        have hle : er ≤ 2 := by omega
        have hne : ((er : Int) == 0) = false := by simp; omega
        have hne2 : ((er : Int) != 0) = true := by simp; omega
        clear hb hE h0
        go_wp2_with (first | (go_at_call 13; refine ht.mono ?_; clear ht; rintro e w3 ⟨rfl, hg3⟩; have hrt1 := hrt w3 hg3; have H3 := Lib.hid hg3; clear hg3 hrt) | (go_at_call 9; refine hrt1.mono ?_; clear hrt1; rintro e w4 ⟨rfl, hg4⟩; have H4 := Lib.hid hg4; clear hg4) | (go_at_call 10; refine (hnum _).mono ?_; clear hnum; rintro e w5 ⟨rfl, rfl⟩))
        go_ret
        exact ⟨rfl, gtrans (gtrans HG2.out H3.out) H4.out⟩
end Go.Proofs.Ytncbaeephnahjaa
