/- RateCounts. (Written by mkray.py.) -/
import Derived.Test.YtncbaeephnahjaaRaV
namespace Rat
def cnt (p q : Nat) : Nat → Nat
  | 0 => 0
  | t + 1 => cnt p q t + (if t % p = q then 1 else 0)
theorem cnt_le (p q : Nat) : ∀ t, cnt p q t ≤ t
  | 0 => Nat.le_refl _
  | t + 1 => by
    have := cnt_le p q t
    rw [cnt]
    split <;> omega
theorem cnt_add {p q : Nat} (hq : q < p) (m : Nat) : ∀ j, j ≤ p → cnt p q (m * p + j) = cnt p q (m * p) + (if q < j then 1 else 0)
  | 0, _ => by simp
  | j + 1, hj => by
    rw [← Nat.add_assoc, cnt, cnt_add hq m j (by omega)]
    have e : (m * p + j) % p = j := by rw [Nat.mul_comm, Nat.mul_add_mod]; exact Nat.mod_eq_of_lt (by omega)
    rw [e]
    by_cases h1 : j = q
    · rw [if_pos h1, if_neg (by omega), if_pos (by omega)]
    · rw [if_neg h1]
      by_cases h2 : q < j
      · rw [if_pos h2, if_pos (by omega)]
      · rw [if_neg h2, if_neg (by omega)]
theorem cnt_mul {p q : Nat} (hq : q < p) : ∀ m, cnt p q (m * p) = m
  | 0 => by simp [cnt]
  | m + 1 => by rw [Nat.succ_mul, cnt_add hq m p (Nat.le_refl _), cnt_mul hq m, if_pos hq]
theorem mod_far {p b t : Nat} (hd : p ∣ b) : (t + 7 * b) % p = t % p := by
  obtain ⟨c, rfl⟩ := hd
  rw [show 7 * (p * c) = p * (7 * c) by rw [Nat.mul_left_comm], Nat.add_mul_mod_self_left]
end Rat
namespace Go.Proofs.Ytncbaeephnahjaa
open Go.RowKit Go.Maps Go.WideMaps Go.Shelf
open Rat (okP baseF baseM toN per off isOn cst tot Best cnt)

theorem actI_nat (p q t : Nat) (hp : 1 ≤ p) : actI (p : Int) (q : Int) (t : Int) = decide (t % p = q) := by
  rw [actI, Bool.eq_iff_iff]
  simp
  omega

set_option maxRecDepth 100000 in
set_option maxHeartbeats 8000000 in
theorem rateCounts_any (l : List (Int × Int)) (la : Option Addr) (lc : Nat) (which : Int) (w : World) (h : PairsI w la l) (hn : l.length ≤ maxLen) (_hw : (Lit.int .i64 which).wf = true) :
    Calls Try.prog 6 #[.slice la l.length lc, .int .i64 which] w fun e w' => e = .returned (.bool true) ∧ w.grownBy w' none := by
  have hal := alive_any w
  obtain ⟨L, hL⟩ : ∃ L, L = l.length := ⟨_, rfl⟩
  rw [← hL]
  rw [← hL] at hn
  have HL := Lib.hid hL
  have HP := Lib.hid h
  have hmx : L ≤ 9223372036854775807 := by unfold maxLen at hn; omega
  clear hL h hn
  by_cases hbad : L < 1 ∨ 6 < L ∨ which < 0
  · by_cases h1 : L < 1
    · clear hbad
      go_enter Try.func6, Try.ntmps6
      go_wp2_with (go_at_call 7; refine hal.mono ?_; clear hal; rintro e w1 ⟨rfl, hg1⟩; have HG1 := Lib.hid hg1; clear hg1)
      go_ret
      exact ⟨rfl, HG1.out⟩
    · by_cases h2 : 6 < L
      · clear hbad
        go_enter Try.func6, Try.ntmps6
        go_wp2_with (go_at_call 7; refine hal.mono ?_; clear hal; rintro e w1 ⟨rfl, hg1⟩; have HG1 := Lib.hid hg1; clear hg1)
        go_ret
        exact ⟨rfl, HG1.out⟩
      · have h3 : which < 0 := by omega
        clear hbad
        go_enter Try.func6, Try.ntmps6
        go_wp2_with (go_at_call 7; refine hal.mono ?_; clear hal; rintro e w1 ⟨rfl, hg1⟩; have HG1 := Lib.hid hg1; clear hg1)
        go_ret
        exact ⟨rfl, HG1.out⟩
  · have h1 : ¬ L < 1 := by omega
    have h2 : ¬ 6 < L := by omega
    have h3 : ¬ which < 0 := by omega
    have h3' : 0 ≤ which := by omega
    clear hbad
    have hL1 : L ≤ 1000 := by omega
    obtain ⟨kN, hkN⟩ : ∃ kN, kN = which.toNat % L := ⟨_, rfl⟩
    have hkL : kN < L := by rw [hkN]; exact Nat.mod_lt _ (by omega)
    have ek : which % (L : Int) = (kN : Int) := by rw [hkN, ← Int.toNat_of_nonneg h3']; simp
    clear hkN
    go_enter Try.func6, Try.ntmps6
    go_wp2_with (first | (go_at_call 7; refine hal.mono ?_; clear hal; rintro e w1 ⟨rfl, hg1⟩; have HG1 := Lib.hid hg1; clear hg1) | (at_builtin; refine Hid.out ?_))
    obtain ⟨a2, c2, w2, hr, hg2, hp2⟩ := app_pairs w1 la lc l (HP.out.kept HG1.out) (by rw [← HL.out]; exact hL1) 22
    rw [← HL.out] at hr
    refine Lib.hid (wpList_append_run rfl _ _ 22 rfl _ _ _ rfl rfl hr ?_)
    have ht := table_any l a2 c2 w2 hp2 (by rw [← HL.out]; exact hL1)
    rw [← HL.out] at ht
    have HG2 := Lib.hid (gtrans HG1.out hg2)
    clear hr hg2 hp2
    by_cases h0 : (baseM l).2 = 0
    · have hb := Rat.baseM_all h0
      replace ht := ht.mono (fun e w' h => table_good h0 h)
      have hall := (Rat.baseM_ok h0).1
      have hb5 := hb.2.1
      have hbp := hb.2.2.1
      obtain ⟨b, hbe⟩ : ∃ b, b = (baseM l).1 := ⟨_, rfl⟩
      rw [← hbe] at ht hb5 hbp
      rw [← HL.out] at ht
      have hnum := num_any 0
      obtain ⟨x, hx⟩ : ∃ x, l[kN]? = some x := ⟨_, List.getElem?_eq_getElem (by rw [← HL.out]; exact hkL)⟩
      obtain ⟨g, o, rfl, hp1, hp2⟩ := HP.out kN x hx
      have hok := Rat.okP_one (List.all_eq_true.1 hall x (List.mem_of_getElem? hx))
      have hper := Rat.toN_at hx
      have hdv := hb.2.2.2.1 kN (by rw [← HL.out]; exact hkL)
      have hleast := hb.2.2.2.2
      obtain ⟨xp, xo⟩ := x
      dsimp only at hok hp1 hp2 hper
      obtain ⟨p, rfl⟩ : ∃ p : Nat, xp = (p : Int) := ⟨xp.toNat, by omega⟩
      obtain ⟨q, rfl⟩ : ∃ q : Nat, xo = (q : Int) := ⟨xo.toNat, by omega⟩
      simp only [Int.toNat_natCast] at hper
      rw [hper.1, ← hbe] at hdv
      rw [← hbe] at hleast
      have hp0 : 1 ≤ p := by omega
      have hp64 : p ≤ 64 := by omega
      have hqp : q < p := by omega
      have HF := Lib.hid (And.intro hp1 (And.intro hp2 (And.intro hper (And.intro hdv (And.intro hleast hall)))))
      clear hb hbe h0 hall hp1 hp2 hok hper hdv hleast hx
      go_wp2_with (first | (go_at_call 8; refine ht.mono ?_; clear ht; rintro e w3 ⟨r1, c1, rfl, hR1, hg3⟩; have H3 := Lib.hid (And.intro hR1 hg3); clear hR1 hg3) | (go_at_call 10; refine (hnum _).mono ?_; clear hnum; rintro e w5 ⟨rfl, rfl⟩))
      have HI : Hid (RowsAt w5 (.slice (some ⟨r1, 0, none⟩) b c1) b L (isOn l) ∧ w.grownBy w5 none) := Lib.hid ⟨H3.out.1, gtrans HG2.out H3.out.2⟩
      clear H3 HG2
      rw [ek]
      clear ek
      go_loopw [10, 11] (fun nv tv V => ∃ t N : Nat, t ≤ b ∧ tv = .int .i64 (t : Int) ∧ nv = .int .i64 (N : Int) ∧ N ≤ t ∧ Hid (N = cnt p q t ∧ RowsAt V (.slice (some ⟨r1, 0, none⟩) b c1) b L (isOn l) ∧ w.grownBy V none)) (fun _ tv _ => b - (intOf tv).toNat)
      case atStart => exact ⟨0, 0, Nat.zero_le _, rfl, rfl, Nat.le_refl _, Lib.hid ⟨rfl, HI.out.1, HI.out.2⟩⟩
      case round =>
        obtain ⟨t, N, htb, rfl, rfl, hNt, HV⟩ := hrel
        clear HI
        by_cases hlt : t < b
        · obtain ⟨a1, f1, d1, g1⟩ := HV.out.2.1.at hlt
          obtain ⟨p1, rfl, q1⟩ := g1 kN hkL
          have u0 := HV.out.2.2.cell HF.out.1 (by simp)
          have u1 := HV.out.2.2.cell HF.out.2.1 (by simp)
          have hon : isOn l t kN = decide (t % p = q) := by rw [isOn, HF.out.2.2.1.1, HF.out.2.2.1.2]
          obtain ⟨b7, hb7⟩ : ∃ b7, b7 = 7 * b := ⟨_, rfl⟩
          obtain ⟨t7, ht7⟩ : ∃ t7, t7 = t + b7 := ⟨_, rfl⟩
          have e7 : 7 * (b : Int) = (b7 : Int) := by omega
          have e8 : (t : Int) + (b7 : Int) = (t7 : Int) := by omega
          have hA1 := active_any (p : Int) (q : Int) (t : Int) (by omega) (by omega)
          have hA2 := active_any (p : Int) (q : Int) (t7 : Int) (by omega) (by omega)
          rw [actI_nat p q t hp0] at hA1
          rw [actI_nat p q t7 hp0, ht7, hb7, Rat.mod_far HF.out.2.2.2.1, ← hb7, ← ht7] at hA2
          have hb7b : b7 ≤ 35000 := by omega
          have ht7b : t7 ≤ 40000 := by omega
          have ew7 : IntKind.i64.wrap (b7 : Int) = (b7 : Int) := (w64q (Nat.le_trans hb7b (by decide))).1
          have ew8 : IntKind.i64.wrap (t7 : Int) = (t7 : Int) := (w64q (Nat.le_trans ht7b (by decide))).1
          rw [hon] at q1
          clear g1 hon hb7 ht7
          by_cases hX : t % p = q
          · have HC2 : Hid (N + 1 = cnt p q (t + 1)) := Lib.hid (by rw [cnt, if_pos hX, ← HV.out.1])
            rw [decide_eq_true hX] at q1 hA1 hA2
            clear hX
            go_wp2
            have hS0 : wr.drew.cell? ⟨r1, t, none⟩ = some (.slice (some ⟨p1, 0, none⟩) L f1) ∧ wr.drew.cell? ⟨p1, kN, none⟩ = some (.bool true) ∧ wr.drew.cell? ⟨g, o + kN * 2, none⟩ = some (.int .i64 (p : Int)) ∧ wr.drew.cell? ⟨g, o + kN * 2 + 1, none⟩ = some (.int .i64 (q : Int)) := ⟨d1, q1, u0, u1⟩
            refine wp_region_L (S := fun V => V.cell? ⟨r1, t, none⟩ = some (.slice (some ⟨p1, 0, none⟩) L f1) ∧ V.cell? ⟨p1, kN, none⟩ = some (.bool true) ∧ V.cell? ⟨g, o + kN * 2, none⟩ = some (.int .i64 (p : Int)) ∧ V.cell? ⟨g, o + kN * 2 + 1, none⟩ = some (.int .i64 (q : Int))) (Z := []) (by kernel_rfl) ?_
            refine t1 0 69 (.slice (some ⟨r1, 0, none⟩) b c1) hS0 ?_
            (try simp only [Act.put, sA, sB, sC])
            refine t1 1 70 (.int .i64 (t : Int)) hS0 ?_
            (try simp only [Act.put, sA, sB, sC])
            refine t2 2 71 (.pointer (some ⟨r1, t, none⟩)) (fun w' hw' => ?_) hS0 ?_
            · clear hw'; go_simp
            (try simp only [Act.put, sA, sB, sC])
            refine t2 3 72 (.slice (some ⟨p1, 0, none⟩) L f1) (fun w' hw' => ?_) hS0 ?_
            · have hc0 := hw'.1; clear hw'; go_simp
            (try simp only [Act.put, sA, sB, sC])
            refine t1 4 73 (.int .i64 (kN : Int)) hS0 ?_
            (try simp only [Act.put, sA, sB, sC])
            refine t2 5 74 (.pointer (some ⟨p1, kN, none⟩)) (fun w' hw' => ?_) hS0 ?_
            · clear hw'; go_simp
            (try simp only [Act.put, sA, sB, sC])
            refine t2 6 75 (.bool true) (fun w' hw' => ?_) hS0 ?_
            · have hc0 := hw'.2.1; clear hw'; go_simp
            (try simp only [Act.put, sA, sB, sC])
            refine t1 7 76 (.slice (some ⟨g, o, none⟩) L lc) hS0 ?_
            (try simp only [Act.put, sA, sB, sC])
            refine t1 8 77 (.int .i64 (kN : Int)) hS0 ?_
            (try simp only [Act.put, sA, sB, sC])
            refine t2 9 78 (.pointer (some ⟨g, o + kN * 2, none⟩)) (fun w' hw' => ?_) hS0 ?_
            · clear hw'; go_simp
            (try simp only [Act.put, sA, sB, sC])
            refine t1 10 79 (.pointer (some ⟨g, o + kN * 2, none⟩)) hS0 ?_
            (try simp only [Act.put, sA, sB, sC])
            refine t2 11 80 (.int .i64 (p : Int)) (fun w' hw' => ?_) hS0 ?_
            · have hc0 := hw'.2.2.1; clear hw'; go_simp
            (try simp only [Act.put, sA, sB, sC])
            refine t1 12 81 (.slice (some ⟨g, o, none⟩) L lc) hS0 ?_
            (try simp only [Act.put, sA, sB, sC])
            refine t1 13 82 (.int .i64 (kN : Int)) hS0 ?_
            (try simp only [Act.put, sA, sB, sC])
            refine t2 14 83 (.pointer (some ⟨g, o + kN * 2, none⟩)) (fun w' hw' => ?_) hS0 ?_
            · clear hw'; go_simp
            (try simp only [Act.put, sA, sB, sC])
            refine t1 15 84 (.pointer (some ⟨g, o + kN * 2 + 1, none⟩)) hS0 ?_
            (try simp only [Act.put, sA, sB, sC])
            refine t2 16 85 (.int .i64 (q : Int)) (fun w' hw' => ?_) hS0 ?_
            · have hc0 := hw'.2.2.2; clear hw'; go_simp
            (try simp only [Act.put, sA, sB, sC])
            refine t1 17 86 (.int .i64 (t : Int)) hS0 ?_
            (try simp only [Act.put, sA, sB, sC])
            refine wpL_call (i := 18) (d := 87) (g := 12) (args := #[.int .i64 (p : Int), .int .i64 (q : Int), .int .i64 (t : Int)]) (R := fun v V => v = .bool true ∧ V = wr.drew) (by kernel_rfl) rfl (by kernel_rfl) (by kernel_rfl) (by kernel_rfl) ((hA1 _).mono (fun e w' hh => ⟨_, hh.1, rfl, hh.2⟩)) (fun v V hh => by rw [hh.2]; exact hS0) (fun v V hh => ?_)
            obtain ⟨rfl, rfl⟩ := hh
            (try simp only [Act.put, sA, sB, sC])
            refine t1 19 88 (.bool false) hS0 ?_
            (try simp only [Act.put, sA, sB, sC])
            refine t1 20 89 (.bool false) hS0 ?_
            (try simp only [Act.put, sA, sB, sC])
            refine t1 21 90 (.slice (some ⟨r1, 0, none⟩) b c1) hS0 ?_
            (try simp only [Act.put, sA, sB, sC])
            refine t1 22 91 (.int .i64 (t : Int)) hS0 ?_
            (try simp only [Act.put, sA, sB, sC])
            refine t2 23 92 (.pointer (some ⟨r1, t, none⟩)) (fun w' hw' => ?_) hS0 ?_
            · clear hw'; go_simp
            (try simp only [Act.put, sA, sB, sC])
            refine t2 24 93 (.slice (some ⟨p1, 0, none⟩) L f1) (fun w' hw' => ?_) hS0 ?_
            · have hc0 := hw'.1; clear hw'; go_simp
            (try simp only [Act.put, sA, sB, sC])
            refine t1 25 94 (.int .i64 (kN : Int)) hS0 ?_
            (try simp only [Act.put, sA, sB, sC])
            refine t2 26 95 (.pointer (some ⟨p1, kN, none⟩)) (fun w' hw' => ?_) hS0 ?_
            · clear hw'; go_simp
            (try simp only [Act.put, sA, sB, sC])
            refine t2 27 96 (.bool true) (fun w' hw' => ?_) hS0 ?_
            · have hc0 := hw'.2.1; clear hw'; go_simp
            (try simp only [Act.put, sA, sB, sC])
            refine t1 28 97 (.slice (some ⟨g, o, none⟩) L lc) hS0 ?_
            (try simp only [Act.put, sA, sB, sC])
            refine t1 29 98 (.int .i64 (kN : Int)) hS0 ?_
            (try simp only [Act.put, sA, sB, sC])
            refine t2 30 99 (.pointer (some ⟨g, o + kN * 2, none⟩)) (fun w' hw' => ?_) hS0 ?_
            · clear hw'; go_simp
            (try simp only [Act.put, sA, sB, sC])
            refine t1 31 100 (.pointer (some ⟨g, o + kN * 2, none⟩)) hS0 ?_
            (try simp only [Act.put, sA, sB, sC])
            refine t2 32 101 (.int .i64 (p : Int)) (fun w' hw' => ?_) hS0 ?_
            · have hc0 := hw'.2.2.1; clear hw'; go_simp
            (try simp only [Act.put, sA, sB, sC])
            refine t1 33 102 (.slice (some ⟨g, o, none⟩) L lc) hS0 ?_
            (try simp only [Act.put, sA, sB, sC])
            refine t1 34 103 (.int .i64 (kN : Int)) hS0 ?_
            (try simp only [Act.put, sA, sB, sC])
            refine t2 35 104 (.pointer (some ⟨g, o + kN * 2, none⟩)) (fun w' hw' => ?_) hS0 ?_
            · clear hw'; go_simp
            (try simp only [Act.put, sA, sB, sC])
            refine t1 36 105 (.pointer (some ⟨g, o + kN * 2 + 1, none⟩)) hS0 ?_
            (try simp only [Act.put, sA, sB, sC])
            refine t2 37 106 (.int .i64 (q : Int)) (fun w' hw' => ?_) hS0 ?_
            · have hc0 := hw'.2.2.2; clear hw'; go_simp
            (try simp only [Act.put, sA, sB, sC])
            refine t1 38 107 (.int .i64 (t : Int)) hS0 ?_
            (try simp only [Act.put, sA, sB, sC])
            refine t1 39 108 (.int .i64 (b : Int)) hS0 ?_
            (try simp only [Act.put, sA, sB, sC])
            refine t2 40 109 (.int .i64 (b7 : Int)) (fun w' hw' => ?_) hS0 ?_
            · clear hw'; go_simp
            (try simp only [Act.put, sA, sB, sC])
            refine t2 41 110 (.int .i64 (t7 : Int)) (fun w' hw' => ?_) hS0 ?_
            · clear hw'; go_simp
            (try simp only [Act.put, sA, sB, sC])
            refine wpL_call (i := 42) (d := 111) (g := 12) (args := #[.int .i64 (p : Int), .int .i64 (q : Int), .int .i64 (t7 : Int)]) (R := fun v V => v = .bool true ∧ V = wr.drew) (by kernel_rfl) rfl (by kernel_rfl) (by kernel_rfl) (by kernel_rfl) ((hA2 _).mono (fun e w' hh => ⟨_, hh.1, rfl, hh.2⟩)) (fun v V hh => by rw [hh.2]; exact hS0) (fun v V hh => ?_)
            obtain ⟨rfl, rfl⟩ := hh
            (try simp only [Act.put, sA, sB, sC])
            refine t1 43 112 (.bool false) hS0 ?_
            (try simp only [Act.put, sA, sB, sC])
            refine t1 44 113 (.bool false) hS0 ?_
            (try simp only [Act.put, sA, sB, sC])
            refine wpL_done (by kernel_rfl) ?_ _
            go_wp2
            exact ⟨⟨t + 1, N + 1, by omega, by go_num, by go_num, by omega, Lib.hid ⟨HC2.out, HV.out.2.1.kept (gdrew _ _), gdd HV.out.2.2⟩⟩, by simp [intOf]; omega⟩
          · have HC2 : Hid (N = cnt p q (t + 1)) := Lib.hid (by rw [cnt, if_neg hX, Nat.add_zero]; exact HV.out.1)
            rw [decide_eq_false hX] at q1 hA1 hA2
            clear hX
            go_wp2
            have hS0 : wr.drew.cell? ⟨r1, t, none⟩ = some (.slice (some ⟨p1, 0, none⟩) L f1) ∧ wr.drew.cell? ⟨p1, kN, none⟩ = some (.bool false) ∧ wr.drew.cell? ⟨g, o + kN * 2, none⟩ = some (.int .i64 (p : Int)) ∧ wr.drew.cell? ⟨g, o + kN * 2 + 1, none⟩ = some (.int .i64 (q : Int)) := ⟨d1, q1, u0, u1⟩
            refine wp_region_L (S := fun V => V.cell? ⟨r1, t, none⟩ = some (.slice (some ⟨p1, 0, none⟩) L f1) ∧ V.cell? ⟨p1, kN, none⟩ = some (.bool false) ∧ V.cell? ⟨g, o + kN * 2, none⟩ = some (.int .i64 (p : Int)) ∧ V.cell? ⟨g, o + kN * 2 + 1, none⟩ = some (.int .i64 (q : Int))) (Z := []) (by kernel_rfl) ?_
            refine t1 0 69 (.slice (some ⟨r1, 0, none⟩) b c1) hS0 ?_
            (try simp only [Act.put, sA, sB, sC])
            refine t1 1 70 (.int .i64 (t : Int)) hS0 ?_
            (try simp only [Act.put, sA, sB, sC])
            refine t2 2 71 (.pointer (some ⟨r1, t, none⟩)) (fun w' hw' => ?_) hS0 ?_
            · clear hw'; go_simp
            (try simp only [Act.put, sA, sB, sC])
            refine t2 3 72 (.slice (some ⟨p1, 0, none⟩) L f1) (fun w' hw' => ?_) hS0 ?_
            · have hc0 := hw'.1; clear hw'; go_simp
            (try simp only [Act.put, sA, sB, sC])
            refine t1 4 73 (.int .i64 (kN : Int)) hS0 ?_
            (try simp only [Act.put, sA, sB, sC])
            refine t2 5 74 (.pointer (some ⟨p1, kN, none⟩)) (fun w' hw' => ?_) hS0 ?_
            · clear hw'; go_simp
            (try simp only [Act.put, sA, sB, sC])
            refine t2 6 75 (.bool false) (fun w' hw' => ?_) hS0 ?_
            · have hc0 := hw'.2.1; clear hw'; go_simp
            (try simp only [Act.put, sA, sB, sC])
            refine t1 7 76 (.slice (some ⟨g, o, none⟩) L lc) hS0 ?_
            (try simp only [Act.put, sA, sB, sC])
            refine t1 8 77 (.int .i64 (kN : Int)) hS0 ?_
            (try simp only [Act.put, sA, sB, sC])
            refine t2 9 78 (.pointer (some ⟨g, o + kN * 2, none⟩)) (fun w' hw' => ?_) hS0 ?_
            · clear hw'; go_simp
            (try simp only [Act.put, sA, sB, sC])
            refine t1 10 79 (.pointer (some ⟨g, o + kN * 2, none⟩)) hS0 ?_
            (try simp only [Act.put, sA, sB, sC])
            refine t2 11 80 (.int .i64 (p : Int)) (fun w' hw' => ?_) hS0 ?_
            · have hc0 := hw'.2.2.1; clear hw'; go_simp
            (try simp only [Act.put, sA, sB, sC])
            refine t1 12 81 (.slice (some ⟨g, o, none⟩) L lc) hS0 ?_
            (try simp only [Act.put, sA, sB, sC])
            refine t1 13 82 (.int .i64 (kN : Int)) hS0 ?_
            (try simp only [Act.put, sA, sB, sC])
            refine t2 14 83 (.pointer (some ⟨g, o + kN * 2, none⟩)) (fun w' hw' => ?_) hS0 ?_
            · clear hw'; go_simp
            (try simp only [Act.put, sA, sB, sC])
            refine t1 15 84 (.pointer (some ⟨g, o + kN * 2 + 1, none⟩)) hS0 ?_
            (try simp only [Act.put, sA, sB, sC])
            refine t2 16 85 (.int .i64 (q : Int)) (fun w' hw' => ?_) hS0 ?_
            · have hc0 := hw'.2.2.2; clear hw'; go_simp
            (try simp only [Act.put, sA, sB, sC])
            refine t1 17 86 (.int .i64 (t : Int)) hS0 ?_
            (try simp only [Act.put, sA, sB, sC])
            refine wpL_call (i := 18) (d := 87) (g := 12) (args := #[.int .i64 (p : Int), .int .i64 (q : Int), .int .i64 (t : Int)]) (R := fun v V => v = .bool false ∧ V = wr.drew) (by kernel_rfl) rfl (by kernel_rfl) (by kernel_rfl) (by kernel_rfl) ((hA1 _).mono (fun e w' hh => ⟨_, hh.1, rfl, hh.2⟩)) (fun v V hh => by rw [hh.2]; exact hS0) (fun v V hh => ?_)
            obtain ⟨rfl, rfl⟩ := hh
            (try simp only [Act.put, sA, sB, sC])
            refine t1 19 88 (.bool false) hS0 ?_
            (try simp only [Act.put, sA, sB, sC])
            refine t1 20 89 (.bool false) hS0 ?_
            (try simp only [Act.put, sA, sB, sC])
            refine t1 21 90 (.slice (some ⟨r1, 0, none⟩) b c1) hS0 ?_
            (try simp only [Act.put, sA, sB, sC])
            refine t1 22 91 (.int .i64 (t : Int)) hS0 ?_
            (try simp only [Act.put, sA, sB, sC])
            refine t2 23 92 (.pointer (some ⟨r1, t, none⟩)) (fun w' hw' => ?_) hS0 ?_
            · clear hw'; go_simp
            (try simp only [Act.put, sA, sB, sC])
            refine t2 24 93 (.slice (some ⟨p1, 0, none⟩) L f1) (fun w' hw' => ?_) hS0 ?_
            · have hc0 := hw'.1; clear hw'; go_simp
            (try simp only [Act.put, sA, sB, sC])
            refine t1 25 94 (.int .i64 (kN : Int)) hS0 ?_
            (try simp only [Act.put, sA, sB, sC])
            refine t2 26 95 (.pointer (some ⟨p1, kN, none⟩)) (fun w' hw' => ?_) hS0 ?_
            · clear hw'; go_simp
            (try simp only [Act.put, sA, sB, sC])
            refine t2 27 96 (.bool false) (fun w' hw' => ?_) hS0 ?_
            · have hc0 := hw'.2.1; clear hw'; go_simp
            (try simp only [Act.put, sA, sB, sC])
            refine t1 28 97 (.slice (some ⟨g, o, none⟩) L lc) hS0 ?_
            (try simp only [Act.put, sA, sB, sC])
            refine t1 29 98 (.int .i64 (kN : Int)) hS0 ?_
            (try simp only [Act.put, sA, sB, sC])
            refine t2 30 99 (.pointer (some ⟨g, o + kN * 2, none⟩)) (fun w' hw' => ?_) hS0 ?_
            · clear hw'; go_simp
            (try simp only [Act.put, sA, sB, sC])
            refine t1 31 100 (.pointer (some ⟨g, o + kN * 2, none⟩)) hS0 ?_
            (try simp only [Act.put, sA, sB, sC])
            refine t2 32 101 (.int .i64 (p : Int)) (fun w' hw' => ?_) hS0 ?_
            · have hc0 := hw'.2.2.1; clear hw'; go_simp
            (try simp only [Act.put, sA, sB, sC])
            refine t1 33 102 (.slice (some ⟨g, o, none⟩) L lc) hS0 ?_
            (try simp only [Act.put, sA, sB, sC])
            refine t1 34 103 (.int .i64 (kN : Int)) hS0 ?_
            (try simp only [Act.put, sA, sB, sC])
            refine t2 35 104 (.pointer (some ⟨g, o + kN * 2, none⟩)) (fun w' hw' => ?_) hS0 ?_
            · clear hw'; go_simp
            (try simp only [Act.put, sA, sB, sC])
            refine t1 36 105 (.pointer (some ⟨g, o + kN * 2 + 1, none⟩)) hS0 ?_
            (try simp only [Act.put, sA, sB, sC])
            refine t2 37 106 (.int .i64 (q : Int)) (fun w' hw' => ?_) hS0 ?_
            · have hc0 := hw'.2.2.2; clear hw'; go_simp
            (try simp only [Act.put, sA, sB, sC])
            refine t1 38 107 (.int .i64 (t : Int)) hS0 ?_
            (try simp only [Act.put, sA, sB, sC])
            refine t1 39 108 (.int .i64 (b : Int)) hS0 ?_
            (try simp only [Act.put, sA, sB, sC])
            refine t2 40 109 (.int .i64 (b7 : Int)) (fun w' hw' => ?_) hS0 ?_
            · clear hw'; go_simp
            (try simp only [Act.put, sA, sB, sC])
            refine t2 41 110 (.int .i64 (t7 : Int)) (fun w' hw' => ?_) hS0 ?_
            · clear hw'; go_simp
            (try simp only [Act.put, sA, sB, sC])
            refine wpL_call (i := 42) (d := 111) (g := 12) (args := #[.int .i64 (p : Int), .int .i64 (q : Int), .int .i64 (t7 : Int)]) (R := fun v V => v = .bool false ∧ V = wr.drew) (by kernel_rfl) rfl (by kernel_rfl) (by kernel_rfl) (by kernel_rfl) ((hA2 _).mono (fun e w' hh => ⟨_, hh.1, rfl, hh.2⟩)) (fun v V hh => by rw [hh.2]; exact hS0) (fun v V hh => ?_)
            obtain ⟨rfl, rfl⟩ := hh
            (try simp only [Act.put, sA, sB, sC])
            refine t1 43 112 (.bool false) hS0 ?_
            (try simp only [Act.put, sA, sB, sC])
            refine t1 44 113 (.bool false) hS0 ?_
            (try simp only [Act.put, sA, sB, sC])
            refine wpL_done (by kernel_rfl) ?_ _
            go_wp2
            exact ⟨⟨t + 1, N, by omega, by go_num, rfl, by omega, Lib.hid ⟨HC2.out, HV.out.2.1.kept (gdrew _ _), gdd HV.out.2.2⟩⟩, by simp [intOf]; omega⟩
        · have e : t = b := by omega
          subst e
          have hcn : N * p = t := by
            obtain ⟨m, hm⟩ := HF.out.2.2.2.1
            rw [HV.out.1, hm, Nat.mul_comm p m, Rat.cnt_mul hqp]
          have u0 := HV.out.2.2.cell HF.out.1 (by simp)
          have ecn : (N : Int) * (p : Int) = (t : Int) := by rw [← hcn]; simp
          have HCN := Lib.hid hcn
          clear hcn
          go_wp2
          go_loopw [12] (fun bv V => ∃ c : Nat, 1 ≤ c ∧ c ≤ t ∧ bv = .int .i64 (c : Int) ∧ Hid (w.grownBy V none)) (fun bv _ => t - (intOf bv).toNat)
          case atStart => exact ⟨1, by omega, by omega, rfl, Lib.hid HV.out.2.2⟩
          case round =>
            obtain ⟨c, hc1, hc2, rfl, HW⟩ := hrel
            clear u0
            by_cases hct : c < t
            · go_wp2
              go_loopw [13, 14] (fun av iv V => ∃ (i : Nat) (A : Bool), i ≤ L ∧ iv = .int .i64 (i : Int) ∧ av = .bool A ∧ Hid ((A = true ↔ ∀ j, j < i → per (toN l) j ∣ c) ∧ w.grownBy V none)) (fun _ iv _ => L - (intOf iv).toNat)
              case atStart => exact ⟨0, true, Nat.zero_le _, rfl, rfl, Lib.hid ⟨by simp, HW.out⟩⟩
              case round =>
                obtain ⟨i, A, hi, rfl, rfl, HA⟩ := hrel
                by_cases hiL : i < L
                · obtain ⟨x, hx⟩ : ∃ x, l[i]? = some x := ⟨_, List.getElem?_eq_getElem (by rw [← HL.out]; exact hiL)⟩
                  obtain ⟨g2, o2, hga, hp3, _⟩ := HP.out i x hx
                  injection hga with hga
                  injection hga with hg1 hg2
                  subst hg1 hg2
                  have hok := Rat.okP_one (List.all_eq_true.1 HF.out.2.2.2.2.2 x (List.mem_of_getElem? hx))
                  have hper := (Rat.toN_at hx).1
                  obtain ⟨xp, xo⟩ := x
                  dsimp only at hok hp3 hper
                  obtain ⟨p2, rfl⟩ : ∃ p2 : Nat, xp = (p2 : Int) := ⟨xp.toNat, by omega⟩
                  simp only [Int.toNat_natCast] at hper
                  have u3 := HA.out.2.cell hp3 (by simp)
                  have hp20 : 1 ≤ p2 := by omega
                  obtain ⟨r, hr⟩ : ∃ r, r = c % p2 := ⟨_, rfl⟩
                  have er : (c : Int) % (p2 : Int) = (r : Int) := by rw [hr]; simp
                  have hrl : r < p2 := by rw [hr]; exact Nat.mod_lt _ (by omega)
                  have hp264 : p2 ≤ 64 := by omega
                  have hdr : p2 ∣ c ↔ r = 0 := by rw [hr]; exact Nat.dvd_iff_mod_eq_zero
                  have hstep : (∀ j, j < i + 1 → per (toN l) j ∣ c) ↔ (∀ j, j < i → per (toN l) j ∣ c) ∧ r = 0 := by
                    rw [← hdr]
                    constructor
                    · intro h
                      exact ⟨fun j hj => h j (by omega), by rw [← hper]; exact h i (by omega)⟩
                    · intro h j hj
                      by_cases e : j = i
                      · rw [e, hper]; exact h.2
                      · exact h.1 j (by omega)
                  have HS := Lib.hid hstep
                  clear hstep hdr hr hok hper hp3 hx
                  cases A with
                  | true =>
                    by_cases hr0 : r = 0
                    · have HN2 : Hid (true = true ↔ ∀ j, j < i + 1 → per (toN l) j ∣ c) := Lib.hid (by rw [HS.out]; exact ⟨fun _ => ⟨HA.out.1.1 rfl, hr0⟩, fun _ => rfl⟩)
                      subst hr0
                      go_wp2
                      exact ⟨⟨i + 1, true, by omega, by go_num, rfl, Lib.hid ⟨HN2.out, HA.out.2⟩⟩, by simp [intOf]; omega⟩
                    · have HN2 : Hid (false = true ↔ ∀ j, j < i + 1 → per (toN l) j ∣ c) := Lib.hid (by rw [HS.out]; exact ⟨fun h => (by cases h), fun h => absurd h.2 hr0⟩)
                      have hre : ((r : Int) == 0) = false := by simp; exact hr0
                      go_wp2
                      exact ⟨⟨i + 1, false, by omega, by go_num, rfl, Lib.hid ⟨HN2.out, HA.out.2⟩⟩, by simp [intOf]; omega⟩
                  | false =>
                    have HN2 : Hid (false = true ↔ ∀ j, j < i + 1 → per (toN l) j ∣ c) := Lib.hid (by rw [HS.out]; exact ⟨fun h => (by cases h), fun h => HA.out.1.2 h.1⟩)
                    go_wp2
                    exact ⟨⟨i + 1, false, by omega, by go_num, rfl, Lib.hid ⟨HN2.out, HA.out.2⟩⟩, by simp [intOf]; omega⟩
                · have e : i = L := by omega
                  subst e
                  cases A with
                  | true =>
                    have hdc := HF.out.2.2.2.2.1 c (fun j hj => HA.out.1.1 rfl j (by rw [HL.out]; exact hj))
                    have := Nat.le_of_dvd (by omega) hdc
                    omega
                  | false =>
                    go_wp2
                    exact ⟨⟨c + 1, by omega, by omega, by go_num, Lib.hid HA.out.2⟩, by simp [intOf]; omega⟩
            · go_wp2
              go_ret
              exact ⟨rfl, HW.out⟩
    · have hb := (Rat.baseM_bad h0).2
      replace ht := ht.mono (fun e w' h => table_bad h0 h)
      have hnum := num_any ((baseM l).2 : Int)
      obtain ⟨er, hE⟩ : ∃ er, er = (baseM l).2 := ⟨_, rfl⟩
      rw [← hE] at ht hb hnum
      have hle : er ≤ 2 := by omega
      have hne : ((er : Int) == 0) = false := by simp; omega
      have hne2 : ((er : Int) != 0) = true := by simp; omega
      clear hb hE h0
      go_wp2_with (first | (go_at_call 8; refine ht.mono ?_; clear ht; rintro e w3 ⟨rfl, hg3⟩; have H3 := Lib.hid hg3; clear hg3) | (go_at_call 10; refine (hnum _).mono ?_; clear hnum; rintro e w5 ⟨rfl, rfl⟩))
      go_ret
      exact ⟨rfl, gtrans HG2.out H3.out⟩
end Go.Proofs.Ytncbaeephnahjaa
