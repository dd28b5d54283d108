/- Stage 19: the walk of CodeNumbers, with Parse as CgL proves it. -/
import Derived.Test.YtcjainfcndlllaaCeO
import Derived.Test.YtcjainfcndlllaaCgL
import Derived.Test.YtcjainfcndlllaaCgD
namespace Go.Proofs.Ytcjainfcndlllaa
open Go.RowKit Go.Maps Go.WideMaps

set_option maxHeartbeats 8000000 in
set_option maxRecDepth 100000 in
theorem codeNumbers_walk2 (hC : CCheck) (hWr : CWrite) (hR : CRead2) (n : Int) (hn : Cd.I64 n) (w : World) : Calls Try.prog 7 #[.int .i64 n] w fun e w' => e = .returned (.bool true) ∧ w.grownBy w' none := by
  have hal := alive19_any hC hWr w
  have hnum := fun k wx => num19_any k wx
  have HNN := Lib.hid hn
  clear hn
  go_enter Try.func7, Try.ntmps7
  go_wp2_with (go_at_call 8; refine hal.mono ?_; rintro e w1 ⟨rfl, hg1⟩; refine Hid.out ?_)
  have HG1 := Lib.hid hg1
  clear hg1 hal
  refine Lib.hid ?_
  go_wp2_with (with_reducible refine hold_ld ?_)
  refine Lib.hid ?_
  obtain ⟨W4, hW4⟩ : ∃ W4, W4 = ((w1.alloc (.cells #[.int .i64 5] 3)).alloc (.cells #[.int .i64 1, .int .i64 n, .int .i64 5, .int .i64 3, .int .i64 0, .int .i64 0, .int .i64 9, .int .i64 0, .int .i64 0] 33)).alloc (.cells #[.slice (some ⟨w1.heap.size, 0, none⟩) 1 1, .int .i64 0, .int .i64 1, .int .i64 0, .int .i64 1, .slice none 0 0, .slice (some ⟨w1.heap.size + 1, 0, none⟩) 3 3] 25) := ⟨_, rfl⟩
  have hk : W4.heap[w1.heap.size]? = some (.cells ([5].map (Value.int .i64)).toArray 3 (0, 0)) := by rw [hW4]; exact alloc_row (alloc_row (heap_alloc_new w1 _) _) _
  have hb : W4.heap[w1.heap.size + 1]? = some (.cells (insC (Cd.pushC n).body).toArray 33 (0, 0)) := by
    rw [hW4]
    have := heap_alloc_new (w1.alloc (.cells #[.int .i64 5] 3)) (.cells #[.int .i64 1, .int .i64 n, .int .i64 5, .int .i64 3, .int .i64 0, .int .i64 0, .int .i64 9, .int .i64 0, .int .i64 0] 33)
    rw [World.size_alloc] at this
    exact alloc_row this _
  have hc : W4.heap[w1.heap.size + 1 + 1]? = some (.cells #[.slice (some ⟨w1.heap.size, 0, none⟩) 1 1, .int .i64 0, .int .i64 1, .int .i64 0, .int .i64 1, .slice none 0 0, .slice (some ⟨w1.heap.size + 1, 0, none⟩) 3 3] 25 (0, 0)) := by
    rw [hW4]
    have := heap_alloc_new ((w1.alloc (.cells #[.int .i64 5] 3)).alloc (.cells #[.int .i64 1, .int .i64 n, .int .i64 5, .int .i64 3, .int .i64 0, .int .i64 0, .int .i64 9, .int .i64 0, .int .i64 0] 33)) (.cells #[.slice (some ⟨w1.heap.size, 0, none⟩) 1 1, .int .i64 0, .int .i64 1, .int .i64 0, .int .i64 1, .slice none 0 0, .slice (some ⟨w1.heap.size + 1, 0, none⟩) 3 3] 25)
    rw [World.size_alloc, World.size_alloc] at this
    exact this
  have hg4 : w1.grownBy W4 none := by rw [hW4]; exact ((World.grownBy_alloc w1 _ none).trans (World.grownBy_alloc _ _ none)).trans (World.grownBy_alloc _ _ none)
  rw [← hW4]
  have HG4 := Lib.hid (HG1.out.trans hg4)
  clear hW4 hg4 HG1
  have hw := hWr W4 (Cd.pushC n) (some ⟨w1.heap.size, 0, none⟩) 1 none 0 (some ⟨w1.heap.size + 1, 0, none⟩) 3 ⟨nums_row hk, NumsAt.nil _ _, inss_row hb⟩ (push_64 n HNN.out) (by exact Nat.le_refl _)
  rw [show codeV (Cd.pushC n) (some ⟨w1.heap.size, 0, none⟩) 1 none 0 (some ⟨w1.heap.size + 1, 0, none⟩) 3 = #[.slice (some ⟨w1.heap.size, 0, none⟩) 1 1, .int .i64 0, .int .i64 1, .int .i64 0, .int .i64 1, .slice none 0 0, .slice (some ⟨w1.heap.size + 1, 0, none⟩) 3 3] from rfl] at hw
  have y0 := cell_of_row _ _ 0 _ _ _ hc
  have y1 := cell_of_row _ _ 1 _ _ _ hc
  have y2 := cell_of_row _ _ 2 _ _ _ hc
  have y3 := cell_of_row _ _ 3 _ _ _ hc
  have y4 := cell_of_row _ _ 4 _ _ _ hc
  have y5 := cell_of_row _ _ 5 _ _ _ hc
  have y6 := cell_of_row _ _ 6 _ _ _ hc
  clear hk hb hc
  go_wp2_with (go_at_call 14; refine hw.mono ?_; rintro e w5 ⟨hg5, hgood, -⟩; obtain ⟨v, rfl, hown⟩ := hgood (Cd.push_ok n); refine Hid.out ?_)
  obtain ⟨a, cap, rfl, hby⟩ := BytesAt.own hown
  have hcp := own_cap hown
  have hlen : (Cd.write (Cd.pushC n)).length ≤ 4000000 := by have h1 := @Cd.push_len n; have h2 : (Cd.num n).length ≤ 10 := Cd.num_len HNN.out; omega
  have HG5 := Lib.hid (HG4.out.trans hg5)
  clear y0 y1 y2 y3 y4 y5 y6 hw hown hgood hg5 HG4
  have hr : Calls Try.prog 15 #[.slice a (Cd.write (Cd.pushC n)).length cap] w5 fun e w' => w5.grownBy w' none ∧ ∃ ka kc ia ic gb ob bc, e = .returned (.tuple #[.agg #[.slice ka 1 kc, .int .i64 0, .int .i64 1, .int .i64 0, .int .i64 1, .slice ia 0 ic, .slice (some ⟨gb, ob, none⟩) 3 bc], .int .i64 0]) ∧ w'.cell? ⟨gb, ob + 1, none⟩ = some (.int .i64 n) := by
    refine (hR w5 (Cd.pushC n) a cap hby hcp hlen (Cd.push_ok n) (push_64 n HNN.out)).mono ?_
    rintro e w' ⟨h1, ka, kc, ia, ic, ba, bc, h2, h3⟩
    obtain ⟨gb, ob, h4, -, h5, -⟩ := h3.body 0 ⟨1, n, 5⟩ (by simp [Cd.pushC])
    subst h4
    refine ⟨h1, ka, kc, ia, ic, gb, ob, bc, ?_, by simpa using h5⟩
    rw [h2]
    simp [codeV, Cd.pushC]
  have HLEN := Lib.hid (@Cd.push_len n)
  obtain ⟨L, hL⟩ : ∃ L, L = (Cd.write (Cd.pushC n)).length := ⟨_, rfl⟩
  rw [← hL] at hr HLEN ⊢
  clear hL hby hcp hlen
  refine Lib.hid ?_
  go_wp2_with (go_at_call 15; refine hr.mono ?_; rintro e w6 ⟨hg6, ka, kc, ia, ic, gb, ob, bc, rfl, hcell⟩; refine Hid.out ?_)
  have HG6 := Lib.hid (HG5.out.trans hg6)
  clear HG5 hg6 hr
  have hlt := lt_of_cell? hcell
  refine Lib.hid ?_
  go_wp2_with (with_reducible refine hold_st ?_)
  refine Lib.hid ?_
  refine store_lastc #[.slice ka 1 kc, .int .i64 0, .int .i64 1, .int .i64 0, .int .i64 1, .slice ia 0 ic, .slice (some ⟨gb, ob, none⟩) 3 bc] ?hp ?hv ?hi ?ho ?h1 ?hK
  case hp => rfl
  case hv => rfl
  case hi => kernel_rfl
  case ho => rfl
  case h1 => simp [Value.oneCell']
  have hrow := heap_alloc_new w6 (.cells #[.slice ka 1 kc, .int .i64 0, .int .i64 1, .int .i64 0, .int .i64 1, .slice ia 0 ic, .slice (some ⟨gb, ob, none⟩) 3 bc] 25)
  have hcl : (w6.alloc (.cells #[.slice ka 1 kc, .int .i64 0, .int .i64 1, .int .i64 0, .int .i64 1, .slice ia 0 ic, .slice (some ⟨gb, ob, none⟩) 3 bc] 25)).cell? ⟨gb, ob + 1, none⟩ = some (.int .i64 n) := (World.grownBy_alloc w6 _ none).cell hcell (by simp)
  have HG7 := Lib.hid (HG6.out.trans (World.grownBy_alloc w6 (.cells #[.slice ka 1 kc, .int .i64 0, .int .i64 1, .int .i64 0, .int .i64 1, .slice ia 0 ic, .slice (some ⟨gb, ob, none⟩) 3 bc] 25) none))
  obtain ⟨W7, hW7⟩ : ∃ W7, W7 = w6.alloc (.cells #[.slice ka 1 kc, .int .i64 0, .int .i64 1, .int .i64 0, .int .i64 1, .slice ia 0 ic, .slice (some ⟨gb, ob, none⟩) 3 bc] 25) := ⟨_, rfl⟩
  rw [← hW7] at hrow hcl HG7 ⊢
  clear hW7 HG6 hcell hlt
  have c6 := cell_of_row _ _ 6 _ _ _ hrow
  clear hrow
  by_cases h0 : n < 0
  · have d1 : decide (n < 0) = true := by rw [decide_eq_true_iff]; exact h0
    have HZ := Lib.hid h0
    clear h0
    go_wp2_with (go_at_call 11; refine (hnum _ _).mono ?_; rintro e w' ⟨rfl, hw'⟩; obtain rfl := hw'.symm)
    rw [zig_neg n HNN.out (by have := HZ.out; omega)]
    obtain ⟨z0, hz0⟩ : ∃ z0, z0 = Cd.zig n := ⟨_, rfl⟩
    have hzl : z0 < 18446744073709551616 := by rw [hz0]; exact Cd.zig_lt HNN.out
    have HLN : Hid (L = 13 + (Cd.bytes z0).length + 6) := Lib.hid (by rw [HLEN.out, hz0]; unfold Cd.num; omega)
    have HL10 : Hid ((Cd.bytes z0).length ≤ 10) := Lib.hid (by rw [hz0]; exact Cd.num_len HNN.out)
    rw [← hz0]
    clear hz0 HLEN HNN d1 HZ
    go_loopw [9, 10] (fun lv zv wr => ∃ k z : Nat, lv = .int .i64 (k : Int) ∧ zv = .int .u64 (z : Int) ∧ z < 18446744073709551616 ∧ Hid (k + (Cd.bytes z).length = 1 + (Cd.bytes z0).length) ∧ wr = W7) (fun _ zv _ => (intOf zv).toNat)
    case atStart => exact ⟨1, z0, rfl, rfl, hzl, Lib.hid rfl, rfl⟩
    case round =>
      obtain ⟨k, z, rfl, rfl, hz, HK, rfl⟩ := hrel
      clear hzl
      by_cases h1 : z < 128
      · have e1 : decide ((128 : Int) ≤ (z : Int)) = false := by rw [decide_eq_false_iff_not]; omega
        have hk := HK.out
        rw [Cd.bytes_small h1] at hk
        simp at hk
        have hk2 : k = (Cd.bytes z0).length := by omega
        have hL2 := HLN.out
        have h10 := HL10.out
        rw [← hk2] at hL2 h10
        subst hL2
        clear hk HK h1 hk2 HLN HL10
        go_wp2
        go_ret
        exact ⟨by go_num, HG7.out⟩
      · have e1 : decide ((128 : Int) ≤ (z : Int)) = true := by rw [decide_eq_true_iff]; omega
        have hk := HK.out
        rw [bytes_up h1] at hk
        have HK2 := Lib.hid hk
        have hkk : k ≤ 11 := by have := HL10.out; omega
        clear hk HK
        go_wp2
        refine ⟨⟨k + 1, z / 128, by go_num, by go_num, by omega, Lib.hid (by have := HK2.out; omega), by first | rfl | trivial⟩, ?_⟩
        simp [intOf]
        omega
  · have d1 : decide (n < 0) = false := by rw [decide_eq_false_iff_not]; exact h0
    have HZ := Lib.hid h0
    clear h0
    go_wp2_with (go_at_call 11; refine (hnum _ _).mono ?_; rintro e w' ⟨rfl, hw'⟩; obtain rfl := hw'.symm)
    rw [zig_pos n HNN.out (by have := HZ.out; omega)]
    obtain ⟨z0, hz0⟩ : ∃ z0, z0 = Cd.zig n := ⟨_, rfl⟩
    have hzl : z0 < 18446744073709551616 := by rw [hz0]; exact Cd.zig_lt HNN.out
    have HLN : Hid (L = 13 + (Cd.bytes z0).length + 6) := Lib.hid (by rw [HLEN.out, hz0]; unfold Cd.num; omega)
    have HL10 : Hid ((Cd.bytes z0).length ≤ 10) := Lib.hid (by rw [hz0]; exact Cd.num_len HNN.out)
    rw [← hz0]
    clear hz0 HLEN HNN d1 HZ
    go_loopw [9, 10] (fun lv zv wr => ∃ k z : Nat, lv = .int .i64 (k : Int) ∧ zv = .int .u64 (z : Int) ∧ z < 18446744073709551616 ∧ Hid (k + (Cd.bytes z).length = 1 + (Cd.bytes z0).length) ∧ wr = W7) (fun _ zv _ => (intOf zv).toNat)
    case atStart => exact ⟨1, z0, rfl, rfl, hzl, Lib.hid rfl, rfl⟩
    case round =>
      obtain ⟨k, z, rfl, rfl, hz, HK, rfl⟩ := hrel
      clear hzl
      by_cases h1 : z < 128
      · have e1 : decide ((128 : Int) ≤ (z : Int)) = false := by rw [decide_eq_false_iff_not]; omega
        have hk := HK.out
        rw [Cd.bytes_small h1] at hk
        simp at hk
        have hk2 : k = (Cd.bytes z0).length := by omega
        have hL2 := HLN.out
        have h10 := HL10.out
        rw [← hk2] at hL2 h10
        subst hL2
        clear hk HK h1 hk2 HLN HL10
        go_wp2
        go_ret
        exact ⟨by go_num, HG7.out⟩
      · have e1 : decide ((128 : Int) ≤ (z : Int)) = true := by rw [decide_eq_true_iff]; omega
        have hk := HK.out
        rw [bytes_up h1] at hk
        have HK2 := Lib.hid hk
        have hkk : k ≤ 11 := by have := HL10.out; omega
        clear hk HK
        go_wp2
        refine ⟨⟨k + 1, z / 128, by go_num, by go_num, by omega, Lib.hid (by have := HK2.out; omega), by first | rfl | trivial⟩, ?_⟩
        simp [intOf]
        omega

theorem codeNumbers_run (n : Int) (h : (Lit.int .i64 n).wf = true) (w : World) : Calls Try.prog 7 #[.int .i64 n] w fun e w' => e = .returned (.bool true) ∧ w.grownBy w' none := codeNumbers_walk2 ccheck_any cwrite_any cread_any n (wfI h) w
end Go.Proofs.Ytcjainfcndlllaa
