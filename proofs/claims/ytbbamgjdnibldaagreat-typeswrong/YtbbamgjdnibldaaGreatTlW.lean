/- TypesWrong's walk. (Written by mktlr.py.) -/
import Derived.Test.YtbbamgjdnibldaaGreatMhN
import Derived.Test.YtbbamgjdnibldaaGreatTlGw
namespace Go.Proofs.YtbbamgjdnibldaaGreat
open Go.RowKit Go.Maps Go.WideMaps

theorem row_ints (w : World) (o : Obj) (l : List Nat) (t : TypeId) (j : Nat) (h : j < l.length) :
  ((w.alloc o).alloc (.cells (l.map (fun (k : Nat) => Value.int .i64 (k : Int))).toArray t)).cell? ⟨w.heap.size + 1, j, none⟩ = some (.int .i64 (((l[j]?).getD 0 : Nat) : Int)) := by
 have e : w.heap.size + 1 = (w.alloc o).heap.size := by simp
 rw [e, cell_of_row _ _ j _ _ _ (heap_alloc_new _ _)]
 simp [h]

set_option maxHeartbeats 3200000 in
set_option maxRecDepth 100000 in
theorem tw_out (n : Int) (w : World) (hn : n < 0 ∨ 32 ≤ n) : Calls Tryz.prog 5 #[.int .i64 n] w fun e w' => e = .returned (.bool true) ∧ w.grownBy w' none := by
 have hal := alive6_any w
 go_enter Tryz.func5, Tryz.ntmps5
 go_wp2_with (go_at_call 7; refine hal.mono ?_; rintro e w1 ⟨rfl, hg1⟩; refine Hid.out ?_)
 clear hal
 have HG := Lib.hid hg1
 clear hg1
 refine Lib.hid ?_
 by_cases c0 : n < 0
 ·have d0 : decide (n < 0) = true := decide_eq_true c0
  clear hn
  go_wp2
  go_ret
  exact ⟨rfl, galloc (galloc HG.out _) _⟩
 have d0 : decide (n < 0) = false := decide_eq_false c0
 have c1 : 32 ≤ n := by omega
 have d1 : decide (32 ≤ n) = true := decide_eq_true c1
 clear hn
 go_wp2
 go_ret
 exact ⟨rfl, galloc (galloc HG.out _) _⟩

set_option maxHeartbeats 12800000 in
set_option maxRecDepth 100000 in
theorem tw_in (n : Nat) (w : World) (hn : n < 32) : Calls Tryz.prog 5 #[.int .i64 (n : Int)] w fun e w' => e = .returned (.bool true) ∧ w.grownBy w' none := by
 have hal := alive6_any w
 have hok := Fam.rg Fam.wrAll n hn
 unfold Fam.okWr at hok
 rw [Bool.and_eq_true, decide_eq_true_eq] at hok
 obtain ⟨hk1, hk2⟩ := hok
 obtain ⟨E, hE⟩ : ∃ E : Int, E = (((Fam.we[n]?).getD 0 : Nat) : Int) := ⟨_, rfl⟩
 rw [← hE] at hk1
 obtain ⟨S, hS, hS2⟩ : ∃ S : ByteArray, S = ⟨(Fam.wr.getD n []).toArray⟩ ∧ S.size ≤ 40 := ⟨_, rfl, by simpa [ByteArray.size] using hk2⟩
 have HS : Hid (S.data.toList = Fam.wr.getD n []) := Lib.hid (by rw [hS])
 have HOK := Lib.hid (And.intro hk1 (And.intro hS hE))
 clear hk1 hk2 hS hE
 have d1 : decide ((n : Int) < 0) = false := by rw [decide_eq_false_iff_not]; omega
 have d2 : decide ((32 : Int) ≤ n) = false := by rw [decide_eq_false_iff_not]; omega
 go_enter Tryz.func5, Tryz.ntmps5
 go_wp2_with (first | (go_at_call 7; refine hal.mono ?_; rintro e w1 ⟨rfl, hg1⟩) | (with_reducible refine hold_not ?_))
 clear hal
 refine hold_gen (fun W => W.cell? ⟨w1.heap.size, n, none⟩ = some (.string ⟨(Fam.wr.getD n []).toArray⟩) ∧ W.cell? ⟨w1.heap.size + 1, n, none⟩ = some (.int .i64 (((Fam.we[n]?).getD 0 : Nat) : Int)) ∧ w1.grownBy W none) ⟨(World.grownBy_alloc _ _ none).cell (row_strings w1 Fam.wr 9 n hn) (by simp), row_ints w1 _ Fam.we 3 n hn, galloc (World.grownBy_alloc w1 _ none) _⟩ ?_
 rintro wt ⟨hc, hd, hgt⟩
 rw [← HOK.out.2.1] at hc
 rw [← HOK.out.2.2] at hd
 have HG := Lib.hid (hg1.trans hgt)
 clear hg1 hgt
 go_wp2_with (go_at_call 9; refine (named_ok (t := Fam.wrHead ++ Fam.wr.getD n [] ++ [59, 32, 116, 101, 108]) (by simp only [ByteArray.data_append, Array.toList_append, HS.out]; rfl) HOK.out.1 _).mono ?_; rintro e w2 ⟨pa2, pL2, pc2, rfl, hN, hg2⟩; refine Hid.out ?_)
 have hd2 := hg2.cell hd (by simp)
 have hga := World.grownBy_alloc w2 (.cells #[.slice pa2 pL2 pc2] 27 (0, 0)) none
 have q2 := cell_of_row _ _ 0 _ _ _ (heap_alloc_new w2 (.cells #[.slice pa2 pL2 pc2] 27 (0, 0)))
 have hd3 := hga.cell hd2 (by simp)
 have HG2 := Lib.hid (And.intro (hN.kept hga) (HG.out.trans (hg2.trans hga)))
 clear hN hg2 hga hc hd hd2 d1 d2
 refine Lib.hid ?_
 go_wp2_with (go_at_call 10; refine (tc_ok HOK.out.1 HG2.out.1).mono ?_; rintro e w3 ⟨⟨at3, rfl⟩, hg3⟩; refine Hid.out ?_)
 have hd4 := hg3.cell hd3 (by simp)
 have HG3 := Lib.hid (HG2.out.2.trans hg3)
 have hee : (E == E) = true := by simp
 clear hg3 hd3 q2 HG2 hS2
 refine Lib.hid ?_
 go_wp2
 go_quiet (first | (go_at_call 11; refine Calls.quiet_of_same (num6_any _ _)))
 go_wp2
 go_ret
 exact ⟨rfl, gdrewN HG3.out _⟩

theorem typesWrong_run (n : Int) (w : World) : Calls Tryz.prog 5 #[.int .i64 n] w fun e w' => e = .returned (.bool true) ∧ w.grownBy w' none := by
 by_cases h : n < 0 ∨ 32 ≤ n
 ·exact tw_out n w h
 ·obtain ⟨o, rfl⟩ : ∃ o : Nat, n = (o : Int) := ⟨n.toNat, by omega⟩
  exact tw_in o w (by omega)
end Go.Proofs.YtbbamgjdnibldaaGreat
