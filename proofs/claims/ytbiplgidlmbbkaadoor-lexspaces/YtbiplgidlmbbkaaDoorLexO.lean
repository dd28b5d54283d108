/- lex's numbers with a kind: the walk of numberOf. -/
import Derived.Test.YtbiplgidlmbbkaaDoorLexN
namespace Go.Proofs.YtbiplgidlmbbkaaDoor
open Go.RowKit

set_option maxHeartbeats 1600000 in
theorem numberOf_ok (k : Int) (d : ByteArray) (hd : Lex.digits d.data.toList) (hne : d.data.toList ≠ []) (h9 : k ≤ 9) (hok : Lex.kindOk k d.data.toList = true) (w : World) :
    Calls Tryd.prog 47 #[.int .i64 k, .string d] w fun e w' => e = .returned (.tuple #[tkv 2 (Bv.wrp k (wrap64 (Lex.numVal d.data.toList))) k, .int .i64 0]) ∧ w.grownBy w' none := by
  have ha := Lex.parseUintB_digits d.data.toList hne hd
  have hlen : d.data.toList.length = d.size := by simp
  simp only [Lex.kindOk, Bool.and_eq_true, decide_eq_true_eq] at hok
  obtain ⟨h20, h2, htop⟩ := hok
  have ht : Lex.top k ≤ 18446744073709551615 := by unfold Lex.top; repeat' split
                                                   all_goals omega
  rw [if_pos (by omega)] at ha
  have hA : Calls Tryd.prog 50 #[.string d, .int .i64 10, .int .i64 64] (w.alloc tk0) fun e w' => e = .returned (.tuple #[.int .u64 (Lex.numVal d.data.toList), .nilIface]) ∧ (w.alloc tk0).grownBy w' none :=
    (Tryd.strconv_ParseUint_10_at64_ok d (by omega) _ ha _).mono fun e w' ⟨he, hw⟩ => ⟨he, by
      rcases hw with rfl | rfl
      · exact World.grownBy.refl _ _
      · exact grown_of_below (Lib.bytesWorld_below _ _ _)⟩
  obtain ⟨z, hz⟩ : ∃ z : Int, z = (Lex.numVal d.data.toList : Int) := ⟨_, rfl⟩
  rw [← hz] at hA
  have HZ : Hid (z = (Lex.numVal d.data.toList : Int)) := hz
  clear hz ha
  unfold tk0 at hA
  rw [← HZ.out]
  rw [← HZ.out] at htop
  have h20' : decide ((20 : Int) < (d.size : Int)) = false := by rw [decide_eq_false_iff_not]; omega
  have h2' : decide (k < 2) = false := by rw [decide_eq_false_iff_not]; omega
  have ht' : decide (Lex.top k < z) = false := by rw [decide_eq_false_iff_not]; omega
  have hG := fun wx => greatest_any k h2 h9 wx
  have hz0 : 0 ≤ z := by rw [HZ.out]; omega
  have hzm : z ≤ 18446744073709551615 := by omega
  clear htop ht
  go_enter Tryd.func47, Tryd.ntmps47
  go_wp2_with (go_at_call 50; refine hA.mono ?_; rintro e w1 ⟨rfl, hg1⟩; refine Hid.out ?_)
  have h6 := Six.of hg1 (by simp)
  obtain ⟨⟨x0, c0⟩, ⟨x1, c1⟩, ⟨x2, c2⟩, ⟨x3, c3⟩, ⟨x4, c4⟩, ⟨x5, c5⟩⟩ := h6.c
  have f0 := h6.f 0
  have f1 := h6.f 1
  have f2 := h6.f 2
  have f3 := h6.f 3
  have f4 := h6.f 4
  have f5 := h6.f 5
  refine Lib.hid ?_
  go_wp2_with (first | (go_at_call 51; refine (hG _).mono ?_; rintro e w' ⟨rfl, rfl⟩) | (go_at_call 52; refine (wrap_any _ _ _).mono ?_; rintro e w' ⟨rfl, rfl⟩))
  (try simp only [Exit.inBlock, Exit.then])
  refine bodyPost_ret (v := .tuple #[tkv 2 (Bv.wrp k (wrap64 z)) k, .int .i64 0]) ?_ rfl ?_
  · rw [results_cell_tmp rfl]
    unfold tkv
    go_simp
  · go_light
    have hg2 := (World.grownBy_alloc w _ none).trans hg1
    refine ⟨rfl, ?_⟩
    repeat (first | with_reducible exact hg2 | with_reducible refine gset ?_ (.inl (Nat.le_refl _)) _)

set_option maxHeartbeats 1600000 in
theorem numberOf_bad (k : Int) (d : ByteArray) (hd : Lex.digits d.data.toList) (hne : d.data.toList ≠ []) (h9 : k ≤ 9) (hsz : d.size ≤ 65536) (hok : Lex.kindOk k d.data.toList = false) (w : World) (hl : LaidR w) :
    Calls Tryd.prog 47 #[.int .i64 k, .string d] w fun e w' => e = .returned (.tuple #[tkv 0 0 0, .int .i64 11]) ∧ w.grownBy w' none := by
  have ha := Lex.parseUintB_digits d.data.toList hne hd
  have hlen : d.data.toList.length = d.size := by simp
  have hl1 := hl.on (World.grownBy_alloc w tk0 none) (by simp)
  have hok2 : ¬ (d.size ≤ 20 ∧ 2 ≤ k ∧ (Lex.numVal d.data.toList : Int) ≤ Lex.top k) := by
    intro hh
    rw [Lex.kindOk, hlen, decide_eq_true hh.1, decide_eq_true hh.2.1, decide_eq_true hh.2.2] at hok
    cases hok
  clear hok
  by_cases hv : Lex.numVal d.data.toList ≤ 18446744073709551615
  · rw [if_pos hv] at ha
    have hA : Calls Tryd.prog 50 #[.string d, .int .i64 10, .int .i64 64] (w.alloc tk0) fun e w' => e = .returned (.tuple #[.int .u64 (Lex.numVal d.data.toList), .nilIface]) ∧ (w.alloc tk0).grownBy w' none :=
      (Tryd.strconv_ParseUint_10_at64_ok d (by omega) _ ha _).mono fun e w' ⟨he, hw⟩ => ⟨he, by
        rcases hw with rfl | rfl
        · exact World.grownBy.refl _ _
        · exact grown_of_below (Lib.bytesWorld_below _ _ _)⟩
    obtain ⟨z, hz⟩ : ∃ z : Int, z = (Lex.numVal d.data.toList : Int) := ⟨_, rfl⟩
    rw [← hz] at hA
    have HZ : Hid (z = (Lex.numVal d.data.toList : Int)) := hz
    clear hz ha
    unfold tk0 at hA
    by_cases h20 : d.size ≤ 20
    · have h20' : decide ((20 : Int) < (d.size : Int)) = false := by rw [decide_eq_false_iff_not]; omega
      by_cases h2 : 2 ≤ k
      · have h2' : decide (k < 2) = false := by rw [decide_eq_false_iff_not]; omega
        have ht' : decide (Lex.top k < z) = true := by rw [decide_eq_true_iff, HZ.out]; omega
        have hG := fun wx => greatest_any k h2 h9 wx
        clear hok2
        go_enter Tryd.func47, Tryd.ntmps47
        go_wp2_with (go_at_call 50; refine hA.mono ?_; rintro e w1 ⟨rfl, hg1⟩; refine Hid.out ?_)
        have h6 := Six.of hg1 (by simp)
        obtain ⟨⟨x0, c0⟩, ⟨x1, c1⟩, ⟨x2, c2⟩, ⟨x3, c3⟩, ⟨x4, c4⟩, ⟨x5, c5⟩⟩ := h6.c
        have f0 := h6.f 0
        have f1 := h6.f 1
        have f2 := h6.f 2
        have f3 := h6.f 3
        have f4 := h6.f 4
        have f5 := h6.f 5
        refine Lib.hid ?_
        go_wp2_with (first | (go_at_call 51; refine (hG _).mono ?_; rintro e w' ⟨rfl, rfl⟩) | (go_at_call 52; refine (wrap_any _ _ _).mono ?_; rintro e w' ⟨rfl, rfl⟩))
        (try simp only [Exit.inBlock, Exit.then])
        refine bodyPost_ret (v := .tuple #[tkv 0 0 0, .int .i64 11]) ?_ rfl ?_
        · rw [results_cell_tmp rfl]
          unfold tkv
          go_simp
        · go_light
          have hg2 := (World.grownBy_alloc w _ none).trans hg1
          refine ⟨rfl, ?_⟩
          repeat (first | with_reducible exact hg2 | with_reducible refine gset ?_ (.inl (Nat.le_refl _)) _)
      · have h2' : decide (k < 2) = true := by rw [decide_eq_true_iff]; omega
        clear hok2
        go_enter Tryd.func47, Tryd.ntmps47
        go_wp2_with (go_at_call 50; refine hA.mono ?_; rintro e w1 ⟨rfl, hg1⟩; refine Hid.out ?_)
        have h6 := Six.of hg1 (by simp)
        obtain ⟨⟨x0, c0⟩, ⟨x1, c1⟩, ⟨x2, c2⟩, ⟨x3, c3⟩, ⟨x4, c4⟩, ⟨x5, c5⟩⟩ := h6.c
        have f0 := h6.f 0
        have f1 := h6.f 1
        have f2 := h6.f 2
        have f3 := h6.f 3
        have f4 := h6.f 4
        have f5 := h6.f 5
        refine Lib.hid ?_
        go_wp2
        (try simp only [Exit.inBlock, Exit.then])
        refine bodyPost_ret (v := .tuple #[tkv 0 0 0, .int .i64 11]) ?_ rfl ?_
        · rw [results_cell_tmp rfl]
          unfold tkv
          go_simp
        · go_light
          have hg2 := (World.grownBy_alloc w _ none).trans hg1
          refine ⟨rfl, ?_⟩
          repeat (first | with_reducible exact hg2 | with_reducible refine gset ?_ (.inl (Nat.le_refl _)) _)
    · have h20' : decide ((20 : Int) < (d.size : Int)) = true := by rw [decide_eq_true_iff]; omega
      clear hok2
      go_enter Tryd.func47, Tryd.ntmps47
      go_wp2_with (go_at_call 50; refine hA.mono ?_; rintro e w1 ⟨rfl, hg1⟩; refine Hid.out ?_)
      have h6 := Six.of hg1 (by simp)
      obtain ⟨⟨x0, c0⟩, ⟨x1, c1⟩, ⟨x2, c2⟩, ⟨x3, c3⟩, ⟨x4, c4⟩, ⟨x5, c5⟩⟩ := h6.c
      have f0 := h6.f 0
      have f1 := h6.f 1
      have f2 := h6.f 2
      have f3 := h6.f 3
      have f4 := h6.f 4
      have f5 := h6.f 5
      refine Lib.hid ?_
      go_wp2
      (try simp only [Exit.inBlock, Exit.then])
      refine bodyPost_ret (v := .tuple #[tkv 0 0 0, .int .i64 11]) ?_ rfl ?_
      · rw [results_cell_tmp rfl]
        unfold tkv
        go_simp
      · go_light
        have hg2 := (World.grownBy_alloc w _ none).trans hg1
        refine ⟨rfl, ?_⟩
        repeat (first | with_reducible exact hg2 | with_reducible refine gset ?_ (.inl (Nat.le_refl _)) _)
  · rw [if_neg hv] at ha
    obtain ⟨tp, p, hcell⟩ := hl1
    have hA : Calls Tryd.prog 50 #[.string d, .int .i64 10, .int .i64 64] (w.alloc tk0) fun e w' => ∃ N, e = .returned (.tuple #[.int .u64 18446744073709551615, .iface 87 (.pointer (some ⟨N, 0, none⟩))]) ∧ (w.alloc tk0).grownBy w' none :=
      (Tryd.strconv_ParseUint_10_at64_range d (by omega) ha _ _ hcell (.inr ⟨tp, p, rfl⟩)).mono fun e w' ⟨N, he, _, _, hb⟩ => ⟨N, he, grown_of_below hb⟩
    clear ha hv hcell hok2
    unfold tk0 at hA
    go_enter Tryd.func47, Tryd.ntmps47
    go_wp2_with (go_at_call 50; refine hA.mono ?_; rintro e w1 ⟨N, rfl, hg1⟩; refine Hid.out ?_)
    have h6 := Six.of hg1 (by simp)
    obtain ⟨⟨x0, c0⟩, ⟨x1, c1⟩, ⟨x2, c2⟩, ⟨x3, c3⟩, ⟨x4, c4⟩, ⟨x5, c5⟩⟩ := h6.c
    have f0 := h6.f 0
    have f1 := h6.f 1
    have f2 := h6.f 2
    have f3 := h6.f 3
    have f4 := h6.f 4
    have f5 := h6.f 5
    refine Lib.hid ?_
    go_wp2
    (try simp only [Exit.inBlock, Exit.then])
    refine bodyPost_ret (v := .tuple #[tkv 0 0 0, .int .i64 11]) ?_ rfl ?_
    · rw [results_cell_tmp rfl]
      unfold tkv
      go_simp
    · go_light
      have hg2 := (World.grownBy_alloc w _ none).trans hg1
      refine ⟨rfl, ?_⟩
      repeat (first | with_reducible exact hg2 | with_reducible refine gset ?_ (.inl (Nat.le_refl _)) _)

end Go.Proofs.YtbiplgidlmbbkaaDoor
