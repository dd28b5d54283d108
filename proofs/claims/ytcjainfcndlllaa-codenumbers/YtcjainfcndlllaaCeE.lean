/- Stage 19: the walk of CodeStacks (written by mkcee.py). -/
import Derived.Test.YtcjainfcndlllaaCeD
import Derived.Lib.FrozenHead
namespace Go.Proofs.Ytcjainfcndlllaa
open Go.RowKit Go.Maps Go.WideMaps

theorem tmod100 (t : Nat) : ((t : Int).tmod 100) = ((t % 100 : Nat) : Int) := (Int.ofNat_tmod t 100).symm
theorem pushes_succ (t : Nat) : (List.range' 0 (t + 1)).map Cd.pushI = (List.range' 0 t).map Cd.pushI ++ [Cd.pushI t] := by
  rw [List.range'_1_concat]
  simp
theorem pushes_len (t : Nat) : ((List.range' 0 t).map Cd.pushI).length = t := by simp

theorem stack_64 (n : Nat) (s : Int) (hn : n ≤ 70) (s0 : 0 ≤ s) (s1 : s ≤ 70) : I64s (Cd.stackK n s) := by
  have hI : ∀ z : Int, 0 ≤ z → z ≤ 1000 → Cd.I64 z := fun z h1 h2 => by unfold Cd.I64; omega
  refine ⟨hI 0 (by decide) (by decide), hI 1 (by decide) (by decide), hI 0 (by decide) (by decide), hI _ s0 (by show s ≤ 1000; omega), fun z hz => ?_, fun z hz => ?_, fun x hx => ?_, (show 1 ≤ maxLen by unfold maxLen; decide), (show 0 ≤ maxLen by unfold maxLen; decide), ?_⟩
  · simp [Cd.stackK] at hz
    subst hz
    exact hI _ (by decide) (by decide)
  · simp [Cd.stackK] at hz
  · have hx' : x ∈ Cd.stackB n := hx
    unfold Cd.stackB at hx'
    rcases List.mem_append.1 hx' with h | h
    · obtain ⟨i, _, rfl⟩ := List.mem_map.1 h
      have hm : i % 100 < 100 := Nat.mod_lt _ (by decide)
      exact ⟨hI 1 (by decide) (by decide), hI _ (by show (0 : Int) ≤ ((i % 100 : Nat) : Int); omega) (by show ((i % 100 : Nat) : Int) ≤ 1000; omega), hI 2 (by decide) (by decide)⟩
    · rcases List.mem_append.1 h with h | h
      · obtain rfl := List.eq_of_mem_replicate h
        exact ⟨hI _ (by decide) (by decide), hI _ (by decide) (by decide), hI _ (by decide) (by decide)⟩
      · simp at h
        rcases h with rfl | rfl <;> exact ⟨hI _ (by decide) (by decide), hI _ (by decide) (by decide), hI _ (by decide) (by decide)⟩
  · show (Cd.stackB n).length ≤ maxLen
    unfold Cd.stackB maxLen
    simp
    omega

set_option maxHeartbeats 8000000 in
set_option maxRecDepth 100000 in
theorem codeStacks_in (hC : CCheck) (hWr : CWrite) (n : Nat) (s : Int) (h1 : 1 ≤ n) (hn : n ≤ 70) (s0 : 0 ≤ s) (s1 : s ≤ 70) (w : World) : Calls Try.prog 6 #[.int .i64 (n : Int), .int .i64 s] w fun e w' => e = .returned (.bool true) ∧ w.grownBy w' none := by
  have hal := alive19_any hC hWr w
  have hnum := fun k wx => num19_any k wx
  obtain ⟨i0, hi, hz0, hzs, hzb⟩ := info_parts info_i
  have d1 : decide ((n : Int) < 1) = false := by rw [decide_eq_false_iff_not]; omega
  have d2 : decide ((70 : Int) < n) = false := by rw [decide_eq_false_iff_not]; omega
  have d3 : decide (s < 0) = false := by rw [decide_eq_false_iff_not]; omega
  have d4 : decide (70 < s) = false := by rw [decide_eq_false_iff_not]; omega
  go_enter Try.func6, Try.ntmps6
  go_wp2_with (go_at_call 8; refine hal.mono ?_; rintro e w1 ⟨rfl, hg1⟩; refine Hid.out ?_)
  have HG1 := Lib.hid hg1
  clear hg1 hal
  refine Lib.hid ?_
  go_wp2
  obtain ⟨w0, hw0⟩ : ∃ w0, w0 = w1.alloc (.cells #[.int .i64 2] 3) := ⟨_, rfl⟩
  have hk0 : w0.heap[w1.heap.size]? = some (.cells #[.int .i64 2] 3 (0, 0)) := by rw [hw0]; exact heap_alloc_new w1 _
  have hs0 : w0.heap.size = w1.heap.size + 1 := by rw [hw0]; exact World.size_alloc _ _
  have hg0 : w1.grownBy w0 none := by rw [hw0]; exact World.grownBy_alloc w1 _ none
  rw [← hw0]
  obtain ⟨W0, hW0⟩ : ∃ W0, W0 = w0.alloc (.cells #[.slice (some ⟨w1.heap.size, 0, none⟩) 1 1, .int .i64 0, .int .i64 1, .int .i64 0, .int .i64 s, .slice none 0 0, .slice none 0 0] 25) := ⟨_, rfl⟩
  have hB0 : Bd w0 W0 (w1.heap.size + 1) [.slice (some ⟨w1.heap.size, 0, none⟩) 1 1, .int .i64 0, .int .i64 1, .int .i64 0, .int .i64 s, .slice none 0 0] (.slice none 0 0) [] := by
    rw [hW0]
    refine ⟨?_, World.ownsRow_nil _ _ _ _, World.grownBy_alloc w0 _ none, by omega⟩
    rw [← hs0]
    exact heap_alloc_new w0 _
  rw [← hW0]
  have H0 := Lib.hid (And.intro hk0 (And.intro hs0 (HG1.out.trans hg0)))
  clear hw0 hW0 hk0 hs0 hg0 HG1
  go_loopw [7] (fun iv wr => ∃ (t : Nat) (v : Value), t ≤ n ∧ iv = .int .i64 (t : Int) ∧ Hid (Bd w0 wr (w1.heap.size + 1) [.slice (some ⟨w1.heap.size, 0, none⟩) 1 1, .int .i64 0, .int .i64 1, .int .i64 0, .int .i64 s, .slice none 0 0] v ((List.range' 0 t).map Cd.pushI))) (fun i _ => n - (intOf i).toNat)
  case atStart => exact ⟨0, _, Nat.zero_le _, rfl, Lib.hid hB0⟩
  case round =>
    obtain ⟨t, v, ht, rfl, HB⟩ := hrel
    clear hB0
    by_cases hlt : t < n
    · obtain ⟨a, c, rfl, -⟩ := HB.out.form
      have hlen := pushes_len t
      rw [hlen] at HB
      have c6 := cell_of_row wr _ 6 _ _ _ HB.out.row
      have m1 := tmod100 t
      obtain ⟨q, hq⟩ : ∃ q : Int, q = ((t % 100 : Nat) : Int) := ⟨_, rfl⟩
      rw [← hq] at m1
      have HQ := Lib.hid hq
      clear hq
      have hB1 := HB.out.alloc (.cells (insC [⟨1, q, 2⟩]).toArray 33)
      have hz1 := hB1.own
      have HB1 := Lib.hid hB1
      clear hB1
      go_wp2_with (at_builtin; refine wpList_append_own _ rfl _ _ 23 rfl ((w1.heap.size + 1) + 1) 33 i0 _ 3 24 Try.underlying23 hi hz0 hzs hzb rfl (by decide) _ ((List.range' 0 t).map Cd.pushI).length (insC ((List.range' 0 t).map Cd.pushI)) rfl hz1 ⟨wr.heap.size, 0, none⟩ 1 1 (insC [⟨1, q, 2⟩]) rfl rfl ?c1 ?c2 ?c3 ?c4 ?c5 ?_)
      case c1 =>
        intro j u hj
        have e : (⟨wr.heap.size, 0, none⟩ : Addr).add j = ⟨wr.heap.size, j, none⟩ := by unfold Addr.add; split <;> simp_all
        rw [e]
        exact (row_cell (heap_alloc_new wr (.cells (insC [⟨1, q, 2⟩]).toArray 33)) j).trans hj
      case c2 => intro u hu; simp [insC] at hu; rcases hu with rfl | rfl | rfl <;> rfl
      case c3 => simp [maxLen]; omega
      case c4 => simp; omega
      case c5 => have := (Array.getElem?_eq_some_iff.1 HB.out.row).1; simp; omega
      intro v' w3 hown' hgr _
      have hrow3 := (hgr.block (w1.heap.size + 1) (Array.getElem?_eq_some_iff.1 HB1.out.row).1 (fun e => HB1.out.ne e.symm)).trans HB1.out.row
      have k6 := cell_of_row w3 _ 6 _ _ _ hrow3
      have z6 := Lib.frozen_of_heap hrow3 6
      obtain ⟨a', m', c', rfl⟩ : ∃ a' m' c', v' = .slice a' m' c' := by
        rcases hown'.2 with ⟨hv, _⟩ | ⟨g, cap, cur, hv, _⟩
        · exact ⟨_, _, _, hv⟩
        · exact ⟨_, _, _, hv⟩
      have HN := Lib.hid (HB1.out.put (more := [⟨1, q, 2⟩]) rfl (by simp) hown' hgr)
      clear hown' hgr hrow3 HB1 hz1
      go_wp2
      refine ⟨⟨t + 1, .slice a' m' c', by omega, by go_num, Lib.hid ?_⟩, by simp [intOf]; omega⟩
      have := HN.out
      rw [show (⟨1, q, 2⟩ : Cd.Ins) = Cd.pushI t by rw [HQ.out]; rfl, ← pushes_succ] at this
      exact this
    · obtain rfl : t = n := by omega
      have HB2 : Hid (Bd w0 wr (w1.heap.size + 1) [.slice (some ⟨w1.heap.size, 0, none⟩) 1 1, .int .i64 0, .int .i64 1, .int .i64 0, .int .i64 s, .slice none 0 0] v ((List.range' 0 t).map Cd.pushI ++ List.replicate (1 - 1) Cd.addI)) := Lib.hid (by simpa using HB.out)
      clear HB
      obtain ⟨Wb, hWb⟩ : ∃ Wb, Wb = wr := ⟨_, rfl⟩
      go_wp2
      go_loopw [8] (fun iv wr => ∃ (j : Nat) (v : Value), 1 ≤ j ∧ j ≤ t ∧ iv = .int .i64 (j : Int) ∧ Hid (Bd w0 wr (w1.heap.size + 1) [.slice (some ⟨w1.heap.size, 0, none⟩) 1 1, .int .i64 0, .int .i64 1, .int .i64 0, .int .i64 s, .slice none 0 0] v ((List.range' 0 t).map Cd.pushI ++ List.replicate (j - 1) Cd.addI))) (fun i _ => t - (intOf i).toNat)
      case atStart => exact ⟨1, _, Nat.le_refl _, h1, rfl, HB2⟩
      case round =>
        obtain ⟨j, v, hj1, hj, rfl, HB⟩ := hrel
        clear HB2 hWb
        by_cases hlt : j < t
        · obtain ⟨a, c, rfl, -⟩ := HB.out.form
          have hlen : ((List.range' 0 t).map Cd.pushI ++ List.replicate (j - 1) Cd.addI).length = t + (j - 1) := by simp
          rw [hlen] at HB
          have c6 := cell_of_row wr _ 6 _ _ _ HB.out.row
          have hB1 := HB.out.alloc (.cells (insC [Cd.addI]).toArray 33)
          have hz1 := hB1.own
          have HB1 := Lib.hid hB1
          clear hB1
          go_wp2_with (at_builtin; refine wpList_append_own _ rfl _ _ 23 rfl ((w1.heap.size + 1) + 1) 33 i0 _ 3 24 Try.underlying23 hi hz0 hzs hzb rfl (by decide) _ ((List.range' 0 t).map Cd.pushI ++ List.replicate (j - 1) Cd.addI).length (insC ((List.range' 0 t).map Cd.pushI ++ List.replicate (j - 1) Cd.addI)) rfl hz1 ⟨wr.heap.size, 0, none⟩ 1 1 (insC [Cd.addI]) rfl rfl ?c1 ?c2 ?c3 ?c4 ?c5 ?_)
          case c1 =>
            intro j u hj
            have e : (⟨wr.heap.size, 0, none⟩ : Addr).add j = ⟨wr.heap.size, j, none⟩ := by unfold Addr.add; split <;> simp_all
            rw [e]
            exact (row_cell (heap_alloc_new wr (.cells (insC [Cd.addI]).toArray 33)) j).trans hj
          case c2 => intro u hu; simp [insC] at hu; rcases hu with rfl | rfl | rfl <;> rfl
          case c3 => simp [maxLen]; omega
          case c4 => simp; omega
          case c5 => have := (Array.getElem?_eq_some_iff.1 HB.out.row).1; simp; omega
          intro v' w3 hown' hgr _
          have hrow3 := (hgr.block (w1.heap.size + 1) (Array.getElem?_eq_some_iff.1 HB1.out.row).1 (fun e => HB1.out.ne e.symm)).trans HB1.out.row
          have k6 := cell_of_row w3 _ 6 _ _ _ hrow3
          have z6 := Lib.frozen_of_heap hrow3 6
          obtain ⟨a', m', c', rfl⟩ : ∃ a' m' c', v' = .slice a' m' c' := by
            rcases hown'.2 with ⟨hv, _⟩ | ⟨g, cap, cur, hv, _⟩
            · exact ⟨_, _, _, hv⟩
            · exact ⟨_, _, _, hv⟩
          have HN := Lib.hid (HB1.out.put (more := [Cd.addI]) rfl (by simp) hown' hgr)
          clear hown' hgr hrow3 HB1 hz1
          go_wp2
          refine ⟨⟨j + 1, .slice a' m' c', by omega, by omega, by go_num, Lib.hid ?_⟩, by simp [intOf]; omega⟩
          have := HN.out
          rw [List.append_assoc, show List.replicate (j - 1) Cd.addI ++ [Cd.addI] = List.replicate (j + 1 - 1) Cd.addI by rw [show j + 1 - 1 = j - 1 + 1 by omega, List.replicate_succ']] at this
          exact this
        · obtain rfl : j = t := by omega
          obtain ⟨a, c, rfl, -⟩ := HB.out.form
          have hlen : ((List.range' 0 j).map Cd.pushI ++ List.replicate (j - 1) Cd.addI).length = j + (j - 1) := by simp
          rw [hlen] at HB
          have c6 := cell_of_row wr _ 6 _ _ _ HB.out.row
          have hB1 := HB.out.alloc (.cells (insC [⟨3, 0, 0⟩, ⟨9, 0, 0⟩]).toArray 33)
          have hz1 := hB1.own
          have HB1 := Lib.hid hB1
          clear hB1
          go_wp2_with (at_builtin; refine wpList_append_own _ rfl _ _ 23 rfl ((w1.heap.size + 1) + 1) 33 i0 _ 3 24 Try.underlying23 hi hz0 hzs hzb rfl (by decide) _ ((List.range' 0 j).map Cd.pushI ++ List.replicate (j - 1) Cd.addI).length (insC ((List.range' 0 j).map Cd.pushI ++ List.replicate (j - 1) Cd.addI)) rfl hz1 ⟨wr.heap.size, 0, none⟩ 2 2 (insC [⟨3, 0, 0⟩, ⟨9, 0, 0⟩]) rfl rfl ?c1 ?c2 ?c3 ?c4 ?c5 ?_)
          case c1 =>
            intro j u hj
            have e : (⟨wr.heap.size, 0, none⟩ : Addr).add j = ⟨wr.heap.size, j, none⟩ := by unfold Addr.add; split <;> simp_all
            rw [e]
            exact (row_cell (heap_alloc_new wr (.cells (insC [⟨3, 0, 0⟩, ⟨9, 0, 0⟩]).toArray 33)) j).trans hj
          case c2 => intro u hu; simp [insC] at hu; rcases hu with rfl | rfl | rfl | rfl | rfl | rfl <;> rfl
          case c3 => simp [maxLen]; omega
          case c4 => simp; omega
          case c5 => have := (Array.getElem?_eq_some_iff.1 HB.out.row).1; simp; omega
          intro v' w3 hown' hgr _
          have hrow3 := (hgr.block (w1.heap.size + 1) (Array.getElem?_eq_some_iff.1 HB1.out.row).1 (fun e => HB1.out.ne e.symm)).trans HB1.out.row
          have k6 := cell_of_row w3 _ 6 _ _ _ hrow3
          have z6 := Lib.frozen_of_heap hrow3 6
          obtain ⟨a', m', c', rfl⟩ : ∃ a' m' c', v' = .slice a' m' c' := by
            rcases hown'.2 with ⟨hv, _⟩ | ⟨g, cap, cur, hv, _⟩
            · exact ⟨_, _, _, hv⟩
            · exact ⟨_, _, _, hv⟩
          have HN := Lib.hid (HB1.out.put (more := [⟨3, 0, 0⟩, ⟨9, 0, 0⟩]) rfl (by simp) hown' hgr)
          clear hown' hgr hrow3 HB1 hz1
          have hb : (List.range' 0 j).map Cd.pushI ++ List.replicate (j - 1) Cd.addI ++ [⟨3, 0, 0⟩, ⟨9, 0, 0⟩] = Cd.stackB j := by unfold Cd.stackB; rw [List.append_assoc]
          rw [hb] at HN
          clear hb c6 hlen
          obtain ⟨a2, c2, e2, hi2⟩ := HN.out.form
          cases e2
          have hkn : NumsAt (w3.setCell ⟨w1.heap.size + 1, 6, none⟩ (.slice a' (Cd.stackB j).length c')) (some ⟨w1.heap.size, 0, none⟩) [2] := (nums_row (l := [2]) H0.out.1).on HN.out.gr
          have hck := hC (w3.setCell ⟨w1.heap.size + 1, 6, none⟩ (.slice a' (Cd.stackB j).length c')) (Cd.stackK j s) (some ⟨w1.heap.size, 0, none⟩) 1 none 0 a' c' ⟨hkn, NumsAt.nil _ _, hi2⟩ (stack_64 j s hn s0 s1) (by exact Nat.le_refl _)
          rw [Cd.stack_check j s h1 hn s0, show codeV (Cd.stackK j s) (some ⟨w1.heap.size, 0, none⟩) 1 none 0 a' c' = #[.slice (some ⟨w1.heap.size, 0, none⟩) 1 1, .int .i64 0, .int .i64 1, .int .i64 0, .int .i64 s, .slice none 0 0, .slice a' (Cd.stackB j).length c'] from rfl] at hck
          have hr := HN.out.row
          have y0 := cell_of_row _ _ 0 _ _ _ hr
          have y1 := cell_of_row _ _ 1 _ _ _ hr
          have y2 := cell_of_row _ _ 2 _ _ _ hr
          have y3 := cell_of_row _ _ 3 _ _ _ hr
          have y4 := cell_of_row _ _ 4 _ _ _ hr
          have y5 := cell_of_row _ _ 5 _ _ _ hr
          have y6 := cell_of_row _ _ 6 _ _ _ hr
          have HGr := Lib.hid (H0.out.2.2.trans HN.out.gr)
          clear hr hi2 hkn HN HB H0
          have HCK := Lib.hid hck
          clear hck
          by_cases q1 : 64 < s
          · have e1 : decide (64 < s) = true := by rw [decide_eq_true_iff]; exact q1
            have hck := HCK.out
            rw [if_pos q1] at hck
            go_wp2_with (first
              | (go_at_call 10; refine hck.mono ?_; rintro e w6 ⟨rfl, hg6⟩)
              | (go_at_call 11; refine (hnum _ _).mono ?_; rintro e w' ⟨rfl, hw'⟩; obtain rfl := hw'.symm))
            go_ret
            exact ⟨rfl, HGr.out.trans hg6⟩
          · have e1 : decide (64 < s) = false := by rw [decide_eq_false_iff_not]; exact q1
            by_cases q2 : s < (j : Int)
            · have e2 : decide (s < (j : Int)) = true := by rw [decide_eq_true_iff]; exact q2
              have hck := HCK.out
              rw [if_neg q1, if_pos q2] at hck
              go_wp2_with (first
                | (go_at_call 10; refine hck.mono ?_; rintro e w6 ⟨rfl, hg6⟩)
                | (go_at_call 11; refine (hnum _ _).mono ?_; rintro e w' ⟨rfl, hw'⟩; obtain rfl := hw'.symm))
              go_ret
              exact ⟨rfl, HGr.out.trans hg6⟩
            · have e2 : decide (s < (j : Int)) = false := by rw [decide_eq_false_iff_not]; exact q2
              have hck := HCK.out
              rw [if_neg q1, if_neg q2] at hck
              go_wp2_with (first
                | (go_at_call 10; refine hck.mono ?_; rintro e w6 ⟨rfl, hg6⟩)
                | (go_at_call 11; refine (hnum _ _).mono ?_; rintro e w' ⟨rfl, hw'⟩; obtain rfl := hw'.symm))
              go_ret
              exact ⟨rfl, HGr.out.trans hg6⟩

theorem codeStacks_out (hC : CCheck) (hWr : CWrite) (n s : Int) (h : n < 1 ∨ 70 < n ∨ s < 0 ∨ 70 < s) (w : World) : Calls Try.prog 6 #[.int .i64 n, .int .i64 s] w fun e w' => e = .returned (.bool true) ∧ w.grownBy w' none := by
  have hal := alive19_any hC hWr w
  rcases Classical.em (n < 1) with a1 | a1
  · have d1 : decide (n < 1) = true := by rw [decide_eq_true_iff]; exact a1
    go_enter Try.func6, Try.ntmps6
    go_wp2_with (go_at_call 8; refine hal.mono ?_; rintro e w1 ⟨rfl, hg1⟩)
    go_ret
    exact ⟨rfl, hg1⟩
  · have d1 : decide (n < 1) = false := by rw [decide_eq_false_iff_not]; exact a1
    rcases Classical.em (70 < n) with a2 | a2
    · have d2 : decide (70 < n) = true := by rw [decide_eq_true_iff]; exact a2
      go_enter Try.func6, Try.ntmps6
      go_wp2_with (go_at_call 8; refine hal.mono ?_; rintro e w1 ⟨rfl, hg1⟩)
      go_ret
      exact ⟨rfl, hg1⟩
    · have d2 : decide (70 < n) = false := by rw [decide_eq_false_iff_not]; exact a2
      rcases Classical.em (s < 0) with a3 | a3
      · have d3 : decide (s < 0) = true := by rw [decide_eq_true_iff]; exact a3
        go_enter Try.func6, Try.ntmps6
        go_wp2_with (go_at_call 8; refine hal.mono ?_; rintro e w1 ⟨rfl, hg1⟩)
        go_ret
        exact ⟨rfl, hg1⟩
      · have d3 : decide (s < 0) = false := by rw [decide_eq_false_iff_not]; exact a3
        have d4 : decide (70 < s) = true := by rw [decide_eq_true_iff]; omega
        go_enter Try.func6, Try.ntmps6
        go_wp2_with (go_at_call 8; refine hal.mono ?_; rintro e w1 ⟨rfl, hg1⟩)
        go_ret
        exact ⟨rfl, hg1⟩
theorem codeStacks_walk (hC : CCheck) (hWr : CWrite) (n s : Int) (w : World) : Calls Try.prog 6 #[.int .i64 n, .int .i64 s] w fun e w' => e = .returned (.bool true) ∧ w.grownBy w' none := by
  by_cases h : n < 1 ∨ 70 < n ∨ s < 0 ∨ 70 < s
  · exact codeStacks_out hC hWr n s h w
  · obtain ⟨m, rfl⟩ : ∃ m : Nat, n = (m : Int) := ⟨n.toNat, by omega⟩
    exact codeStacks_in hC hWr m s (by omega) (by omega) (by omega) (by omega) w

end Go.Proofs.Ytcjainfcndlllaa
