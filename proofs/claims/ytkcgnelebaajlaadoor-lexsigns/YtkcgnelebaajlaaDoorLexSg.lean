/- Signs: of two that can be one the longer one is taken; and the walk of LexSigns. -/
import Derived.Test.YtkcgnelebaajlaaDoorLexS
import Derived.Deep.RegionHeld3
namespace Go.Proofs.YtkcgnelebaajlaaDoor
open Go.RowKit Go.Maps Go.WideMaps

namespace Lex
/-- the signs, in the order of the statement -/
def signsL : List (List UInt8) := [[45, 62], [61, 62], [60, 62], [60, 61], [62, 61], [60, 60], [62, 62], [40], [41], [91], [93], [44], [59], [58], [61], [60], [62], [43], [42], [47], [38], [124], [94]]
def sg (j : Nat) : List UInt8 := signsL.getD j []
/-- the first of the seven long signs that two signs begin with, 7: none -/
def hit (b : List UInt8) : Nat := ((List.range 7).find? (fun k => b.take 2 == sg k)).getD 7
def apart (i j : Nat) : Res := .ok [⟨4, sg i, 0, 0, 0⟩, ⟨4, sg j, 0, 0, (sg i).length + 1⟩, ⟨5, [], 0, 0, (sg i).length + (sg j).length + 1⟩]
def both (i j : Nat) : List UInt8 := sg i ++ sg j
/-- what stands at the front: the two tokens of two signs side by side, or one sign of both and what is left -/
def glued (i j : Nat) (r : Res) : Bool :=
  match r with
  | .ok ts => if (sg i).length == 1 && decide (hit (both i j) < 7) then ts.length == (both i j).length && (ts.head?.map (·.text)) == some (sg (hit (both i j)))
    else ts == [⟨4, sg i, 0, 0, 0⟩, ⟨4, sg j, 0, 0, (sg i).length⟩, ⟨5, [], 0, 0, (both i j).length⟩]
  | .err _ _ => false
theorem signs_all : ((List.range 23).all fun i => (List.range 23).all fun j => (tokens (sg i ++ (32 :: sg j)) == apart i j) && glued i j (tokens (both i j)) && decide (1 ≤ (sg i).length) && decide ((sg i).length ≤ 2)) = true := by kernel_rfl
theorem signs_at (i j : Nat) (hi : i < 23) (hj : j < 23) : tokens (sg i ++ (32 :: sg j)) = apart i j ∧ glued i j (tokens (both i j)) = true ∧ 1 ≤ (sg i).length ∧ (sg i).length ≤ 2 := by
  have h := List.all_eq_true.1 (List.all_eq_true.1 signs_all i (List.mem_range.2 hi)) j (List.mem_range.2 hj)
  simp only [Bool.and_eq_true, decide_eq_true_eq] at h
  exact ⟨beq_iff_eq.1 h.1.1.1, h.1.1.2, h.1.2, h.2⟩
theorem hit_spec (b : List UInt8) : hit b ≤ 7 ∧ (∀ t, t < hit b → (b.take 2 == sg t) = false) ∧ (hit b < 7 → (b.take 2 == sg (hit b)) = true) := by
  unfold hit
  cases h : (List.range 7).find? (fun k => b.take 2 == sg k) with
  | none =>
    rw [List.find?_range_eq_none] at h
    refine ⟨Nat.le_refl _, fun t ht => ?_, fun hh => absurd hh (by simp)⟩
    have := h t ht
    simpa using this
  | some k =>
    rw [List.find?_range_eq_some] at h
    refine ⟨by have := List.mem_range.1 h.2.1; simp only [Option.getD_some]; omega, fun t ht => ?_, fun _ => h.1⟩
    have := h.2.2 t ht
    simpa using this
theorem row_cons (x : Tk) (l : List Tk) : row (x :: l) = cells x ++ row l := by simp [row]
end Lex

theorem sgOn {w W W' : World} {g i j : Nat} {x y : ByteArray} (h : W.cell? ⟨g, i, none⟩ = some (.string x) ∧ W.cell? ⟨g, j, none⟩ = some (.string y) ∧ LaidR W ∧ w.grownBy W none) (hg : W.grownBy W' none) :
    W'.cell? ⟨g, i, none⟩ = some (.string x) ∧ W'.cell? ⟨g, j, none⟩ = some (.string y) ∧ LaidR W' ∧ w.grownBy W' none :=
  ⟨hg.cell h.1 (by simp), hg.cell h.2.1 (by simp), h.2.2.1.on hg (by simp), h.2.2.2.trans hg⟩
theorem slc_to (s : ByteArray) (j : Nat) (h2 : j ≤ s.size) (wx : World) :
    (Instr.slice 9 (.string s) none (some (.int .i64 (j : Int))) none).run Tryd.prog wx = .ok (.string (s.extract 0 j)) wx := by
  rw [run_slice_string_to_if (P := Tryd.prog) wx 9 s .i64 (j : Int) Tryd.underlying9, if_pos (by omega)]
  simp
theorem sgLaid {w W : World} {g i j : Nat} {x y : ByteArray} (h : W.cell? ⟨g, i, none⟩ = some (.string x) ∧ W.cell? ⟨g, j, none⟩ = some (.string y) ∧ LaidR W ∧ w.grownBy W none) : LaidR W := h.2.2.1
theorem sgDrew {w W : World} {g i j : Nat} {x y : ByteArray} (h : W.cell? ⟨g, i, none⟩ = some (.string x) ∧ W.cell? ⟨g, j, none⟩ = some (.string y) ∧ LaidR W ∧ w.grownBy W none) :
    W.drew.cell? ⟨g, i, none⟩ = some (.string x) ∧ W.drew.cell? ⟨g, j, none⟩ = some (.string y) ∧ LaidR W.drew ∧ w.grownBy W.drew none :=
  sgOn h ⟨rfl, rfl, rfl, Nat.le_refl _, fun _ _ _ => rfl⟩

set_option maxHeartbeats 3200000 in
set_option maxRecDepth 100000 in
theorem lexSigns_walk (a0 a1 : Int) (w : World) (hl : LaidR w) :
    Calls Tryd.prog 8 #[.int .i64 a0, .int .i64 a1] w fun e w' => e = .returned (.bool true) ∧ w.grownBy w' none := by
  by_cases hr : 0 ≤ a0 ∧ a0 < 23 ∧ 0 ≤ a1 ∧ a1 < 23
  · obtain ⟨h1, h2, h3, h4⟩ := hr
    obtain ⟨i, rfl⟩ : ∃ n : Nat, a0 = (n : Int) := ⟨a0.toNat, by omega⟩
    obtain ⟨j, rfl⟩ : ∃ k : Nat, a1 = (k : Int) := ⟨a1.toNat, by omega⟩
    have hi : (i : Int) < 23 := by omega
    have hj : (j : Int) < 23 := by omega
    have d1 : decide ((i : Int) < 0) = false := by rw [decide_eq_false_iff_not]; omega
    have d2 : decide ((23 : Int) ≤ i) = false := by rw [decide_eq_false_iff_not]; omega
    have d3 : decide ((j : Int) < 0) = false := by rw [decide_eq_false_iff_not]; omega
    have d4 : decide ((23 : Int) ≤ j) = false := by rw [decide_eq_false_iff_not]; omega
    have hS2 := Lex.signs_at i j (by omega) (by omega)
    have hS3 := (Lex.signs_at j i (by omega) (by omega)).2.2
    clear h1 h2 h3 h4
    go_enter Tryd.func8, Tryd.ntmps8
    go_wp2_with (first | (go_at_call 9; refine (alive_any _ hl).mono ?_; rintro e w1 ⟨rfl, hg1⟩) | (with_reducible refine hold_not ?_))
    refine hold_gen (fun W => (∀ t, t < 23 → W.cell? ⟨w1.heap.size, t, none⟩ = some (.string ⟨(Lex.sg t).toArray⟩)) ∧ w1.grownBy W none) ⟨fun t ht => row_strings w1 Lex.signsL 9 t ht, World.grownBy_alloc w1 _ none⟩ ?_
    rintro w2 ⟨hcells, hg2⟩
    obtain ⟨x, hx⟩ : ∃ x : ByteArray, x = ⟨(Lex.sg i).toArray⟩ := ⟨_, rfl⟩
    obtain ⟨y, hy⟩ : ∃ y : ByteArray, y = ⟨(Lex.sg j).toArray⟩ := ⟨_, rfl⟩
    have hS : w2.cell? ⟨w1.heap.size, i, none⟩ = some (.string x) ∧ w2.cell? ⟨w1.heap.size, j, none⟩ = some (.string y) ∧ LaidR w2 ∧ w2.grownBy w2 none :=
      ⟨by rw [hx]; exact hcells i (by omega), by rw [hy]; exact hcells j (by omega), (hl.on hg1 (by simp)).on hg2 (by simp), World.grownBy.refl _ _⟩
    have hxl : x.data.toList = Lex.sg i := by rw [hx]
    have hyl : y.data.toList = Lex.sg j := by rw [hy]
    have hxs : 1 ≤ x.size ∧ x.size ≤ 2 := by
      have : x.data.toList.length = x.size := by simp
      rw [hxl] at this
      omega
    have hys : 1 ≤ y.size ∧ y.size ≤ 2 := by
      have : y.data.toList.length = y.size := by simp
      rw [hyl] at this
      omega
    have HC := Lib.hid hcells
    have HX := Lib.hid hxl
    have HY := Lib.hid hyl
    have HS := Lib.hid hS2
    clear hcells hxl hyl hS2 hx hy hS3
    obtain ⟨x1, x2⟩ := hxs
    obtain ⟨y1, y2⟩ := hys
    have p1 := fun wx => run_string_add_sum (P := Tryd.prog) wx x ⟨#[32]⟩ (by show x.size + 1 ≤ _; omega)
    have p2 := fun wx => run_string_add_sum (P := Tryd.prog) wx (x ++ ⟨#[32]⟩) y (by rw [ByteArray.size_append]; show x.size + 1 + y.size ≤ _; omega)
    have p3 := fun wx => run_string_add_sum (P := Tryd.prog) wx x y (by omega)
    go_wp2
    go_region_held3 (fun W => W.cell? ⟨w1.heap.size, i, none⟩ = some (.string x) ∧ W.cell? ⟨w1.heap.size, j, none⟩ = some (.string y) ∧ LaidR W ∧ w2.grownBy W none) (first | exact hS | exact sgDrew hS)
      (first | (go_at_call 10; refine (tokens_any _ _ (sgLaid (by assumption))).mono ?_; rintro e w3 ⟨v, p, er, rfl, hrel, hg3⟩; have hS := sgOn (by assumption) hg3))
    have e1 : (x ++ ⟨#[32]⟩ ++ y).data.toList = Lex.sg i ++ (32 :: Lex.sg j) := by
      rw [← HX.out, ← HY.out]; simp [ByteArray.data_append]
    rw [e1, HS.out.1] at hrel
    clear e1
    obtain ⟨rfl, rfl, hownA⟩ := hrel
    obtain ⟨gA, capA, rfl, hgA, hgAl, hcA⟩ := own_form hownA (by show 0 < 3; decide)
    go_wp2
    go_region_held3 (fun W => W.cell? ⟨w1.heap.size, i, none⟩ = some (.string x) ∧ W.cell? ⟨w1.heap.size, j, none⟩ = some (.string y) ∧ LaidR W ∧ w2.grownBy W none) (first | exact hS | exact sgDrew hS)
      (first | (go_at_call 10; refine (tokens_any _ _ (sgLaid (by assumption))).mono ?_; rintro e w4 ⟨v2, p2, er2, rfl, hrel2, hg4⟩; have hS := sgOn (by assumption) hg4))
    have e2 : (x ++ y).data.toList = Lex.both i j := by
      unfold Lex.both; rw [← HX.out, ← HY.out]; simp [ByteArray.data_append]
    rw [e2] at hrel2
    clear e2
    have hgl := HS.out.2.1
    cases hms : Lex.tokens (Lex.both i j) with
    | err a e => rw [hms] at hgl; cases hgl
    | ok ms =>
      rw [hms] at hrel2 hgl
      clear hms
      obtain ⟨rfl, rfl, hownB⟩ := hrel2
      have hg4' : w3.grownBy w4 none := ⟨hg4.os, hg4.tape, hg4.output, hg4.size, hg4.block⟩
      have hownA4 := hownA.kept hg4' (.inr (by simp [Value.ownBlock]))
      have a0 : w4.cell? ⟨gA, 0, none⟩ = some (.int .i64 4) := hownA4.cellAt 0 (by show 0 < 3 * 6; decide)
      have a1 : w4.cell? ⟨gA, 1, none⟩ = some (.string x) := (hownA4.cellAt 1 (by show 1 < 3 * 6; decide)).trans (congrArg (fun z => some (Value.string z)) (show (⟨(Lex.sg i).toArray⟩ : ByteArray) = x by rw [← HX.out]))
      have a7 : w4.cell? ⟨gA, 7, none⟩ = some (.string y) := (hownA4.cellAt 7 (by show 7 < 3 * 6; decide)).trans (congrArg (fun z => some (Value.string z)) (show (⟨(Lex.sg j).toArray⟩ : ByteArray) = y by rw [← HY.out]))
      have hcA3 : (3 : Nat) ≤ capA := hcA
      have hG : w.grownBy w4 none := (hg1.trans hg2).trans hS.2.2.2
      have hc4 : ∀ t, t < 23 → w4.cell? ⟨w1.heap.size, t, none⟩ = some (.string ⟨(Lex.sg t).toArray⟩) := fun t ht => hS.2.2.2.cell (HC.out t ht) (by simp)
      have HC4 := Lib.hid hc4
      obtain ⟨s1, s2, -, -⟩ := hS
      clear hownA hownA4 hcA hc4 HC hg4 hg4' hg1 hg2
      go_wp2
      go_quiet (exact Calls.quiet_of_same (num_any _ _))
      have hboth : (Lex.both i j).length = x.size + y.size := by
        unfold Lex.both; rw [List.length_append, ← HX.out, ← HY.out]; simp
      have hsgi : (Lex.sg i).length = x.size := by rw [← HX.out]; simp
      have hhit := Lex.hit_spec (Lex.both i j)
      have hb2 : ∀ t : Nat, (((x ++ y).extract 0 2).toList == (⟨(Lex.sg t).toArray⟩ : ByteArray).toList) = ((Lex.both i j).take 2 == Lex.sg t) := by
        intro t
        have e1 : ((x ++ y).extract 0 2).toList = (Lex.both i j).take 2 := by
          rw [ByteArray.toList_eq]
          have := ext_list (x ++ y) 0 2
          rw [Nat.zero_add, List.drop_zero] at this
          rw [this]
          congr 1
          unfold Lex.both; rw [← HX.out, ← HY.out]; simp [ByteArray.data_append]
        rw [e1, ByteArray.toList_eq]
      have hsl2 := fun wx => slc_to (x ++ y) 2 (by rw [ByteArray.size_append]; omega) wx
      unfold Lex.glued at hgl
      dsimp only at hgl
      rw [hsgi, hboth] at hgl
      have HB2 := Lib.hid hb2
      have HH := Lib.hid hhit
      have HGL := Lib.hid hgl
      clear hb2 hhit hgl hboth
      by_cases hx1 : x.size = 1
      · have hKs := HH.out
        obtain ⟨K, hKd⟩ : ∃ K, K = Lex.hit (Lex.both i j) := ⟨_, rfl⟩
        rw [← hKd] at hKs
        have HK : Hid _ := hKs
        clear hKs HH
        have hgl := HGL.out
        rw [← hKd, hx1] at hgl
        clear HGL hKd
        have hK7 : K ≤ 7 := HK.out.1
        by_cases hK : K < 7
        · rw [if_pos (by simp [hK])] at hgl
          rw [Bool.and_eq_true] at hgl
          have hml := beq_iff_eq.1 hgl.1
          have hmt := beq_iff_eq.1 hgl.2
          clear hgl
          obtain ⟨h, tl, rfl⟩ : ∃ h tl, ms = h :: tl := by
            cases ms with
            | nil => simp at hmt
            | cons h tl => exact ⟨h, tl, rfl⟩
          have hht : h.text = Lex.sg K := by simpa using hmt
          rw [hml] at hownB
          rcases (show y.size = 1 ∨ y.size = 2 by omega) with hy1 | hy1
          · rw [hy1] at hownB
            clear hml y1 y2
            obtain ⟨gB, capB, rfl, hgB, hgBl, hcB⟩ := own_form hownB (by omega)
            have b1 : w4.cell? ⟨gB, 1, none⟩ = some (.string ⟨(Lex.sg K).toArray⟩) := by
              rw [hownB.cellAt 1 (by omega), Lex.row_cons, List.getElem?_append_left (by show 1 < 6; decide)]
              show some (Value.string ⟨h.text.toArray⟩) = _
              rw [hht]
            clear hownB hmt hht
            go_wp2
            go_loopw [13, 14] (fun kk bb wr => ∃ t n : Nat, t ≤ K ∧ kk = .int .i64 (t : Int) ∧ wr = w4.drewN n) (fun kk _ _ => 7 - (intOf kk).toNat)
            case atStart => exact ⟨0, _, Nat.zero_le _, rfl, rfl⟩
            case round =>
              obtain ⟨t, n, ht, rfl, rfl⟩ := hrel
              have ct := HC4.out t (by omega)
              have hcmp := HB2.out t
              by_cases htK : t < K
              · rw [HK.out.2.1 t htK] at hcmp
                have ht7 : (t : Int) < 7 := by omega
                generalize (⟨(Lex.sg t).toArray⟩ : ByteArray) = zt at ct hcmp
                go_wp2
                go_quiet (fail)
                go_wp2
                go_quiet (fail)
                go_wp2
                exact ⟨⟨t + 1, _, by omega, by go_num, rfl⟩, by simp [intOf]; omega⟩
              · have htK2 : t = K := by omega
                subst htK2
                rw [HK.out.2.2 hK] at hcmp
                have ht7 : (t : Int) < 7 := by omega
                generalize (⟨(Lex.sg t).toArray⟩ : ByteArray) = zt at ct hcmp b1
                go_wp2
                go_quiet (fail)
                go_wp2
                go_quiet (fail)
                go_wp2
                go_quiet (fail)
                go_wp2
                go_ret
                exact ⟨rfl, by repeat (first | exact hG | refine gdrewN ?_ _)⟩
          · rw [hy1] at hownB
            clear hml y1 y2
            obtain ⟨gB, capB, rfl, hgB, hgBl, hcB⟩ := own_form hownB (by omega)
            have b1 : w4.cell? ⟨gB, 1, none⟩ = some (.string ⟨(Lex.sg K).toArray⟩) := by
              rw [hownB.cellAt 1 (by omega), Lex.row_cons, List.getElem?_append_left (by show 1 < 6; decide)]
              show some (Value.string ⟨h.text.toArray⟩) = _
              rw [hht]
            clear hownB hmt hht
            go_wp2
            go_loopw [13, 14] (fun kk bb wr => ∃ t n : Nat, t ≤ K ∧ kk = .int .i64 (t : Int) ∧ wr = w4.drewN n) (fun kk _ _ => 7 - (intOf kk).toNat)
            case atStart => exact ⟨0, _, Nat.zero_le _, rfl, rfl⟩
            case round =>
              obtain ⟨t, n, ht, rfl, rfl⟩ := hrel
              have ct := HC4.out t (by omega)
              have hcmp := HB2.out t
              by_cases htK : t < K
              · rw [HK.out.2.1 t htK] at hcmp
                have ht7 : (t : Int) < 7 := by omega
                generalize (⟨(Lex.sg t).toArray⟩ : ByteArray) = zt at ct hcmp
                go_wp2
                go_quiet (fail)
                go_wp2
                go_quiet (fail)
                go_wp2
                exact ⟨⟨t + 1, _, by omega, by go_num, rfl⟩, by simp [intOf]; omega⟩
              · have htK2 : t = K := by omega
                subst htK2
                rw [HK.out.2.2 hK] at hcmp
                have ht7 : (t : Int) < 7 := by omega
                generalize (⟨(Lex.sg t).toArray⟩ : ByteArray) = zt at ct hcmp b1
                go_wp2
                go_quiet (fail)
                go_wp2
                go_quiet (fail)
                go_wp2
                go_quiet (fail)
                go_wp2
                go_ret
                exact ⟨rfl, by repeat (first | exact hG | refine gdrewN ?_ _)⟩
        · have hK8 : K = 7 := by omega
          subst hK8
          rw [if_neg (by simp)] at hgl
          have hms := beq_iff_eq.1 hgl
          rw [hms] at hownB
          clear hgl hms
          obtain ⟨gB, capB, rfl, hgB, hgBl, hcB⟩ := own_form hownB (by show 0 < 3; decide)
          have b1 : w4.cell? ⟨gB, 1, none⟩ = some (.string x) := (hownB.cellAt 1 (by show 1 < 3 * 6; decide)).trans (congrArg (fun z => some (Value.string z)) (show (⟨(Lex.sg i).toArray⟩ : ByteArray) = x by rw [← HX.out]))
          have b7 : w4.cell? ⟨gB, 7, none⟩ = some (.string y) := (hownB.cellAt 7 (by show 7 < 3 * 6; decide)).trans (congrArg (fun z => some (Value.string z)) (show (⟨(Lex.sg j).toArray⟩ : ByteArray) = y by rw [← HY.out]))
          have b11 : w4.cell? ⟨gB, 11, none⟩ = some (.int .i64 1) := hownB.cellAt 11 (by show 11 < 3 * 6; decide)
          have hcB3 : (3 : Nat) ≤ capB := hcB
          clear hownB hcB
          go_wp2
          go_loopw [13, 14] (fun kk bb wr => ∃ t n : Nat, t ≤ 7 ∧ kk = .int .i64 (t : Int) ∧ wr = w4.drewN n) (fun kk _ _ => 7 - (intOf kk).toNat)
          case atStart => exact ⟨0, _, Nat.zero_le _, rfl, rfl⟩
          case round =>
            obtain ⟨t, n, ht, rfl, rfl⟩ := hrel
            by_cases htK : t < 7
            · have ct := HC4.out t (by omega)
              have hcmp := HB2.out t
              rw [HK.out.2.1 t htK] at hcmp
              have ht7 : (t : Int) < 7 := by omega
              generalize (⟨(Lex.sg t).toArray⟩ : ByteArray) = zt at ct hcmp
              go_wp2
              go_quiet (fail)
              go_wp2
              go_quiet (fail)
              go_wp2
              exact ⟨⟨t + 1, _, by omega, by go_num, rfl⟩, by simp [intOf]; omega⟩
            · have ht7 : t = 7 := by omega
              subst ht7
              go_wp2
              go_quiet (fail)
              go_wp2
              go_ret
              exact ⟨rfl, by repeat (first | exact hG | refine gdrewN ?_ _)⟩
      · have hx2 : x.size = 2 := by omega
        have hgl := HGL.out
        rw [if_neg (by rw [hx2]; simp)] at hgl
        have hms := beq_iff_eq.1 hgl
        rw [hms] at hownB
        clear hgl hms HGL
        obtain ⟨gB, capB, rfl, hgB, hgBl, hcB⟩ := own_form hownB (by show 0 < 3; decide)
        have b1 : w4.cell? ⟨gB, 1, none⟩ = some (.string x) := (hownB.cellAt 1 (by show 1 < 3 * 6; decide)).trans (congrArg (fun z => some (Value.string z)) (show (⟨(Lex.sg i).toArray⟩ : ByteArray) = x by rw [← HX.out]))
        have b7 : w4.cell? ⟨gB, 7, none⟩ = some (.string y) := (hownB.cellAt 7 (by show 7 < 3 * 6; decide)).trans (congrArg (fun z => some (Value.string z)) (show (⟨(Lex.sg j).toArray⟩ : ByteArray) = y by rw [← HY.out]))
        have b11 : w4.cell? ⟨gB, 11, none⟩ = some (.int .i64 2) := (hownB.cellAt 11 (by show 11 < 3 * 6; decide)).trans (congrArg (fun z : Nat => some (Value.int .i64 (z : Int))) (show x.size = 2 from hx2))
        have hcB3 : (3 : Nat) ≤ capB := hcB
        clear hownB hcB hx1 hsgi x1 x2
        go_wp2
        go_quiet (fail)
        go_wp2
        go_ret
        exact ⟨rfl, gdrewN (gdrewN hG _) _⟩
  · go_enter Tryd.func8, Tryd.ntmps8
    go_wp2_with (first | (go_at_call 9; refine (alive_any _ hl).mono ?_; rintro e w1 ⟨rfl, hg1⟩) | (with_reducible refine hold_not ?_))
    refine hold_gen (fun W => w1.grownBy W none) (World.grownBy_alloc w1 _ none) ?_
    intro w2 hg2
    go_wp2
    all_goals first | (exfalso; omega) | (go_ret; exact ⟨rfl, hg1.trans hg2⟩)

end Go.Proofs.YtkcgnelebaajlaaDoor
