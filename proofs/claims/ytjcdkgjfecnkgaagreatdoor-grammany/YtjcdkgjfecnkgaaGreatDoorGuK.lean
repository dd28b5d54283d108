/- GramMany's walk (written by mkmany.py). -/
import Derived.Test.YtjcdkgjfecnkgaaGreatDoorMgK
import Derived.Test.YtjcdkgjfecnkgaaGreatDoorGuG
namespace Go.Proofs.YtjcdkgjfecnkgaaGreatDoor
open Go.RowKit Go.Maps Go.WideMaps

set_option maxHeartbeats 1600000 in
theorem gm_out (which n : Int) (w : World) (hl : LaidG w) (hn : which < 0 ∨ 4 < which ∨ n < 1 ∨ 210 < n) : Calls Tryz.prog 7 #[.int .i64 which, .int .i64 n] w fun e w' => e = .returned (.bool true) ∧ w.grownBy w' none := by
  have hal := alive_any w hl
  go_enter Tryz.func7, Tryz.ntmps7
  go_wp2_with (go_at_call 9; refine hal.mono ?_; rintro e w1 ⟨rfl, hg1⟩; refine Hid.out ?_)
  have hl1 := hl.on hg1
  clear hal
  have HG := Lib.hid hg1
  clear hg1
  refine Lib.hid ?_
  go_wp2
  all_goals (go_ret; exact ⟨rfl, HG.out⟩)

/-- a, a, .., a -/
def commaT : Nat → List UInt8
  | 0 => []
  | m + 1 => 97 :: (List.replicate m [44, 32, 97]).flatten
theorem commaT_step (m : Nat) : commaT (m + 1 + 1) = commaT (m + 1) ++ [44, 32] ++ [97] := by
  simp only [commaT]
  rw [List.replicate_succ', List.flatten_append]
  simp
theorem commaT_len (m : Nat) : (commaT m).length ≤ 3 * m := by
  cases m with
  | zero => simp [commaT]
  | succ m => simp [commaT, List.length_flatten]; omega
theorem rep_step (u : List UInt8) (t : Nat) : (List.replicate (t + 1) u).flatten = (List.replicate t u).flatten ++ u := by rw [List.replicate_succ', List.flatten_append]; simp
theorem cat_list (A : ByteArray) (l : List UInt8) : (A ++ ⟨l.toArray⟩).data.toList = A.data.toList ++ l := by simp
theorem commaT_pos {n : Nat} (h : 1 ≤ n) : commaT n = 97 :: (List.replicate (n - 1) [44, 32, 97]).flatten := by
  obtain ⟨m, rfl⟩ : ∃ m, n = m + 1 := ⟨n - 1, by omega⟩
  rfl

set_option maxHeartbeats 3200000 in
theorem gm_0 (n : Nat) (w : World) (hl : LaidG w) (h0 : 1 ≤ n) (hn : n ≤ 210) : Calls Tryz.prog 7 #[.int .i64 0, .int .i64 (n : Int)] w fun e w' => e = .returned (.bool true) ∧ w.grownBy w' none := by
  have hM : (n ≤ 60 → Gram.isOk (Gram.parse (Gram.T0 n))) ∧ (60 < n → Gram.isLong (Gram.parse (Gram.T0 n))) := ⟨fun h => (Gram.many0 n hn).1 (by omega), fun h => (Gram.many0 n hn).2 (by omega)⟩
  have d1 : decide ((n : Int) < 1) = false := by rw [decide_eq_false_iff_not]; omega
  have d2 : decide ((210 : Int) < n) = false := by rw [decide_eq_false_iff_not]; omega

  have hal := alive_any w hl
  go_enter Tryz.func7, Tryz.ntmps7
  go_wp2_with (go_at_call 9; refine hal.mono ?_; rintro e w1 ⟨rfl, hg1⟩; refine Hid.out ?_)
  have hl1 := hl.on hg1
  clear hal
  have HG := Lib.hid hg1
  clear hg1
  refine Lib.hid ?_
  go_wp2
  go_loop [7, 8] (fun sv iv => ∃ (t : Nat) (A : ByteArray), t ≤ n ∧ iv = .int .i64 (t : Int) ∧ sv = .string A ∧ Hid (A.data.toList = (List.replicate t [110, 111, 100, 101, 32, 102, 40, 41, 32, 114, 101, 116, 117, 114, 110, 115, 32, 40, 122, 58, 32, 105, 56, 41, 32, 108, 101, 116, 32, 122, 32, 61, 32, 97, 59, 32, 116, 101, 108, 32]).flatten)) (fun _ i => n - (intOf i).toNat)
  case atStart => exact ⟨0, ⟨#[]⟩, Nat.zero_le _, rfl, rfl, Lib.hid (by rw [List.replicate_zero]; rfl)⟩
  case round =>
    obtain ⟨t, A, ht, rfl, rfl, HA⟩ := hrel
    have hA : A.size ≤ 9000 := by
      have e1 : A.data.toList.length = A.size := by simp
      rw [HA.out] at e1
      simp [List.length_flatten] at e1
      omega
    by_cases hlt : t < n

    · have HA2 : Hid ((A ++ ⟨#[110, 111, 100, 101, 32, 102, 40, 41, 32, 114, 101, 116, 117, 114, 110, 115, 32, 40, 122, 58, 32, 105, 56, 41, 32, 108, 101, 116, 32, 122, 32, 61, 32, 97, 59, 32, 116, 101, 108, 32]⟩).data.toList = (List.replicate (t + 1) [110, 111, 100, 101, 32, 102, 40, 41, 32, 114, 101, 116, 117, 114, 110, 115, 32, 40, 122, 58, 32, 105, 56, 41, 32, 108, 101, 116, 32, 122, 32, 61, 32, 97, 59, 32, 116, 101, 108, 32]).flatten) := Lib.hid (by rw [cat_list A [110, 111, 100, 101, 32, 102, 40, 41, 32, 114, 101, 116, 117, 114, 110, 115, 32, 40, 122, 58, 32, 105, 56, 41, 32, 108, 101, 116, 32, 122, 32, 61, 32, 97, 59, 32, 116, 101, 108, 32], HA.out, rep_step])
      go_wp2
      exact ⟨⟨t + 1, _, by omega, by go_num, rfl, HA2⟩, by simp [intOf]; omega⟩
    · have e : t = n := by omega
      subst e
      have hT : A.data.toList = Gram.T0 t := HA.out
      rw [← hT] at hM
      have HM := Lib.hid hM
      clear hM hT
      rcases Nat.lt_or_ge 60 t with hm | hm
      · obtain ⟨a, ha⟩ := HM.out.2 hm
        have d3 : decide ((60 : Int) < t) = true := by rw [decide_eq_true_iff]; omega
        go_wp2_with (go_at_call 10; refine (gparse_bad ha _ (hl1.on (World.grownBy_alloc w1 _ none))).mono ?_; rintro e w2 ⟨rfl, hg2⟩; refine Hid.out ?_)
        have HG2 := Lib.hid ((World.grownBy_alloc w1 _ none).trans hg2)
        clear hg2
        refine Lib.hid ?_
        go_wp2_with (go_at_call 13; refine (num_any _ _).mono ?_; rintro e w' ⟨rfl, rfl⟩)
        go_ret
        exact ⟨rfl, galloc (HG.out.trans HG2.out) _⟩
      · obtain ⟨l, ha⟩ := HM.out.1 hm
        have d3 : decide ((60 : Int) < t) = false := by rw [decide_eq_false_iff_not]; omega
        go_wp2_with (go_at_call 10; refine (gparse_ok ha _ (hl1.on (World.grownBy_alloc w1 _ none))).mono ?_; rintro e w2 ⟨v, rfl, hk, hg2⟩; obtain ⟨va, vn, vc, rfl⟩ := hk.form; refine Hid.out ?_)
        have HG2 := Lib.hid ((World.grownBy_alloc w1 _ none).trans hg2)
        clear hg2 hk
        refine Lib.hid ?_
        go_wp2_with (go_at_call 13; refine (num_any _ _).mono ?_; rintro e w' ⟨rfl, rfl⟩)
        go_ret
        exact ⟨rfl, galloc (HG.out.trans HG2.out) _⟩

set_option maxHeartbeats 3200000 in
theorem gm_1 (n : Nat) (w : World) (hl : LaidG w) (h0 : 1 ≤ n) (hn : n ≤ 210) : Calls Tryz.prog 7 #[.int .i64 1, .int .i64 (n : Int)] w fun e w' => e = .returned (.bool true) ∧ w.grownBy w' none := by
  have hM : (n ≤ 200 → Gram.isOk (Gram.parse (Gram.T1 (n - 1)))) ∧ (200 < n → Gram.isLong (Gram.parse (Gram.T1 (n - 1)))) := ⟨fun h => (Gram.many1 (n - 1) (by omega)).1 (by omega), fun h => (Gram.many1 (n - 1) (by omega)).2 (by omega)⟩
  have d1 : decide ((n : Int) < 1) = false := by rw [decide_eq_false_iff_not]; omega
  have d2 : decide ((210 : Int) < n) = false := by rw [decide_eq_false_iff_not]; omega

  have hal := alive_any w hl
  go_enter Tryz.func7, Tryz.ntmps7
  go_wp2_with (go_at_call 9; refine hal.mono ?_; rintro e w1 ⟨rfl, hg1⟩; refine Hid.out ?_)
  have hl1 := hl.on hg1
  clear hal
  have HG := Lib.hid hg1
  clear hg1
  refine Lib.hid ?_
  go_wp2
  go_loop [7, 9] (fun sv iv => ∃ (t : Nat) (A : ByteArray), t ≤ n ∧ iv = .int .i64 (t : Int) ∧ sv = .string A ∧ Hid (A.data.toList = [110, 111, 100, 101, 32, 102, 40] ++ commaT t)) (fun _ i => n - (intOf i).toNat)
  case atStart => exact ⟨0, ⟨#[110, 111, 100, 101, 32, 102, 40]⟩, Nat.zero_le _, rfl, rfl, Lib.hid (by simp [commaT])⟩
  case round =>
    obtain ⟨t, A, ht, rfl, rfl, HA⟩ := hrel
    have hA : A.size ≤ 9000 := by
      have e1 : A.data.toList.length = A.size := by simp
      rw [HA.out] at e1
      have e2 := commaT_len t
      simp only [List.length_append, List.length_cons, List.length_nil] at e1
      omega
    by_cases hlt : t < n

    · by_cases hz : t = 0
      · subst hz
        have HA2 : Hid ((A ++ ⟨#[97]⟩).data.toList = [110, 111, 100, 101, 32, 102, 40] ++ commaT (0 + 1)) := Lib.hid (by rw [cat_list A [97], HA.out]; simp [commaT])
        go_wp2
        exact ⟨⟨0 + 1, _, by omega, by go_num, rfl, HA2⟩, by simp [intOf]; omega⟩
      · obtain ⟨m, rfl⟩ : ∃ m, t = m + 1 := ⟨t - 1, by omega⟩
        have HA2 : Hid ((A ++ ⟨#[44, 32]⟩ ++ ⟨#[97]⟩).data.toList = [110, 111, 100, 101, 32, 102, 40] ++ commaT (m + 1 + 1)) := Lib.hid (by rw [cat_list (A ++ ⟨#[44, 32]⟩) [97], cat_list A [44, 32], HA.out, commaT_step]; simp)
        have hA3 : (A ++ ⟨#[44, 32]⟩).size ≤ 9002 := by rw [ByteArray.size_append]; show A.size + 2 ≤ 9002; omega
        go_wp2
        exact ⟨⟨m + 1 + 1, _, by omega, by go_num, rfl, HA2⟩, by simp [intOf]; omega⟩
    · have e : t = n := by omega
      subst e
      have hT : (A ++ ⟨#[58, 32, 105, 56, 41, 32, 114, 101, 116, 117, 114, 110, 115, 32, 40, 122, 58, 32, 105, 56, 41, 32, 108, 101, 116, 32, 122, 32, 61, 32, 97, 59, 32, 116, 101, 108]⟩).data.toList = Gram.T1 (t - 1) := (by rw [cat_list A [58, 32, 105, 56, 41, 32, 114, 101, 116, 117, 114, 110, 115, 32, 40, 122, 58, 32, 105, 56, 41, 32, 108, 101, 116, 32, 122, 32, 61, 32, 97, 59, 32, 116, 101, 108], HA.out]; rw [commaT_pos h0]; simp [Gram.T1])
      rw [← hT] at hM
      have HM := Lib.hid hM
      clear hM hT
      rcases Nat.lt_or_ge 200 t with hm | hm
      · obtain ⟨a, ha⟩ := HM.out.2 hm
        have d3 : decide ((200 : Int) < t) = true := by rw [decide_eq_true_iff]; omega
        go_wp2_with (go_at_call 10; refine (gparse_bad ha _ (hl1.on (World.grownBy_alloc w1 _ none))).mono ?_; rintro e w2 ⟨rfl, hg2⟩; refine Hid.out ?_)
        have HG2 := Lib.hid ((World.grownBy_alloc w1 _ none).trans hg2)
        clear hg2
        refine Lib.hid ?_
        go_wp2_with (go_at_call 13; refine (num_any _ _).mono ?_; rintro e w' ⟨rfl, rfl⟩)
        go_ret
        exact ⟨rfl, galloc (HG.out.trans HG2.out) _⟩
      · obtain ⟨l, ha⟩ := HM.out.1 hm
        have d3 : decide ((200 : Int) < t) = false := by rw [decide_eq_false_iff_not]; omega
        go_wp2_with (go_at_call 10; refine (gparse_ok ha _ (hl1.on (World.grownBy_alloc w1 _ none))).mono ?_; rintro e w2 ⟨v, rfl, hk, hg2⟩; obtain ⟨va, vn, vc, rfl⟩ := hk.form; refine Hid.out ?_)
        have HG2 := Lib.hid ((World.grownBy_alloc w1 _ none).trans hg2)
        clear hg2 hk
        refine Lib.hid ?_
        go_wp2_with (go_at_call 13; refine (num_any _ _).mono ?_; rintro e w' ⟨rfl, rfl⟩)
        go_ret
        exact ⟨rfl, galloc (HG.out.trans HG2.out) _⟩

set_option maxHeartbeats 3200000 in
theorem gm_2 (n : Nat) (w : World) (hl : LaidG w) (h0 : 1 ≤ n) (hn : n ≤ 210) : Calls Tryz.prog 7 #[.int .i64 2, .int .i64 (n : Int)] w fun e w' => e = .returned (.bool true) ∧ w.grownBy w' none := by
  have hM : (n ≤ 200 → Gram.isOk (Gram.parse (Gram.T2 n))) ∧ (200 < n → Gram.isLong (Gram.parse (Gram.T2 n))) := ⟨fun h => (Gram.many2 n h0 hn).1 (by omega), fun h => (Gram.many2 n h0 hn).2 (by omega)⟩
  have d1 : decide ((n : Int) < 1) = false := by rw [decide_eq_false_iff_not]; omega
  have d2 : decide ((210 : Int) < n) = false := by rw [decide_eq_false_iff_not]; omega

  have hal := alive_any w hl
  go_enter Tryz.func7, Tryz.ntmps7
  go_wp2_with (go_at_call 9; refine hal.mono ?_; rintro e w1 ⟨rfl, hg1⟩; refine Hid.out ?_)
  have hl1 := hl.on hg1
  clear hal
  have HG := Lib.hid hg1
  clear hg1
  refine Lib.hid ?_
  go_wp2
  go_loop [7, 10] (fun sv iv => ∃ (t : Nat) (A : ByteArray), t ≤ n ∧ iv = .int .i64 (t : Int) ∧ sv = .string A ∧ Hid (A.data.toList = [110, 111, 100, 101, 32, 102, 40, 41, 32, 114, 101, 116, 117, 114, 110, 115, 32, 40, 122, 58, 32, 105, 56, 41, 32, 108, 101, 116, 32] ++ (List.replicate t [122, 32, 61, 32, 97, 59, 32]).flatten)) (fun _ i => n - (intOf i).toNat)
  case atStart => exact ⟨0, ⟨#[110, 111, 100, 101, 32, 102, 40, 41, 32, 114, 101, 116, 117, 114, 110, 115, 32, 40, 122, 58, 32, 105, 56, 41, 32, 108, 101, 116, 32]⟩, Nat.zero_le _, rfl, rfl, Lib.hid (by simp)⟩
  case round =>
    obtain ⟨t, A, ht, rfl, rfl, HA⟩ := hrel
    have hA : A.size ≤ 9000 := by
      have e1 : A.data.toList.length = A.size := by simp
      rw [HA.out] at e1
      simp [List.length_flatten] at e1
      omega
    by_cases hlt : t < n

    · have HA2 : Hid ((A ++ ⟨#[122, 32, 61, 32, 97, 59, 32]⟩).data.toList = [110, 111, 100, 101, 32, 102, 40, 41, 32, 114, 101, 116, 117, 114, 110, 115, 32, 40, 122, 58, 32, 105, 56, 41, 32, 108, 101, 116, 32] ++ (List.replicate (t + 1) [122, 32, 61, 32, 97, 59, 32]).flatten) := Lib.hid (by rw [cat_list A [122, 32, 61, 32, 97, 59, 32], HA.out, rep_step]; simp)
      go_wp2
      exact ⟨⟨t + 1, _, by omega, by go_num, rfl, HA2⟩, by simp [intOf]; omega⟩
    · have e : t = n := by omega
      subst e
      have hT : (A ++ ⟨#[116, 101, 108]⟩).data.toList = Gram.T2 t := (by rw [cat_list A [116, 101, 108], HA.out]; simp [Gram.T2])
      rw [← hT] at hM
      have HM := Lib.hid hM
      clear hM hT
      rcases Nat.lt_or_ge 200 t with hm | hm
      · obtain ⟨a, ha⟩ := HM.out.2 hm
        have d3 : decide ((200 : Int) < t) = true := by rw [decide_eq_true_iff]; omega
        go_wp2_with (go_at_call 10; refine (gparse_bad ha _ (hl1.on (World.grownBy_alloc w1 _ none))).mono ?_; rintro e w2 ⟨rfl, hg2⟩; refine Hid.out ?_)
        have HG2 := Lib.hid ((World.grownBy_alloc w1 _ none).trans hg2)
        clear hg2
        refine Lib.hid ?_
        go_wp2_with (go_at_call 13; refine (num_any _ _).mono ?_; rintro e w' ⟨rfl, rfl⟩)
        go_ret
        exact ⟨rfl, galloc (HG.out.trans HG2.out) _⟩
      · obtain ⟨l, ha⟩ := HM.out.1 hm
        have d3 : decide ((200 : Int) < t) = false := by rw [decide_eq_false_iff_not]; omega
        go_wp2_with (go_at_call 10; refine (gparse_ok ha _ (hl1.on (World.grownBy_alloc w1 _ none))).mono ?_; rintro e w2 ⟨v, rfl, hk, hg2⟩; obtain ⟨va, vn, vc, rfl⟩ := hk.form; refine Hid.out ?_)
        have HG2 := Lib.hid ((World.grownBy_alloc w1 _ none).trans hg2)
        clear hg2 hk
        refine Lib.hid ?_
        go_wp2_with (go_at_call 13; refine (num_any _ _).mono ?_; rintro e w' ⟨rfl, rfl⟩)
        go_ret
        exact ⟨rfl, galloc (HG.out.trans HG2.out) _⟩

set_option maxHeartbeats 3200000 in
theorem gm_3 (n : Nat) (w : World) (hl : LaidG w) (h0 : 1 ≤ n) (hn : n ≤ 210) : Calls Tryz.prog 7 #[.int .i64 3, .int .i64 (n : Int)] w fun e w' => e = .returned (.bool true) ∧ w.grownBy w' none := by
  have hM : (n ≤ 16 → Gram.isOk (Gram.parse (Gram.T3 n))) ∧ (16 < n → Gram.isLong (Gram.parse (Gram.T3 n))) := ⟨fun h => (Gram.many3 n h0 hn).1 (by omega), fun h => (Gram.many3 n h0 hn).2 (by omega)⟩
  have d1 : decide ((n : Int) < 1) = false := by rw [decide_eq_false_iff_not]; omega
  have d2 : decide ((210 : Int) < n) = false := by rw [decide_eq_false_iff_not]; omega

  have hal := alive_any w hl
  go_enter Tryz.func7, Tryz.ntmps7
  go_wp2_with (go_at_call 9; refine hal.mono ?_; rintro e w1 ⟨rfl, hg1⟩; refine Hid.out ?_)
  have hl1 := hl.on hg1
  clear hal
  have HG := Lib.hid hg1
  clear hg1
  refine Lib.hid ?_
  go_wp2
  go_loop [7, 11] (fun sv iv => ∃ (t : Nat) (A : ByteArray), t ≤ n ∧ iv = .int .i64 (t : Int) ∧ sv = .string A ∧ Hid (A.data.toList = [110, 111, 100, 101, 32, 102, 40, 41, 32, 114, 101, 116, 117, 114, 110, 115, 32, 40, 122, 58, 32, 105, 56, 41, 32, 108, 101, 116, 32, 97, 117, 116, 111, 109, 97, 116, 111, 110, 32] ++ (List.replicate t [115, 116, 97, 116, 101, 32, 115, 32, 100, 111, 32, 122, 32, 61, 32, 97, 59, 32]).flatten)) (fun _ i => n - (intOf i).toNat)
  case atStart => exact ⟨0, ⟨#[110, 111, 100, 101, 32, 102, 40, 41, 32, 114, 101, 116, 117, 114, 110, 115, 32, 40, 122, 58, 32, 105, 56, 41, 32, 108, 101, 116, 32, 97, 117, 116, 111, 109, 97, 116, 111, 110, 32]⟩, Nat.zero_le _, rfl, rfl, Lib.hid (by simp)⟩
  case round =>
    obtain ⟨t, A, ht, rfl, rfl, HA⟩ := hrel
    have hA : A.size ≤ 9000 := by
      have e1 : A.data.toList.length = A.size := by simp
      rw [HA.out] at e1
      simp [List.length_flatten] at e1
      omega
    by_cases hlt : t < n

    · have HA2 : Hid ((A ++ ⟨#[115, 116, 97, 116, 101, 32, 115, 32, 100, 111, 32, 122, 32, 61, 32, 97, 59, 32]⟩).data.toList = [110, 111, 100, 101, 32, 102, 40, 41, 32, 114, 101, 116, 117, 114, 110, 115, 32, 40, 122, 58, 32, 105, 56, 41, 32, 108, 101, 116, 32, 97, 117, 116, 111, 109, 97, 116, 111, 110, 32] ++ (List.replicate (t + 1) [115, 116, 97, 116, 101, 32, 115, 32, 100, 111, 32, 122, 32, 61, 32, 97, 59, 32]).flatten) := Lib.hid (by rw [cat_list A [115, 116, 97, 116, 101, 32, 115, 32, 100, 111, 32, 122, 32, 61, 32, 97, 59, 32], HA.out, rep_step]; simp)
      go_wp2
      exact ⟨⟨t + 1, _, by omega, by go_num, rfl, HA2⟩, by simp [intOf]; omega⟩
    · have e : t = n := by omega
      subst e
      have hT : (A ++ ⟨#[101, 110, 100, 32, 116, 101, 108]⟩).data.toList = Gram.T3 t := (by rw [cat_list A [101, 110, 100, 32, 116, 101, 108], HA.out]; simp [Gram.T3])
      rw [← hT] at hM
      have HM := Lib.hid hM
      clear hM hT
      rcases Nat.lt_or_ge 16 t with hm | hm
      · obtain ⟨a, ha⟩ := HM.out.2 hm
        have d3 : decide ((16 : Int) < t) = true := by rw [decide_eq_true_iff]; omega
        go_wp2_with (go_at_call 10; refine (gparse_bad ha _ (hl1.on (World.grownBy_alloc w1 _ none))).mono ?_; rintro e w2 ⟨rfl, hg2⟩; refine Hid.out ?_)
        have HG2 := Lib.hid ((World.grownBy_alloc w1 _ none).trans hg2)
        clear hg2
        refine Lib.hid ?_
        go_wp2_with (go_at_call 13; refine (num_any _ _).mono ?_; rintro e w' ⟨rfl, rfl⟩)
        go_ret
        exact ⟨rfl, galloc (HG.out.trans HG2.out) _⟩
      · obtain ⟨l, ha⟩ := HM.out.1 hm
        have d3 : decide ((16 : Int) < t) = false := by rw [decide_eq_false_iff_not]; omega
        go_wp2_with (go_at_call 10; refine (gparse_ok ha _ (hl1.on (World.grownBy_alloc w1 _ none))).mono ?_; rintro e w2 ⟨v, rfl, hk, hg2⟩; obtain ⟨va, vn, vc, rfl⟩ := hk.form; refine Hid.out ?_)
        have HG2 := Lib.hid ((World.grownBy_alloc w1 _ none).trans hg2)
        clear hg2 hk
        refine Lib.hid ?_
        go_wp2_with (go_at_call 13; refine (num_any _ _).mono ?_; rintro e w' ⟨rfl, rfl⟩)
        go_ret
        exact ⟨rfl, galloc (HG.out.trans HG2.out) _⟩

set_option maxHeartbeats 3200000 in
theorem gm_4 (n : Nat) (w : World) (hl : LaidG w) (h0 : 1 ≤ n) (hn : n ≤ 210) : Calls Tryz.prog 7 #[.int .i64 4, .int .i64 (n : Int)] w fun e w' => e = .returned (.bool true) ∧ w.grownBy w' none := by
  have hM : (n ≤ 16 → Gram.isOk (Gram.parse (Gram.T4 (n - 1)))) ∧ (16 < n → Gram.isLong (Gram.parse (Gram.T4 (n - 1)))) := ⟨fun h => (Gram.many4 (n - 1) (by omega)).1 (by omega), fun h => (Gram.many4 (n - 1) (by omega)).2 (by omega)⟩
  have d1 : decide ((n : Int) < 1) = false := by rw [decide_eq_false_iff_not]; omega
  have d2 : decide ((210 : Int) < n) = false := by rw [decide_eq_false_iff_not]; omega

  have hal := alive_any w hl
  go_enter Tryz.func7, Tryz.ntmps7
  go_wp2_with (go_at_call 9; refine hal.mono ?_; rintro e w1 ⟨rfl, hg1⟩; refine Hid.out ?_)
  have hl1 := hl.on hg1
  clear hal
  have HG := Lib.hid hg1
  clear hg1
  refine Lib.hid ?_
  go_wp2
  go_loop [7, 12] (fun sv iv => ∃ (t : Nat) (A : ByteArray), t ≤ n ∧ iv = .int .i64 (t : Int) ∧ sv = .string A ∧ Hid (A.data.toList = [110, 111, 100, 101, 32, 102, 40, 41, 32, 114, 101, 116, 117, 114, 110, 115, 32, 40, 122, 58, 32, 105, 56, 41, 32, 108, 101, 116, 32, 122, 32, 61, 32, 103, 40] ++ commaT t)) (fun _ i => n - (intOf i).toNat)
  case atStart => exact ⟨0, ⟨#[110, 111, 100, 101, 32, 102, 40, 41, 32, 114, 101, 116, 117, 114, 110, 115, 32, 40, 122, 58, 32, 105, 56, 41, 32, 108, 101, 116, 32, 122, 32, 61, 32, 103, 40]⟩, Nat.zero_le _, rfl, rfl, Lib.hid (by simp [commaT])⟩
  case round =>
    obtain ⟨t, A, ht, rfl, rfl, HA⟩ := hrel
    have hA : A.size ≤ 9000 := by
      have e1 : A.data.toList.length = A.size := by simp
      rw [HA.out] at e1
      have e2 := commaT_len t
      simp only [List.length_append, List.length_cons, List.length_nil] at e1
      omega
    by_cases hlt : t < n

    · by_cases hz : t = 0
      · subst hz
        have HA2 : Hid ((A ++ ⟨#[97]⟩).data.toList = [110, 111, 100, 101, 32, 102, 40, 41, 32, 114, 101, 116, 117, 114, 110, 115, 32, 40, 122, 58, 32, 105, 56, 41, 32, 108, 101, 116, 32, 122, 32, 61, 32, 103, 40] ++ commaT (0 + 1)) := Lib.hid (by rw [cat_list A [97], HA.out]; simp [commaT])
        go_wp2
        exact ⟨⟨0 + 1, _, by omega, by go_num, rfl, HA2⟩, by simp [intOf]; omega⟩
      · obtain ⟨m, rfl⟩ : ∃ m, t = m + 1 := ⟨t - 1, by omega⟩
        have HA2 : Hid ((A ++ ⟨#[44, 32]⟩ ++ ⟨#[97]⟩).data.toList = [110, 111, 100, 101, 32, 102, 40, 41, 32, 114, 101, 116, 117, 114, 110, 115, 32, 40, 122, 58, 32, 105, 56, 41, 32, 108, 101, 116, 32, 122, 32, 61, 32, 103, 40] ++ commaT (m + 1 + 1)) := Lib.hid (by rw [cat_list (A ++ ⟨#[44, 32]⟩) [97], cat_list A [44, 32], HA.out, commaT_step]; simp)
        have hA3 : (A ++ ⟨#[44, 32]⟩).size ≤ 9002 := by rw [ByteArray.size_append]; show A.size + 2 ≤ 9002; omega
        go_wp2
        exact ⟨⟨m + 1 + 1, _, by omega, by go_num, rfl, HA2⟩, by simp [intOf]; omega⟩
    · have e : t = n := by omega
      subst e
      have hT : (A ++ ⟨#[41, 59, 32, 116, 101, 108]⟩).data.toList = Gram.T4 (t - 1) := (by rw [cat_list A [41, 59, 32, 116, 101, 108], HA.out]; rw [commaT_pos h0]; simp [Gram.T4])
      rw [← hT] at hM
      have HM := Lib.hid hM
      clear hM hT
      rcases Nat.lt_or_ge 16 t with hm | hm
      · obtain ⟨a, ha⟩ := HM.out.2 hm
        have d3 : decide ((16 : Int) < t) = true := by rw [decide_eq_true_iff]; omega
        go_wp2_with (go_at_call 10; refine (gparse_bad ha _ (hl1.on (World.grownBy_alloc w1 _ none))).mono ?_; rintro e w2 ⟨rfl, hg2⟩; refine Hid.out ?_)
        have HG2 := Lib.hid ((World.grownBy_alloc w1 _ none).trans hg2)
        clear hg2
        refine Lib.hid ?_
        go_wp2_with (go_at_call 13; refine (num_any _ _).mono ?_; rintro e w' ⟨rfl, rfl⟩)
        go_ret
        exact ⟨rfl, galloc (HG.out.trans HG2.out) _⟩
      · obtain ⟨l, ha⟩ := HM.out.1 hm
        have d3 : decide ((16 : Int) < t) = false := by rw [decide_eq_false_iff_not]; omega
        go_wp2_with (go_at_call 10; refine (gparse_ok ha _ (hl1.on (World.grownBy_alloc w1 _ none))).mono ?_; rintro e w2 ⟨v, rfl, hk, hg2⟩; obtain ⟨va, vn, vc, rfl⟩ := hk.form; refine Hid.out ?_)
        have HG2 := Lib.hid ((World.grownBy_alloc w1 _ none).trans hg2)
        clear hg2 hk
        refine Lib.hid ?_
        go_wp2_with (go_at_call 13; refine (num_any _ _).mono ?_; rintro e w' ⟨rfl, rfl⟩)
        go_ret
        exact ⟨rfl, galloc (HG.out.trans HG2.out) _⟩

theorem gramMany_walk (which n : Int) (w : World) (hl : LaidG w) : Calls Tryz.prog 7 #[.int .i64 which, .int .i64 n] w fun e w' => e = .returned (.bool true) ∧ w.grownBy w' none := by
  by_cases hn : which < 0 ∨ 4 < which ∨ n < 1 ∨ 210 < n
  · exact gm_out which n w hl hn
  · obtain ⟨m, rfl⟩ : ∃ m : Nat, n = (m : Int) := ⟨n.toNat, by omega⟩
    have hc : which = 0 ∨ which = 1 ∨ which = 2 ∨ which = 3 ∨ which = 4 := by omega
    rcases hc with rfl | rfl | rfl | rfl | rfl
    · exact gm_0 m w hl (by omega) (by omega)
    · exact gm_1 m w hl (by omega) (by omega)
    · exact gm_2 m w hl (by omega) (by omega)
    · exact gm_3 m w hl (by omega) (by omega)
    · exact gm_4 m w hl (by omega) (by omega)

end Go.Proofs.YtjcdkgjfecnkgaaGreatDoor
