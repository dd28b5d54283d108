/- GramDeep's walk (written by mkdeep.py). -/
import Derived.Test.YtjcdkgjfecnkgaaGreatDoorMgK
import Derived.Test.YtjcdkgjfecnkgaaGreatDoorGuL
namespace Go.Proofs.YtjcdkgjfecnkgaaGreatDoor
open Go.RowKit Go.Maps Go.WideMaps

set_option maxHeartbeats 1600000 in
theorem gd_out (n : Int) (au : Bool) (w : World) (hl : LaidG w) (hn : n < 1 ∨ 50 < n) : Calls Tryz.prog 6 #[.int .i64 n, .bool au] w fun e w' => e = .returned (.bool true) ∧ w.grownBy w' none := by
  have hal := alive_any w hl
  go_enter Tryz.func6, Tryz.ntmps6
  go_wp2_with (go_at_call 9; refine hal.mono ?_; rintro e w1 ⟨rfl, hg1⟩; refine Hid.out ?_)
  have hl1 := hl.on hg1
  clear hal
  have HG := Lib.hid hg1
  clear hg1
  refine Lib.hid ?_
  go_wp2
  all_goals (go_ret; exact ⟨rfl, HG.out⟩)

theorem catD (A B : ByteArray) : (A ++ B).data.toList = A.data.toList ++ B.data.toList := by simp
theorem sizeD (A : ByteArray) : A.data.toList.length = A.size := by simp
theorem rep_end (u : List UInt8) (t : Nat) : (List.replicate (t + 1) u).flatten = (List.replicate t u).flatten ++ u := by rw [List.replicate_succ', List.flatten_append]; simp

set_option maxHeartbeats 3200000 in
theorem gd_flat (n : Nat) (w : World) (hl : LaidG w) (h0 : 1 ≤ n) (hn : n ≤ 50) : Calls Tryz.prog 6 #[.int .i64 (n : Int), .bool false] w fun e w' => e = .returned (.bool true) ∧ w.grownBy w' none := by
  have d1 : decide ((n : Int) < 1) = false := by rw [decide_eq_false_iff_not]; omega
  have d2 : decide ((50 : Int) < n) = false := by rw [decide_eq_false_iff_not]; omega
  have hal := alive_any w hl
  go_enter Tryz.func6, Tryz.ntmps6
  go_wp2_with (go_at_call 9; refine hal.mono ?_; rintro e w1 ⟨rfl, hg1⟩; refine Hid.out ?_)
  have hl1 := hl.on hg1
  clear hal
  have HG := Lib.hid hg1
  clear hg1
  refine Lib.hid ?_
  go_wp2
  go_loop [6, 7, 8] (fun sv ev iv => ∃ (m : Nat) (A E : ByteArray), m + 1 ≤ n ∧ iv = .int .i64 ((m + 1 : Nat) : Int) ∧ sv = .string A ∧ ev = .string E ∧ Hid (A.data.toList = [122, 32, 61, 32] ++ List.replicate m 40 ∧ E.data.toList = List.replicate m 41 ++ [59])) (fun _ _ i => n - (intOf i).toNat)
  case atStart => exact ⟨0, ⟨#[122, 32, 61, 32]⟩, ⟨#[59]⟩, by omega, rfl, rfl, rfl, Lib.hid ⟨rfl, rfl⟩⟩
  case round =>
    obtain ⟨m, A, E, ht, rfl, rfl, rfl, HA⟩ := hrel
    have hA : A.size ≤ 100 := by rw [← sizeD, HA.out.1]; simp; omega
    have hE : E.size ≤ 100 := by rw [← sizeD, HA.out.2]; simp; omega
    by_cases hlt : m + 1 < n
    · have HA2 : Hid ((A ++ ⟨#[40]⟩).data.toList = [122, 32, 61, 32] ++ List.replicate (m + 1) 40 ∧ (⟨#[41]⟩ ++ E).data.toList = List.replicate (m + 1) 41 ++ [59]) := Lib.hid ⟨by rw [catD, HA.out.1, List.replicate_succ']; simp, by rw [catD, HA.out.2, List.replicate_succ]; rfl⟩
      go_wp2
      exact ⟨⟨m + 1, _, _, by omega, by go_num, rfl, rfl, HA2⟩, by simp [intOf]; omega⟩
    · have e : n = m + 1 := by omega
      subst e
      have s1 : (A ++ ⟨#[97]⟩).size ≤ 300 := by rw [ByteArray.size_append]; show A.size + 1 ≤ 300; omega
      have s2 : (A ++ ⟨#[97]⟩ ++ E).size ≤ 600 := by rw [ByteArray.size_append]; omega
      have s3 : (⟨#[110, 111, 100, 101, 32, 102, 40, 41, 32, 114, 101, 116, 117, 114, 110, 115, 32, 40, 122, 58, 32, 105, 56, 41, 32, 108, 101, 116, 32]⟩ ++ (A ++ ⟨#[97]⟩ ++ E)).size ≤ 700 := by rw [ByteArray.size_append]; show 29 + _ ≤ 700; omega
      have hT : (⟨#[110, 111, 100, 101, 32, 102, 40, 41, 32, 114, 101, 116, 117, 114, 110, 115, 32, 40, 122, 58, 32, 105, 56, 41, 32, 108, 101, 116, 32]⟩ ++ (A ++ ⟨#[97]⟩ ++ E) ++ ⟨#[32, 116, 101, 108]⟩ : ByteArray).data.toList = Gram.D0 m := by
        rw [catD, catD, catD, catD, HA.out.1, HA.out.2]; simp [Gram.D0]
      · obtain ⟨T, hTe⟩ : ∃ T : ByteArray, T = ⟨#[110, 111, 100, 101, 32, 102, 40, 41, 32, 114, 101, 116, 117, 114, 110, 115, 32, 40, 122, 58, 32, 105, 56, 41, 32, 108, 101, 116, 32]⟩ ++ (A ++ ⟨#[97]⟩ ++ E) ++ ⟨#[32, 116, 101, 108]⟩ := ⟨_, rfl⟩
        rw [← hTe] at hT
        rcases Nat.lt_or_ge m 40 with hm | hm
        · obtain ⟨l, ha⟩ := Gram.deepB_ok (Gram.deep0 m (by omega)) hm
          rw [← hT, hTe] at ha
          clear hT hTe
          have d3 : decide ((40 : Int) < (m + 1 : Nat)) = false := by rw [decide_eq_false_iff_not]; omega
          have d4 : decide ((40 : Int) < (m : Int) + 1) = false := by rw [decide_eq_false_iff_not]; omega
          go_wp2_with (go_at_call 10; refine (gparse_ok ha _ hl1).mono ?_; rintro e w2 ⟨v, rfl, hk, hg2⟩; obtain ⟨va, vn, vc, rfl⟩ := hk.form; refine Hid.out ?_)
          have HG2 := Lib.hid hg2
          clear hg2 hk
          refine Lib.hid ?_
          go_wp2_with (go_at_call 13; refine (num_any _ _).mono ?_; rintro e w' ⟨rfl, rfl⟩)
          go_ret
          exact ⟨rfl, galloc (HG.out.trans HG2.out) _⟩
        · obtain ⟨a, ha⟩ := Gram.deepB_bad (Gram.deep0 m (by omega)) hm
          rw [← hT, hTe] at ha
          clear hT hTe
          have d3 : decide ((40 : Int) < (m + 1 : Nat)) = true := by rw [decide_eq_true_iff]; omega
          have d4 : decide ((40 : Int) < (m : Int) + 1) = true := by rw [decide_eq_true_iff]; omega
          go_wp2_with (go_at_call 10; refine (gparse_bad ha _ hl1).mono ?_; rintro e w2 ⟨rfl, hg2⟩; refine Hid.out ?_)
          have HG2 := Lib.hid hg2
          clear hg2
          refine Lib.hid ?_
          go_wp2_with (go_at_call 13; refine (num_any _ _).mono ?_; rintro e w' ⟨rfl, rfl⟩)
          go_ret
          exact ⟨rfl, galloc (HG.out.trans HG2.out) _⟩

set_option maxHeartbeats 3200000 in
theorem gd_auto (n : Nat) (w : World) (hl : LaidG w) (h0 : 1 ≤ n) (hn : n ≤ 50) : Calls Tryz.prog 6 #[.int .i64 (n : Int), .bool true] w fun e w' => e = .returned (.bool true) ∧ w.grownBy w' none := by
  have d1 : decide ((n : Int) < 1) = false := by rw [decide_eq_false_iff_not]; omega
  have d2 : decide ((50 : Int) < n) = false := by rw [decide_eq_false_iff_not]; omega
  have hal := alive_any w hl
  go_enter Tryz.func6, Tryz.ntmps6
  go_wp2_with (go_at_call 9; refine hal.mono ?_; rintro e w1 ⟨rfl, hg1⟩; refine Hid.out ?_)
  have hl1 := hl.on hg1
  clear hal
  have HG := Lib.hid hg1
  clear hg1
  refine Lib.hid ?_
  go_wp2
  go_loop [6, 7, 8] (fun sv ev iv => ∃ (m : Nat) (A E : ByteArray), m + 1 ≤ n ∧ iv = .int .i64 ((m + 1 : Nat) : Int) ∧ sv = .string A ∧ ev = .string E ∧ Hid (A.data.toList = [122, 32, 61, 32] ++ List.replicate m 40 ∧ E.data.toList = List.replicate m 41 ++ [59])) (fun _ _ i => n - (intOf i).toNat)
  case atStart => exact ⟨0, ⟨#[122, 32, 61, 32]⟩, ⟨#[59]⟩, by omega, rfl, rfl, rfl, Lib.hid ⟨rfl, rfl⟩⟩
  case round =>
    obtain ⟨m, A, E, ht, rfl, rfl, rfl, HA⟩ := hrel
    have hA : A.size ≤ 100 := by rw [← sizeD, HA.out.1]; simp; omega
    have hE : E.size ≤ 100 := by rw [← sizeD, HA.out.2]; simp; omega
    by_cases hlt : m + 1 < n
    · have HA2 : Hid ((A ++ ⟨#[40]⟩).data.toList = [122, 32, 61, 32] ++ List.replicate (m + 1) 40 ∧ (⟨#[41]⟩ ++ E).data.toList = List.replicate (m + 1) 41 ++ [59]) := Lib.hid ⟨by rw [catD, HA.out.1, List.replicate_succ']; simp, by rw [catD, HA.out.2, List.replicate_succ]; rfl⟩
      go_wp2
      exact ⟨⟨m + 1, _, _, by omega, by go_num, rfl, rfl, HA2⟩, by simp [intOf]; omega⟩
    · have e : n = m + 1 := by omega
      subst e
      have s1 : (A ++ ⟨#[97]⟩).size ≤ 300 := by rw [ByteArray.size_append]; show A.size + 1 ≤ 300; omega
      have s2 : (A ++ ⟨#[97]⟩ ++ E).size ≤ 600 := by rw [ByteArray.size_append]; omega
      clear HA
      obtain ⟨N, hN⟩ : ∃ N, N = m + 1 := ⟨_, rfl⟩
      rw [← hN] at h0 hn d1 d2 ⊢
      clear hlt ht hN
      go_wp2
      go_loop [6, 7, 9] (fun sv ev iv => ∃ (m : Nat) (A E : ByteArray), m + 1 ≤ N ∧ iv = .int .i64 ((m + 1 : Nat) : Int) ∧ sv = .string A ∧ ev = .string E ∧ Hid (A.data.toList = (List.replicate m [97, 117, 116, 111, 109, 97, 116, 111, 110, 32, 115, 116, 97, 116, 101, 32, 115, 32, 100, 111, 32]).flatten ∧ E.data.toList = (List.replicate m [32, 101, 110, 100]).flatten)) (fun _ _ i => N - (intOf i).toNat)
      case atStart => exact ⟨0, ⟨#[]⟩, ⟨#[]⟩, by omega, rfl, rfl, rfl, Lib.hid ⟨rfl, rfl⟩⟩
      case round =>
        clear hA hE s1 s2
        obtain ⟨m, A, E, ht, rfl, rfl, rfl, HA⟩ := hrel
        have hA : A.size ≤ 1100 := by rw [← sizeD, HA.out.1]; simp [List.length_flatten]; omega
        have hE : E.size ≤ 1100 := by rw [← sizeD, HA.out.2]; simp [List.length_flatten]; omega
        by_cases hlt : m + 1 < N
        · have HA2 : Hid ((A ++ ⟨#[97, 117, 116, 111, 109, 97, 116, 111, 110, 32, 115, 116, 97, 116, 101, 32, 115, 32, 100, 111, 32]⟩).data.toList = (List.replicate (m + 1) [97, 117, 116, 111, 109, 97, 116, 111, 110, 32, 115, 116, 97, 116, 101, 32, 115, 32, 100, 111, 32]).flatten ∧ (E ++ ⟨#[32, 101, 110, 100]⟩).data.toList = (List.replicate (m + 1) [32, 101, 110, 100]).flatten) := Lib.hid ⟨by rw [catD, HA.out.1, rep_end], by rw [catD, HA.out.2, rep_end]⟩
          go_wp2
          exact ⟨⟨m + 1, _, _, by omega, by go_num, rfl, rfl, HA2⟩, by simp [intOf]; omega⟩
        have e : N = m + 1 := by omega
        subst e
        have s1 : (A ++ ⟨#[122, 32, 61, 32, 97, 59]⟩).size ≤ 1200 := by rw [ByteArray.size_append]; show A.size + 6 ≤ 1200; omega
        have s2 : (A ++ ⟨#[122, 32, 61, 32, 97, 59]⟩ ++ E).size ≤ 2400 := by rw [ByteArray.size_append]; omega
        have s3 : (⟨#[110, 111, 100, 101, 32, 102, 40, 41, 32, 114, 101, 116, 117, 114, 110, 115, 32, 40, 122, 58, 32, 105, 56, 41, 32, 108, 101, 116, 32]⟩ ++ (A ++ ⟨#[122, 32, 61, 32, 97, 59]⟩ ++ E)).size ≤ 2500 := by rw [ByteArray.size_append]; show 29 + _ ≤ 2500; omega
        have hT : (⟨#[110, 111, 100, 101, 32, 102, 40, 41, 32, 114, 101, 116, 117, 114, 110, 115, 32, 40, 122, 58, 32, 105, 56, 41, 32, 108, 101, 116, 32]⟩ ++ (A ++ ⟨#[122, 32, 61, 32, 97, 59]⟩ ++ E) ++ ⟨#[32, 116, 101, 108]⟩ : ByteArray).data.toList = Gram.D1 m := by
          rw [catD, catD, catD, catD, HA.out.1, HA.out.2]; simp [Gram.D1]
        obtain ⟨T, hTe⟩ : ∃ T : ByteArray, T = ⟨#[110, 111, 100, 101, 32, 102, 40, 41, 32, 114, 101, 116, 117, 114, 110, 115, 32, 40, 122, 58, 32, 105, 56, 41, 32, 108, 101, 116, 32]⟩ ++ (A ++ ⟨#[122, 32, 61, 32, 97, 59]⟩ ++ E) ++ ⟨#[32, 116, 101, 108]⟩ := ⟨_, rfl⟩
        rw [← hTe] at hT
        rcases Nat.lt_or_ge m 40 with hm | hm
        · obtain ⟨l, ha⟩ := Gram.deepB_ok (Gram.deep1 m (by omega)) hm
          rw [← hT, hTe] at ha
          clear hT hTe
          have d3 : decide ((40 : Int) < (m + 1 : Nat)) = false := by rw [decide_eq_false_iff_not]; omega
          have d4 : decide ((40 : Int) < (m : Int) + 1) = false := by rw [decide_eq_false_iff_not]; omega
          go_wp2_with (go_at_call 10; refine (gparse_ok ha _ hl1).mono ?_; rintro e w2 ⟨v, rfl, hk, hg2⟩; obtain ⟨va, vn, vc, rfl⟩ := hk.form; refine Hid.out ?_)
          have HG2 := Lib.hid hg2
          clear hg2 hk
          refine Lib.hid ?_
          go_wp2_with (go_at_call 13; refine (num_any _ _).mono ?_; rintro e w' ⟨rfl, rfl⟩)
          go_ret
          exact ⟨rfl, galloc (HG.out.trans HG2.out) _⟩
        · obtain ⟨a, ha⟩ := Gram.deepB_bad (Gram.deep1 m (by omega)) hm
          rw [← hT, hTe] at ha
          clear hT hTe
          have d3 : decide ((40 : Int) < (m + 1 : Nat)) = true := by rw [decide_eq_true_iff]; omega
          have d4 : decide ((40 : Int) < (m : Int) + 1) = true := by rw [decide_eq_true_iff]; omega
          go_wp2_with (go_at_call 10; refine (gparse_bad ha _ hl1).mono ?_; rintro e w2 ⟨rfl, hg2⟩; refine Hid.out ?_)
          have HG2 := Lib.hid hg2
          clear hg2
          refine Lib.hid ?_
          go_wp2_with (go_at_call 13; refine (num_any _ _).mono ?_; rintro e w' ⟨rfl, rfl⟩)
          go_ret
          exact ⟨rfl, galloc (HG.out.trans HG2.out) _⟩

theorem gramDeep_walk (n : Int) (au : Bool) (w : World) (hl : LaidG w) : Calls Tryz.prog 6 #[.int .i64 n, .bool au] w fun e w' => e = .returned (.bool true) ∧ w.grownBy w' none := by
  by_cases hn : n < 1 ∨ 50 < n
  · exact gd_out n au w hl hn
  · obtain ⟨m, rfl⟩ : ∃ m : Nat, n = (m : Int) := ⟨n.toNat, by omega⟩
    cases au with
    | false => exact gd_flat m w hl (by omega) (by omega)
    | true => exact gd_auto m w hl (by omega) (by omega)

end Go.Proofs.YtjcdkgjfecnkgaaGreatDoor
