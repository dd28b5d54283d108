/- The walks of the document's own Width, Signed, power and Wrap: they answer as the plain definitions say. -/
import Derived.Test.YtbiplgidlmbbkaaDoorChecked
import Derived.Test.YtbiplgidlmbbkaaDoorBvA
namespace Go.Proofs.YtbiplgidlmbbkaaDoor
open Go.RowKit

set_option maxHeartbeats 400000 in
theorem rwidth_any (k : Int) (w : World) :
    Calls Tryd.prog 22 #[.int .i64 k] w fun e w' => e = .returned (.int .i64 (Bv.wid k)) ∧ w' = w := by
  go_enter Tryd.func22, Tryd.ntmps22
  go_wp2
  all_goals go_ret
  all_goals refine ⟨ret_int ?_, rfl⟩
  all_goals (unfold Bv.wid; simp_all)

set_option maxHeartbeats 400000 in
theorem rsigned_any (k : Int) (w : World) :
    Calls Tryd.prog 24 #[.int .i64 k] w fun e w' => e = .returned (.bool (decide (2 ≤ k ∧ k ≤ 5))) ∧ w' = w := by
  by_cases h1 : 2 ≤ k
  · by_cases h2 : k ≤ 5
    · go_enter Tryd.func24, Tryd.ntmps24
      go_wp2
      all_goals go_ret
      all_goals exact ⟨ret_bool (by simp [h1, h2]), rfl⟩
    · go_enter Tryd.func24, Tryd.ntmps24
      go_wp2
      all_goals go_ret
      all_goals exact ⟨ret_bool (by simp; omega), rfl⟩
  · go_enter Tryd.func24, Tryd.ntmps24
    go_wp2
    all_goals go_ret
    all_goals exact ⟨ret_bool (by simp; omega), rfl⟩

theorem pow_le (k : Nat) (h : k ≤ 62) : (0 : Int) ≤ 2 ^ k ∧ (2 : Int) ^ k ≤ 4611686018427387904 := by
  have e : (2 : Int) ^ k = ((2 ^ k : Nat) : Int) := by simp
  have h2 : 2 ^ k ≤ 2 ^ 62 := Nat.pow_le_pow_right (by decide) h
  have h3 : (2 : Nat) ^ 62 = 4611686018427387904 := by decide
  rw [e]
  rw [h3] at h2
  generalize (2 ^ k : Nat) = m at h2 ⊢
  omega

theorem pow_step (k : Nat) (h : k < 62) : wrap64 (2 * (2 : Int) ^ k) = 2 ^ (k + 1) := by
  have h1 := pow_le k (by omega)
  have h2 := pow_le (k + 1) (by omega)
  have h3 : (2 : Int) ^ (k + 1) = 2 * 2 ^ k := by rw [Int.pow_succ, Int.mul_comm]
  unfold wrap64
  omega

set_option maxHeartbeats 400000 in
theorem rpower_any (n : Nat) (hn : n ≤ 62) (w : World) :
    Calls Tryd.prog 23 #[.int .i64 n] w fun e w' => e = .returned (.int .i64 (2 ^ n)) ∧ w' = w := by
  go_enter Tryd.func23, Tryd.ntmps23
  go_wp2
  go_loop [3, 4] (fun p i => ∃ k : Nat, ∃ q : Int, k ≤ n ∧ i = .int .i64 k ∧ p = .int .i64 q ∧ Hid (q = 2 ^ k)) (fun _ i => n - (intOf i).toNat)
  case atStart => exact ⟨0, 1, Nat.zero_le _, rfl, rfl, rfl⟩
  case round =>
    obtain ⟨k, q, hk, rfl, rfl, HQ⟩ := hrel
    by_cases hlt : k < n
    · go_wp2
      all_goals
        go_round
        case rel => exact ⟨k + 1, _, by omega, by go_num, rfl, by have e := HQ.out; subst e; exact pow_step k (by omega)⟩
        case measure => simp [intOf]; omega
    · go_wp2
      go_ret
      have e : k = n := by omega
      exact ⟨ret_int (by rw [HQ.out, e]), rfl⟩

theorem rpower1 (w : World) : Calls Tryd.prog 23 #[.int .i64 1] w fun e w' => e = .returned (.int .i64 2) ∧ w' = w :=
  rpower_any 1 (by decide) w

theorem rpower8 (w : World) : Calls Tryd.prog 23 #[.int .i64 8] w fun e w' => e = .returned (.int .i64 256) ∧ w' = w :=
  rpower_any 8 (by decide) w

theorem rpower16 (w : World) : Calls Tryd.prog 23 #[.int .i64 16] w fun e w' => e = .returned (.int .i64 65536) ∧ w' = w :=
  rpower_any 16 (by decide) w

theorem rpower32 (w : World) : Calls Tryd.prog 23 #[.int .i64 32] w fun e w' => e = .returned (.int .i64 4294967296) ∧ w' = w :=
  rpower_any 32 (by decide) w

theorem wrap_pos (n p : Int) (hp : 0 < p) (h : 0 ≤ n.tmod p) : n.tmod p = n % p := by
  have h1 := Int.tmod_def n p
  have h2 := Int.tmod_lt_of_pos n hp
  have h3 : n.tmod p = n + p * (-(n.tdiv p)) := by rw [h1, Int.mul_neg]; rfl
  have h4 : n.tmod p % p = n % p := by rw [h3, Int.add_mul_emod_self_left]
  rw [Int.emod_eq_of_lt h h2] at h4
  exact h4

theorem wrap_neg (n p : Int) (hp : 0 < p) (h : n.tmod p < 0) : n.tmod p + p = n % p := by
  have h1 := Int.tmod_def n p
  have h2 : -p < n.tmod p := by
    have := Int.lt_tmod_of_pos n hp
    exact this
  have h3 : n.tmod p + p = n + p * (-(n.tdiv p) + 1) := by rw [h1, Int.mul_add, Int.mul_neg, Int.mul_one, ← Int.add_assoc]; rfl
  have h4 : (n.tmod p + p) % p = n % p := by rw [h3, Int.add_mul_emod_self_left]
  rw [Int.emod_eq_of_lt (by omega) (by omega)] at h4
  exact h4

set_option maxHeartbeats 400000 in
theorem rwrap_1 (n : Int) (w : World) :
    Calls Tryd.prog 13 #[.int .i64 1, .int .i64 n] w fun e w' => e = .returned (.int .i64 (Bv.wrp 1 n)) ∧ w' = w := by
  have hw : Bv.wid 1 = 1 := rfl
  have hp := wrap_pos n 2 (by decide)
  have hn := wrap_neg n 2 (by decide)
  have hl := Int.tmod_lt_of_pos n (b := 2) (by decide)
  have hg : -2 < n.tmod 2 := Int.lt_tmod_of_pos n (by decide)
  have hr : Bv.wrp 1 n = n % 2 := by simp [Bv.wrp]
  have H : Hid ((0 ≤ n.tmod 2 → n.tmod 2 = n % 2) ∧ (n.tmod 2 < 0 → n.tmod 2 + 2 = n % 2) ∧ Bv.wrp 1 n = n % 2) := ⟨hp, hn, hr⟩
  clear hp hn hr
  go_enter Tryd.func13, Tryd.ntmps13
  go_wp2_with (first | (go_at_call 22; refine (rwidth_any _ _).mono ?_; rintro e w' ⟨rfl, rfl⟩) | (go_at_call 24; refine (rsigned_any _ _).mono ?_; rintro e w' ⟨rfl, rfl⟩) | (go_at_call 23; refine (rpower1 _).mono ?_; rintro e w' ⟨rfl, rfl⟩))
  all_goals go_ret
  all_goals refine ⟨ret_int ?_, rfl⟩
  all_goals (obtain ⟨hp, hn, hr⟩ := H.out; rw [hr]; clear H; omega)

set_option maxHeartbeats 400000 in
theorem rwrap_2 (n : Int) (w : World) :
    Calls Tryd.prog 13 #[.int .i64 2, .int .i64 n] w fun e w' => e = .returned (.int .i64 (Bv.wrp 2 n)) ∧ w' = w := by
  have hw : Bv.wid 2 = 8 := rfl
  have hp := wrap_pos n 256 (by decide)
  have hn := wrap_neg n 256 (by decide)
  have hl := Int.tmod_lt_of_pos n (b := 256) (by decide)
  have hg : -256 < n.tmod 256 := Int.lt_tmod_of_pos n (by decide)
  have hr : Bv.wrp 2 n = (n + 128) % 256 - 128 := by simp [Bv.wrp]
  have H : Hid ((0 ≤ n.tmod 256 → n.tmod 256 = n % 256) ∧ (n.tmod 256 < 0 → n.tmod 256 + 256 = n % 256) ∧ Bv.wrp 2 n = (n + 128) % 256 - 128) := ⟨hp, hn, hr⟩
  clear hp hn hr
  go_enter Tryd.func13, Tryd.ntmps13
  go_wp2_with (first | (go_at_call 22; refine (rwidth_any _ _).mono ?_; rintro e w' ⟨rfl, rfl⟩) | (go_at_call 24; refine (rsigned_any _ _).mono ?_; rintro e w' ⟨rfl, rfl⟩) | (go_at_call 23; refine (rpower8 _).mono ?_; rintro e w' ⟨rfl, rfl⟩))
  all_goals go_ret
  all_goals refine ⟨ret_int ?_, rfl⟩
  all_goals (obtain ⟨hp, hn, hr⟩ := H.out; rw [hr]; clear H; omega)

set_option maxHeartbeats 400000 in
theorem rwrap_3 (n : Int) (w : World) :
    Calls Tryd.prog 13 #[.int .i64 3, .int .i64 n] w fun e w' => e = .returned (.int .i64 (Bv.wrp 3 n)) ∧ w' = w := by
  have hw : Bv.wid 3 = 16 := rfl
  have hp := wrap_pos n 65536 (by decide)
  have hn := wrap_neg n 65536 (by decide)
  have hl := Int.tmod_lt_of_pos n (b := 65536) (by decide)
  have hg : -65536 < n.tmod 65536 := Int.lt_tmod_of_pos n (by decide)
  have hr : Bv.wrp 3 n = (n + 32768) % 65536 - 32768 := by simp [Bv.wrp]
  have H : Hid ((0 ≤ n.tmod 65536 → n.tmod 65536 = n % 65536) ∧ (n.tmod 65536 < 0 → n.tmod 65536 + 65536 = n % 65536) ∧ Bv.wrp 3 n = (n + 32768) % 65536 - 32768) := ⟨hp, hn, hr⟩
  clear hp hn hr
  go_enter Tryd.func13, Tryd.ntmps13
  go_wp2_with (first | (go_at_call 22; refine (rwidth_any _ _).mono ?_; rintro e w' ⟨rfl, rfl⟩) | (go_at_call 24; refine (rsigned_any _ _).mono ?_; rintro e w' ⟨rfl, rfl⟩) | (go_at_call 23; refine (rpower16 _).mono ?_; rintro e w' ⟨rfl, rfl⟩))
  all_goals go_ret
  all_goals refine ⟨ret_int ?_, rfl⟩
  all_goals (obtain ⟨hp, hn, hr⟩ := H.out; rw [hr]; clear H; omega)

set_option maxHeartbeats 400000 in
theorem rwrap_4 (n : Int) (w : World) :
    Calls Tryd.prog 13 #[.int .i64 4, .int .i64 n] w fun e w' => e = .returned (.int .i64 (Bv.wrp 4 n)) ∧ w' = w := by
  have hw : Bv.wid 4 = 32 := rfl
  have hp := wrap_pos n 4294967296 (by decide)
  have hn := wrap_neg n 4294967296 (by decide)
  have hl := Int.tmod_lt_of_pos n (b := 4294967296) (by decide)
  have hg : -4294967296 < n.tmod 4294967296 := Int.lt_tmod_of_pos n (by decide)
  have hr : Bv.wrp 4 n = (n + 2147483648) % 4294967296 - 2147483648 := by simp [Bv.wrp]
  have H : Hid ((0 ≤ n.tmod 4294967296 → n.tmod 4294967296 = n % 4294967296) ∧ (n.tmod 4294967296 < 0 → n.tmod 4294967296 + 4294967296 = n % 4294967296) ∧ Bv.wrp 4 n = (n + 2147483648) % 4294967296 - 2147483648) := ⟨hp, hn, hr⟩
  clear hp hn hr
  go_enter Tryd.func13, Tryd.ntmps13
  go_wp2_with (first | (go_at_call 22; refine (rwidth_any _ _).mono ?_; rintro e w' ⟨rfl, rfl⟩) | (go_at_call 24; refine (rsigned_any _ _).mono ?_; rintro e w' ⟨rfl, rfl⟩) | (go_at_call 23; refine (rpower32 _).mono ?_; rintro e w' ⟨rfl, rfl⟩))
  all_goals go_ret
  all_goals refine ⟨ret_int ?_, rfl⟩
  all_goals (obtain ⟨hp, hn, hr⟩ := H.out; rw [hr]; clear H; omega)

set_option maxHeartbeats 400000 in
theorem rwrap_6 (n : Int) (w : World) :
    Calls Tryd.prog 13 #[.int .i64 6, .int .i64 n] w fun e w' => e = .returned (.int .i64 (Bv.wrp 6 n)) ∧ w' = w := by
  have hw : Bv.wid 6 = 8 := rfl
  have hp := wrap_pos n 256 (by decide)
  have hn := wrap_neg n 256 (by decide)
  have hl := Int.tmod_lt_of_pos n (b := 256) (by decide)
  have hg : -256 < n.tmod 256 := Int.lt_tmod_of_pos n (by decide)
  have hr : Bv.wrp 6 n = n % 256 := by simp [Bv.wrp]
  have H : Hid ((0 ≤ n.tmod 256 → n.tmod 256 = n % 256) ∧ (n.tmod 256 < 0 → n.tmod 256 + 256 = n % 256) ∧ Bv.wrp 6 n = n % 256) := ⟨hp, hn, hr⟩
  clear hp hn hr
  go_enter Tryd.func13, Tryd.ntmps13
  go_wp2_with (first | (go_at_call 22; refine (rwidth_any _ _).mono ?_; rintro e w' ⟨rfl, rfl⟩) | (go_at_call 24; refine (rsigned_any _ _).mono ?_; rintro e w' ⟨rfl, rfl⟩) | (go_at_call 23; refine (rpower8 _).mono ?_; rintro e w' ⟨rfl, rfl⟩))
  all_goals go_ret
  all_goals refine ⟨ret_int ?_, rfl⟩
  all_goals (obtain ⟨hp, hn, hr⟩ := H.out; rw [hr]; clear H; omega)

set_option maxHeartbeats 400000 in
theorem rwrap_7 (n : Int) (w : World) :
    Calls Tryd.prog 13 #[.int .i64 7, .int .i64 n] w fun e w' => e = .returned (.int .i64 (Bv.wrp 7 n)) ∧ w' = w := by
  have hw : Bv.wid 7 = 16 := rfl
  have hp := wrap_pos n 65536 (by decide)
  have hn := wrap_neg n 65536 (by decide)
  have hl := Int.tmod_lt_of_pos n (b := 65536) (by decide)
  have hg : -65536 < n.tmod 65536 := Int.lt_tmod_of_pos n (by decide)
  have hr : Bv.wrp 7 n = n % 65536 := by simp [Bv.wrp]
  have H : Hid ((0 ≤ n.tmod 65536 → n.tmod 65536 = n % 65536) ∧ (n.tmod 65536 < 0 → n.tmod 65536 + 65536 = n % 65536) ∧ Bv.wrp 7 n = n % 65536) := ⟨hp, hn, hr⟩
  clear hp hn hr
  go_enter Tryd.func13, Tryd.ntmps13
  go_wp2_with (first | (go_at_call 22; refine (rwidth_any _ _).mono ?_; rintro e w' ⟨rfl, rfl⟩) | (go_at_call 24; refine (rsigned_any _ _).mono ?_; rintro e w' ⟨rfl, rfl⟩) | (go_at_call 23; refine (rpower16 _).mono ?_; rintro e w' ⟨rfl, rfl⟩))
  all_goals go_ret
  all_goals refine ⟨ret_int ?_, rfl⟩
  all_goals (obtain ⟨hp, hn, hr⟩ := H.out; rw [hr]; clear H; omega)

set_option maxHeartbeats 400000 in
theorem rwrap_8 (n : Int) (w : World) :
    Calls Tryd.prog 13 #[.int .i64 8, .int .i64 n] w fun e w' => e = .returned (.int .i64 (Bv.wrp 8 n)) ∧ w' = w := by
  have hw : Bv.wid 8 = 32 := rfl
  have hp := wrap_pos n 4294967296 (by decide)
  have hn := wrap_neg n 4294967296 (by decide)
  have hl := Int.tmod_lt_of_pos n (b := 4294967296) (by decide)
  have hg : -4294967296 < n.tmod 4294967296 := Int.lt_tmod_of_pos n (by decide)
  have hr : Bv.wrp 8 n = n % 4294967296 := by simp [Bv.wrp]
  have H : Hid ((0 ≤ n.tmod 4294967296 → n.tmod 4294967296 = n % 4294967296) ∧ (n.tmod 4294967296 < 0 → n.tmod 4294967296 + 4294967296 = n % 4294967296) ∧ Bv.wrp 8 n = n % 4294967296) := ⟨hp, hn, hr⟩
  clear hp hn hr
  go_enter Tryd.func13, Tryd.ntmps13
  go_wp2_with (first | (go_at_call 22; refine (rwidth_any _ _).mono ?_; rintro e w' ⟨rfl, rfl⟩) | (go_at_call 24; refine (rsigned_any _ _).mono ?_; rintro e w' ⟨rfl, rfl⟩) | (go_at_call 23; refine (rpower32 _).mono ?_; rintro e w' ⟨rfl, rfl⟩))
  all_goals go_ret
  all_goals refine ⟨ret_int ?_, rfl⟩
  all_goals (obtain ⟨hp, hn, hr⟩ := H.out; rw [hr]; clear H; omega)

set_option maxHeartbeats 400000 in
theorem rwrap_64 (k n : Int) (hk : k = 5 ∨ k = 9) (w : World) :
    Calls Tryd.prog 13 #[.int .i64 k, .int .i64 n] w fun e w' => e = .returned (.int .i64 (Bv.wrp k n)) ∧ w' = w := by
  have hr : Bv.wrp k n = n := by rcases hk with rfl | rfl <;> simp [Bv.wrp]
  rw [hr]
  have hw : Bv.wid k = 64 := by simp [Bv.wid, hk]
  clear hr hk
  go_enter Tryd.func13, Tryd.ntmps13
  go_wp2_with (first | (go_at_call 22; refine (rwidth_any _ _).mono ?_; rintro e w' ⟨rfl, rfl⟩))
  all_goals go_ret
  all_goals exact ⟨rfl, rfl⟩

set_option maxHeartbeats 400000 in
theorem rwrap_none (k n : Int) (hk : k < 1 ∨ 9 < k) (w : World) :
    Calls Tryd.prog 13 #[.int .i64 k, .int .i64 n] w fun e w' => e = .returned (.int .i64 (Bv.wrp k n)) ∧ w' = w := by
  have hr : Bv.wrp k n = 0 := by unfold Bv.wrp; repeat (rw [if_neg (by omega)])
  rw [hr]
  have hw : Bv.wid k = 0 := by unfold Bv.wid; repeat (rw [if_neg (by omega)])
  clear hr hk
  go_enter Tryd.func13, Tryd.ntmps13
  go_wp2_with (first | (go_at_call 22; refine (rwidth_any _ _).mono ?_; rintro e w' ⟨rfl, rfl⟩))
  all_goals go_ret
  all_goals exact ⟨rfl, rfl⟩

theorem rwrap_any (k n : Int) (w : World) :
    Calls Tryd.prog 13 #[.int .i64 k, .int .i64 n] w fun e w' => e = .returned (.int .i64 (Bv.wrp k n)) ∧ w' = w := by
  by_cases hout : k < 1 ∨ 9 < k
  · exact rwrap_none k n hout w
  · have hc : k = 1 ∨ k = 2 ∨ k = 3 ∨ k = 4 ∨ (k = 5 ∨ k = 9) ∨ k = 6 ∨ k = 7 ∨ k = 8 := by omega
    rcases hc with h | h | h | h | h | h | h | h
    · subst h; exact rwrap_1 n w
    · subst h; exact rwrap_2 n w
    · subst h; exact rwrap_3 n w
    · subst h; exact rwrap_4 n w
    · exact rwrap_64 k n h w
    · subst h; exact rwrap_6 n w
    · subst h; exact rwrap_7 n w
    · subst h; exact rwrap_8 n w

end Go.Proofs.YtbiplgidlmbbkaaDoor
