/- Texts joined: BvR, BvK, BvL, BvD, BvO, BvE, BvG, BvH, BvQ, BvC, BvW, BvX, BvY, BvI, BvJ. -/
import Derived.Test.YtfbhflpjhbemlaaGreatChecked
import Derived.Test.YtfbhflpjhbemlaaGreatJnA
/- The walks of the document's own Width, Signed, power, Wrap, Is and of alive: they answer as the plain definitions say (power to 62; Wrap of a number of 64 bits). -/
namespace Go.Proofs.YtfbhflpjhbemlaaGreat
open Go.RowKit

set_option maxHeartbeats 400000 in
theorem rwidth_any (k : Int) (w : World) :
    Calls Tryz.prog 40 #[.int .i64 k] w fun e w' => e = .returned (.int .i64 (Bv.wid k)) ∧ w' = w := by
  go_enter Tryz.func40, Tryz.ntmps40
  go_wp2
  all_goals go_ret
  all_goals refine ⟨ret_int ?_, rfl⟩
  all_goals (unfold Bv.wid; simp_all)

set_option maxHeartbeats 400000 in
theorem rsigned_any (k : Int) (w : World) :
    Calls Tryz.prog 70 #[.int .i64 k] w fun e w' => e = .returned (.bool (decide (2 ≤ k ∧ k ≤ 5))) ∧ w' = w := by
  by_cases h1 : 2 ≤ k
  · by_cases h2 : k ≤ 5
    · go_enter Tryz.func70, Tryz.ntmps70
      go_wp2
      all_goals go_ret
      all_goals exact ⟨ret_bool (by simp [h1, h2]), rfl⟩
    · go_enter Tryz.func70, Tryz.ntmps70
      go_wp2
      all_goals go_ret
      all_goals exact ⟨ret_bool (by simp; omega), rfl⟩
  · go_enter Tryz.func70, Tryz.ntmps70
    go_wp2
    all_goals go_ret
    all_goals exact ⟨ret_bool (by simp; omega), rfl⟩

theorem pow_le (k : Nat) (h : k ≤ 62) : (0 : Int) ≤ 2 ^ k ∧ (2 : Int) ^ k ≤ 4611686018427387904 := by
  have e : (2 : Int) ^ k = ((2 ^ k : Nat) : Int) := by simp
  have h2 : 2 ^ k ≤ 2 ^ 62 := Nat.pow_le_pow_right (by decide) h
  have h3 : (2 : Nat) ^ 62 = 4611686018427387904 := by decide
  rw [e]
  rw [h3] at h2
  generalize (2 ^ k : Nat) = m at h2 ⊢
  omega

theorem pow_step (k : Nat) (h : k < 62) : wrap64 (2 * (2 : Int) ^ k) = 2 ^ (k + 1) := by
  have h1 := pow_le k (by omega)
  have h2 := pow_le (k + 1) (by omega)
  have h3 : (2 : Int) ^ (k + 1) = 2 * 2 ^ k := by rw [Int.pow_succ, Int.mul_comm]
  unfold wrap64
  omega

set_option maxHeartbeats 400000 in
theorem rpower_any (n : Nat) (hn : n ≤ 62) (w : World) :
    Calls Tryz.prog 69 #[.int .i64 n] w fun e w' => e = .returned (.int .i64 (2 ^ n)) ∧ w' = w := by
  go_enter Tryz.func69, Tryz.ntmps69
  go_wp2
  go_loop [3, 4] (fun p i => ∃ k : Nat, ∃ q : Int, k ≤ n ∧ i = .int .i64 k ∧ p = .int .i64 q ∧ Hid (q = 2 ^ k)) (fun _ i => n - (intOf i).toNat)
  case atStart => exact ⟨0, 1, Nat.zero_le _, rfl, rfl, rfl⟩
  case round =>
    obtain ⟨k, q, hk, rfl, rfl, HQ⟩ := hrel
    by_cases hlt : k < n
    · go_wp2
      all_goals
        go_round
        case rel => exact ⟨k + 1, _, by omega, by go_num, rfl, by have e := HQ.out; subst e; exact pow_step k (by omega)⟩
        case measure => simp [intOf]; omega
    · go_wp2
      go_ret
      have e : k = n := by omega
      exact ⟨ret_int (by rw [HQ.out, e]), rfl⟩

theorem rpower1 (w : World) : Calls Tryz.prog 69 #[.int .i64 1] w fun e w' => e = .returned (.int .i64 2) ∧ w' = w :=
  rpower_any 1 (by decide) w

theorem rpower8 (w : World) : Calls Tryz.prog 69 #[.int .i64 8] w fun e w' => e = .returned (.int .i64 256) ∧ w' = w :=
  rpower_any 8 (by decide) w

theorem rpower16 (w : World) : Calls Tryz.prog 69 #[.int .i64 16] w fun e w' => e = .returned (.int .i64 65536) ∧ w' = w :=
  rpower_any 16 (by decide) w

theorem rpower32 (w : World) : Calls Tryz.prog 69 #[.int .i64 32] w fun e w' => e = .returned (.int .i64 4294967296) ∧ w' = w :=
  rpower_any 32 (by decide) w

theorem wrap_pos (n p : Int) (hp : 0 < p) (h : 0 ≤ n.tmod p) : n.tmod p = n % p := by
  have h1 := Int.tmod_def n p
  have h2 := Int.tmod_lt_of_pos n hp
  have h3 : n.tmod p = n + p * (-(n.tdiv p)) := by rw [h1, Int.mul_neg]; rfl
  have h4 : n.tmod p % p = n % p := by rw [h3, Int.add_mul_emod_self_left]
  rw [Int.emod_eq_of_lt h h2] at h4
  exact h4

theorem wrap_neg (n p : Int) (hp : 0 < p) (h : n.tmod p < 0) : n.tmod p + p = n % p := by
  have h1 := Int.tmod_def n p
  have h2 : -p < n.tmod p := by
    have := Int.lt_tmod_of_pos n hp
    exact this
  have h3 : n.tmod p + p = n + p * (-(n.tdiv p) + 1) := by rw [h1, Int.mul_add, Int.mul_neg, Int.mul_one, ← Int.add_assoc]; rfl
  have h4 : (n.tmod p + p) % p = n % p := by rw [h3, Int.add_mul_emod_self_left]
  rw [Int.emod_eq_of_lt (by omega) (by omega)] at h4
  exact h4

set_option maxHeartbeats 400000 in
theorem rwrap_1 (n : Int) (w : World) :
    Calls Tryz.prog 56 #[.int .i64 1, .int .i64 n] w fun e w' => e = .returned (.int .i64 (Bv.wrp 1 n)) ∧ w' = w := by
  have hw : Bv.wid 1 = 1 := rfl
  have hp := wrap_pos n 2 (by decide)
  have hn := wrap_neg n 2 (by decide)
  have hl := Int.tmod_lt_of_pos n (b := 2) (by decide)
  have hg : -2 < n.tmod 2 := Int.lt_tmod_of_pos n (by decide)
  have hr : Bv.wrp 1 n = n % 2 := by simp [Bv.wrp]
  have H : Hid ((0 ≤ n.tmod 2 → n.tmod 2 = n % 2) ∧ (n.tmod 2 < 0 → n.tmod 2 + 2 = n % 2) ∧ Bv.wrp 1 n = n % 2) := ⟨hp, hn, hr⟩
  clear hp hn hr
  go_enter Tryz.func56, Tryz.ntmps56
  go_wp2_with (first | (go_at_call 40; refine (rwidth_any _ _).mono ?_; rintro e w' ⟨rfl, rfl⟩) | (go_at_call 70; refine (rsigned_any _ _).mono ?_; rintro e w' ⟨rfl, rfl⟩) | (go_at_call 69; refine (rpower1 _).mono ?_; rintro e w' ⟨rfl, rfl⟩))
  all_goals go_ret
  all_goals refine ⟨ret_int ?_, rfl⟩
  all_goals (obtain ⟨hp, hn, hr⟩ := H.out; rw [hr]; clear H; omega)

set_option maxHeartbeats 400000 in
theorem rwrap_2 (n : Int) (w : World) :
    Calls Tryz.prog 56 #[.int .i64 2, .int .i64 n] w fun e w' => e = .returned (.int .i64 (Bv.wrp 2 n)) ∧ w' = w := by
  have hw : Bv.wid 2 = 8 := rfl
  have hp := wrap_pos n 256 (by decide)
  have hn := wrap_neg n 256 (by decide)
  have hl := Int.tmod_lt_of_pos n (b := 256) (by decide)
  have hg : -256 < n.tmod 256 := Int.lt_tmod_of_pos n (by decide)
  have hr : Bv.wrp 2 n = (n + 128) % 256 - 128 := by simp [Bv.wrp]
  have H : Hid ((0 ≤ n.tmod 256 → n.tmod 256 = n % 256) ∧ (n.tmod 256 < 0 → n.tmod 256 + 256 = n % 256) ∧ Bv.wrp 2 n = (n + 128) % 256 - 128) := ⟨hp, hn, hr⟩
  clear hp hn hr
  go_enter Tryz.func56, Tryz.ntmps56
  go_wp2_with (first | (go_at_call 40; refine (rwidth_any _ _).mono ?_; rintro e w' ⟨rfl, rfl⟩) | (go_at_call 70; refine (rsigned_any _ _).mono ?_; rintro e w' ⟨rfl, rfl⟩) | (go_at_call 69; refine (rpower8 _).mono ?_; rintro e w' ⟨rfl, rfl⟩))
  all_goals go_ret
  all_goals refine ⟨ret_int ?_, rfl⟩
  all_goals (obtain ⟨hp, hn, hr⟩ := H.out; rw [hr]; clear H; omega)

set_option maxHeartbeats 400000 in
theorem rwrap_3 (n : Int) (w : World) :
    Calls Tryz.prog 56 #[.int .i64 3, .int .i64 n] w fun e w' => e = .returned (.int .i64 (Bv.wrp 3 n)) ∧ w' = w := by
  have hw : Bv.wid 3 = 16 := rfl
  have hp := wrap_pos n 65536 (by decide)
  have hn := wrap_neg n 65536 (by decide)
  have hl := Int.tmod_lt_of_pos n (b := 65536) (by decide)
  have hg : -65536 < n.tmod 65536 := Int.lt_tmod_of_pos n (by decide)
  have hr : Bv.wrp 3 n = (n + 32768) % 65536 - 32768 := by simp [Bv.wrp]
  have H : Hid ((0 ≤ n.tmod 65536 → n.tmod 65536 = n % 65536) ∧ (n.tmod 65536 < 0 → n.tmod 65536 + 65536 = n % 65536) ∧ Bv.wrp 3 n = (n + 32768) % 65536 - 32768) := ⟨hp, hn, hr⟩
  clear hp hn hr
  go_enter Tryz.func56, Tryz.ntmps56
  go_wp2_with (first | (go_at_call 40; refine (rwidth_any _ _).mono ?_; rintro e w' ⟨rfl, rfl⟩) | (go_at_call 70; refine (rsigned_any _ _).mono ?_; rintro e w' ⟨rfl, rfl⟩) | (go_at_call 69; refine (rpower16 _).mono ?_; rintro e w' ⟨rfl, rfl⟩))
  all_goals go_ret
  all_goals refine ⟨ret_int ?_, rfl⟩
  all_goals (obtain ⟨hp, hn, hr⟩ := H.out; rw [hr]; clear H; omega)

set_option maxHeartbeats 400000 in
theorem rwrap_4 (n : Int) (w : World) :
    Calls Tryz.prog 56 #[.int .i64 4, .int .i64 n] w fun e w' => e = .returned (.int .i64 (Bv.wrp 4 n)) ∧ w' = w := by
  have hw : Bv.wid 4 = 32 := rfl
  have hp := wrap_pos n 4294967296 (by decide)
  have hn := wrap_neg n 4294967296 (by decide)
  have hl := Int.tmod_lt_of_pos n (b := 4294967296) (by decide)
  have hg : -4294967296 < n.tmod 4294967296 := Int.lt_tmod_of_pos n (by decide)
  have hr : Bv.wrp 4 n = (n + 2147483648) % 4294967296 - 2147483648 := by simp [Bv.wrp]
  have H : Hid ((0 ≤ n.tmod 4294967296 → n.tmod 4294967296 = n % 4294967296) ∧ (n.tmod 4294967296 < 0 → n.tmod 4294967296 + 4294967296 = n % 4294967296) ∧ Bv.wrp 4 n = (n + 2147483648) % 4294967296 - 2147483648) := ⟨hp, hn, hr⟩
  clear hp hn hr
  go_enter Tryz.func56, Tryz.ntmps56
  go_wp2_with (first | (go_at_call 40; refine (rwidth_any _ _).mono ?_; rintro e w' ⟨rfl, rfl⟩) | (go_at_call 70; refine (rsigned_any _ _).mono ?_; rintro e w' ⟨rfl, rfl⟩) | (go_at_call 69; refine (rpower32 _).mono ?_; rintro e w' ⟨rfl, rfl⟩))
  all_goals go_ret
  all_goals refine ⟨ret_int ?_, rfl⟩
  all_goals (obtain ⟨hp, hn, hr⟩ := H.out; rw [hr]; clear H; omega)

set_option maxHeartbeats 400000 in
theorem rwrap_6 (n : Int) (w : World) :
    Calls Tryz.prog 56 #[.int .i64 6, .int .i64 n] w fun e w' => e = .returned (.int .i64 (Bv.wrp 6 n)) ∧ w' = w := by
  have hw : Bv.wid 6 = 8 := rfl
  have hp := wrap_pos n 256 (by decide)
  have hn := wrap_neg n 256 (by decide)
  have hl := Int.tmod_lt_of_pos n (b := 256) (by decide)
  have hg : -256 < n.tmod 256 := Int.lt_tmod_of_pos n (by decide)
  have hr : Bv.wrp 6 n = n % 256 := by simp [Bv.wrp]
  have H : Hid ((0 ≤ n.tmod 256 → n.tmod 256 = n % 256) ∧ (n.tmod 256 < 0 → n.tmod 256 + 256 = n % 256) ∧ Bv.wrp 6 n = n % 256) := ⟨hp, hn, hr⟩
  clear hp hn hr
  go_enter Tryz.func56, Tryz.ntmps56
  go_wp2_with (first | (go_at_call 40; refine (rwidth_any _ _).mono ?_; rintro e w' ⟨rfl, rfl⟩) | (go_at_call 70; refine (rsigned_any _ _).mono ?_; rintro e w' ⟨rfl, rfl⟩) | (go_at_call 69; refine (rpower8 _).mono ?_; rintro e w' ⟨rfl, rfl⟩))
  all_goals go_ret
  all_goals refine ⟨ret_int ?_, rfl⟩
  all_goals (obtain ⟨hp, hn, hr⟩ := H.out; rw [hr]; clear H; omega)

set_option maxHeartbeats 400000 in
theorem rwrap_7 (n : Int) (w : World) :
    Calls Tryz.prog 56 #[.int .i64 7, .int .i64 n] w fun e w' => e = .returned (.int .i64 (Bv.wrp 7 n)) ∧ w' = w := by
  have hw : Bv.wid 7 = 16 := rfl
  have hp := wrap_pos n 65536 (by decide)
  have hn := wrap_neg n 65536 (by decide)
  have hl := Int.tmod_lt_of_pos n (b := 65536) (by decide)
  have hg : -65536 < n.tmod 65536 := Int.lt_tmod_of_pos n (by decide)
  have hr : Bv.wrp 7 n = n % 65536 := by simp [Bv.wrp]
  have H : Hid ((0 ≤ n.tmod 65536 → n.tmod 65536 = n % 65536) ∧ (n.tmod 65536 < 0 → n.tmod 65536 + 65536 = n % 65536) ∧ Bv.wrp 7 n = n % 65536) := ⟨hp, hn, hr⟩
  clear hp hn hr
  go_enter Tryz.func56, Tryz.ntmps56
  go_wp2_with (first | (go_at_call 40; refine (rwidth_any _ _).mono ?_; rintro e w' ⟨rfl, rfl⟩) | (go_at_call 70; refine (rsigned_any _ _).mono ?_; rintro e w' ⟨rfl, rfl⟩) | (go_at_call 69; refine (rpower16 _).mono ?_; rintro e w' ⟨rfl, rfl⟩))
  all_goals go_ret
  all_goals refine ⟨ret_int ?_, rfl⟩
  all_goals (obtain ⟨hp, hn, hr⟩ := H.out; rw [hr]; clear H; omega)

set_option maxHeartbeats 400000 in
theorem rwrap_8 (n : Int) (w : World) :
    Calls Tryz.prog 56 #[.int .i64 8, .int .i64 n] w fun e w' => e = .returned (.int .i64 (Bv.wrp 8 n)) ∧ w' = w := by
  have hw : Bv.wid 8 = 32 := rfl
  have hp := wrap_pos n 4294967296 (by decide)
  have hn := wrap_neg n 4294967296 (by decide)
  have hl := Int.tmod_lt_of_pos n (b := 4294967296) (by decide)
  have hg : -4294967296 < n.tmod 4294967296 := Int.lt_tmod_of_pos n (by decide)
  have hr : Bv.wrp 8 n = n % 4294967296 := by simp [Bv.wrp]
  have H : Hid ((0 ≤ n.tmod 4294967296 → n.tmod 4294967296 = n % 4294967296) ∧ (n.tmod 4294967296 < 0 → n.tmod 4294967296 + 4294967296 = n % 4294967296) ∧ Bv.wrp 8 n = n % 4294967296) := ⟨hp, hn, hr⟩
  clear hp hn hr
  go_enter Tryz.func56, Tryz.ntmps56
  go_wp2_with (first | (go_at_call 40; refine (rwidth_any _ _).mono ?_; rintro e w' ⟨rfl, rfl⟩) | (go_at_call 70; refine (rsigned_any _ _).mono ?_; rintro e w' ⟨rfl, rfl⟩) | (go_at_call 69; refine (rpower32 _).mono ?_; rintro e w' ⟨rfl, rfl⟩))
  all_goals go_ret
  all_goals refine ⟨ret_int ?_, rfl⟩
  all_goals (obtain ⟨hp, hn, hr⟩ := H.out; rw [hr]; clear H; omega)

set_option maxHeartbeats 400000 in
theorem rwrap_64 (k n : Int) (hk : k = 5 ∨ k = 9) (w : World) :
    Calls Tryz.prog 56 #[.int .i64 k, .int .i64 n] w fun e w' => e = .returned (.int .i64 (Bv.wrp k n)) ∧ w' = w := by
  have hr : Bv.wrp k n = n := by rcases hk with rfl | rfl <;> simp [Bv.wrp]
  rw [hr]
  have hw : Bv.wid k = 64 := by simp [Bv.wid, hk]
  clear hr hk
  go_enter Tryz.func56, Tryz.ntmps56
  go_wp2_with (first | (go_at_call 40; refine (rwidth_any _ _).mono ?_; rintro e w' ⟨rfl, rfl⟩))
  all_goals go_ret
  all_goals exact ⟨rfl, rfl⟩

set_option maxHeartbeats 400000 in
theorem rwrap_none (k n : Int) (hk : k < 1 ∨ 9 < k) (w : World) :
    Calls Tryz.prog 56 #[.int .i64 k, .int .i64 n] w fun e w' => e = .returned (.int .i64 (Bv.wrp k n)) ∧ w' = w := by
  have hr : Bv.wrp k n = 0 := by unfold Bv.wrp; repeat (rw [if_neg (by omega)])
  rw [hr]
  have hw : Bv.wid k = 0 := by unfold Bv.wid; repeat (rw [if_neg (by omega)])
  clear hr hk
  go_enter Tryz.func56, Tryz.ntmps56
  go_wp2_with (first | (go_at_call 40; refine (rwidth_any _ _).mono ?_; rintro e w' ⟨rfl, rfl⟩))
  all_goals go_ret
  all_goals exact ⟨rfl, rfl⟩

theorem rwrap_any (k n : Int) (w : World) :
    Calls Tryz.prog 56 #[.int .i64 k, .int .i64 n] w fun e w' => e = .returned (.int .i64 (Bv.wrp k n)) ∧ w' = w := by
  by_cases hout : k < 1 ∨ 9 < k
  · exact rwrap_none k n hout w
  · have hc : k = 1 ∨ k = 2 ∨ k = 3 ∨ k = 4 ∨ (k = 5 ∨ k = 9) ∨ k = 6 ∨ k = 7 ∨ k = 8 := by omega
    rcases hc with h | h | h | h | h | h | h | h
    · subst h; exact rwrap_1 n w
    · subst h; exact rwrap_2 n w
    · subst h; exact rwrap_3 n w
    · subst h; exact rwrap_4 n w
    · exact rwrap_64 k n h w
    · subst h; exact rwrap_6 n w
    · subst h; exact rwrap_7 n w
    · subst h; exact rwrap_8 n w

set_option maxHeartbeats 400000 in
theorem ris_any (k n : Int) (w : World) :
    Calls Tryz.prog 41 #[.int .i64 k, .int .i64 n] w fun e w' => e = .returned (.bool (Bv.isv k n)) ∧ w' = w := by
  by_cases hk : 0 < Bv.wid k
  · go_enter Tryz.func41, Tryz.ntmps41
    go_wp2_with (first | (go_at_call 40; refine (rwidth_any _ _).mono ?_; rintro e w' ⟨rfl, rfl⟩) | (go_at_call 56; refine (rwrap_any _ _ _).mono ?_; rintro e w' ⟨rfl, rfl⟩))
    all_goals go_ret
    all_goals exact ⟨ret_bool (by simp [Bv.isv, hk]), rfl⟩
  · go_enter Tryz.func41, Tryz.ntmps41
    go_wp2_with (first | (go_at_call 40; refine (rwidth_any _ _).mono ?_; rintro e w' ⟨rfl, rfl⟩) | (go_at_call 56; refine (rwrap_any _ _ _).mono ?_; rintro e w' ⟨rfl, rfl⟩))
    all_goals go_ret
    all_goals exact ⟨ret_bool (by have h : ¬ 0 < Bv.wid k := by omega
                                  simp [Bv.isv, h]), rfl⟩

end Go.Proofs.YtfbhflpjhbemlaaGreat

/- Plain laws of wrapped values (no program in sight): wrapping again changes nothing; a wrapped number is a value of its kind; what Bin tells of values. -/
namespace Go.Proofs.YtfbhflpjhbemlaaGreat.Bv
open Go.RowKit

theorem i64_of_wf {n : Int} (h : (Lit.int .i64 n).wf = true) : I64 n := by
  simp only [Lit.wf, IntKind.min, IntKind.max, IntKind.signed, IntKind.bits, Bool.and_eq_true, decide_eq_true_eq, if_true] at h
  unfold I64
  omega

theorem kinds (k : Int) (h1 : 1 ≤ k) (h2 : k ≤ 9) : k = 1 ∨ k = 2 ∨ k = 3 ∨ k = 4 ∨ k = 5 ∨ k = 6 ∨ k = 7 ∨ k = 8 ∨ k = 9 := by omega

theorem wrp_none (k n : Int) (h : ¬ (1 ≤ k ∧ k ≤ 9)) : wrp k n = 0 := by
  unfold wrp
  repeat (rw [if_neg (by omega)])

theorem wrp1 (n : Int) : wrp 1 n = n % 2 := by simp [wrp]
theorem wrp2 (n : Int) : wrp 2 n = (n + 128) % 256 - 128 := by simp [wrp]
theorem wrp3 (n : Int) : wrp 3 n = (n + 32768) % 65536 - 32768 := by simp [wrp]
theorem wrp4 (n : Int) : wrp 4 n = (n + 2147483648) % 4294967296 - 2147483648 := by simp [wrp]
theorem wrp5 (n : Int) : wrp 5 n = n := by simp [wrp]
theorem wrp6 (n : Int) : wrp 6 n = n % 256 := by simp [wrp]
theorem wrp7 (n : Int) : wrp 7 n = n % 65536 := by simp [wrp]
theorem wrp8 (n : Int) : wrp 8 n = n % 4294967296 := by simp [wrp]
theorem wrp9 (n : Int) : wrp 9 n = n := by simp [wrp]

theorem wrp_idem (k n : Int) : wrp k (wrp k n) = wrp k n := by
  by_cases h : 1 ≤ k ∧ k ≤ 9
  · rcases kinds k h.1 h.2 with rfl | rfl | rfl | rfl | rfl | rfl | rfl | rfl | rfl
    all_goals simp only [wrp1, wrp2, wrp3, wrp4, wrp5, wrp6, wrp7, wrp8, wrp9]
    all_goals omega
  · rw [wrp_none k _ h, wrp_none k _ h]

theorem wrp_i64 (k n : Int) (h : I64 n) : I64 (wrp k n) := by
  unfold I64 at *
  by_cases hk : 1 ≤ k ∧ k ≤ 9
  · rcases kinds k hk.1 hk.2 with rfl | rfl | rfl | rfl | rfl | rfl | rfl | rfl | rfl
    all_goals simp only [wrp1, wrp2, wrp3, wrp4, wrp5, wrp6, wrp7, wrp8, wrp9]
    all_goals omega
  · rw [wrp_none k _ hk]; omega

theorem isv_wrp (k n : Int) : isv k (wrp k n) = decide (1 ≤ k ∧ k ≤ 9) := by
  unfold isv
  rw [wrp_idem, wid_pos]
  simp

theorem wid_pos' {k : Int} (h : 1 ≤ k ∧ k ≤ 9) : 0 < wid k := by
  have := wid_pos k
  simp only [h, decide_true, and_self] at this
  simpa using this

theorem wid_pos_iff (k : Int) : 0 < wid k ↔ 1 ≤ k ∧ k ≤ 9 := by
  exact decide_eq_decide.1 (wid_pos k)

theorem allv_wrp2 (k a b : Int) : allv k [wrp k a, wrp k b] = decide (1 ≤ k ∧ k ≤ 9) := by
  simp [allv, isv_wrp]
theorem allv_wrp1 (k a : Int) : allv k [wrp k a] = decide (1 ≤ k ∧ k ≤ 9) := by
  simp [allv, isv_wrp]

/-- whether Bin knows an operation hangs on the operation and the kind alone, once both are wrapped -/
theorem binB_wrp (op k a b : Int) : binB op k (wrp k a) (wrp k b) = (tks (ofB op) k && decide (1 ≤ k ∧ k ≤ 9)) := by
  unfold binB
  rw [allv_wrp2]

theorem toK_pos {op k : Int} (h : 1 ≤ k ∧ k ≤ 9) : 1 ≤ toK op k ∧ toK op k ≤ 9 := by
  unfold toK
  split <;> omega

theorem isv_bin {op k a b : Int} (h : binB op k a b = true) : isv (binK op k a b) (binN op k a b) = true := by
  have hk : 1 ≤ k ∧ k ≤ 9 := by
    have h' := h
    unfold binB allv isv at h'
    simp only [List.all_cons, Bool.and_eq_true, decide_eq_true_eq] at h'
    exact (wid_pos_iff k).1 h'.2.1.1
  have e1 : binK op k a b = toK op k := by simp [binK, h]
  have e2 : binN op k a b = wrp (toK op k) (vop op k a b) := by simp [binN, h]
  rw [e1, e2, isv_wrp]
  simpa using toK_pos (op := op) hk
end Go.Proofs.YtfbhflpjhbemlaaGreat.Bv

/- Plain laws of sums, products and quotients of wrapped values (no program in sight). -/
namespace Go.Proofs.YtfbhflpjhbemlaaGreat.Bv
open Go.RowKit

/-- the value of the kind that is congruent to x: of all numbers, also those of more than 64 bits -/
def W (k x : Int) : Int := wrp k (wrap64 x)

/-- 2 to the width of the kind -/
def M (k : Int) : Int := if k = 1 then 2 else if k = 2 ∨ k = 6 then 256 else if k = 3 ∨ k = 7 then 65536 else if k = 4 ∨ k = 8 then 4294967296 else 18446744073709551616

theorem W_cong (k x : Int) (h1 : 1 ≤ k) (h2 : k ≤ 9) : ∃ t, W k x = x + t * M k := by
  have h : M k ∣ W k x - x := by
    rcases kinds k h1 h2 with rfl | rfl | rfl | rfl | rfl | rfl | rfl | rfl | rfl
    all_goals simp only [W, wrp1, wrp2, wrp3, wrp4, wrp5, wrp6, wrp7, wrp8, wrp9, M, wrap64]
    all_goals simp
    all_goals omega
  obtain ⟨t, ht⟩ := h
  exact ⟨t, by rw [Int.mul_comm]; omega⟩

theorem W_add_mul (k x t : Int) (h1 : 1 ≤ k) (h2 : k ≤ 9) : W k (x + t * M k) = W k x := by
  rcases kinds k h1 h2 with rfl | rfl | rfl | rfl | rfl | rfl | rfl | rfl | rfl
  all_goals simp only [W, wrp1, wrp2, wrp3, wrp4, wrp5, wrp6, wrp7, wrp8, wrp9, M, wrap64]
  all_goals simp
  all_goals omega

theorem W_of {k x y t : Int} (h1 : 1 ≤ k) (h2 : k ≤ 9) (h : x = y + t * M k) : W k x = W k y := by
  rw [h, W_add_mul k y t h1 h2]

theorem W_add_left (k x y : Int) (h1 : 1 ≤ k) (h2 : k ≤ 9) : W k (W k x + y) = W k (x + y) := by
  obtain ⟨t, ht⟩ := W_cong k x h1 h2
  refine W_of (t := t) h1 h2 ?_
  rw [ht]; omega
theorem W_add_right (k x y : Int) (h1 : 1 ≤ k) (h2 : k ≤ 9) : W k (x + W k y) = W k (x + y) := by
  rw [Int.add_comm, W_add_left k y x h1 h2, Int.add_comm]
theorem W_sub_left (k x y : Int) (h1 : 1 ≤ k) (h2 : k ≤ 9) : W k (W k x - y) = W k (x - y) := by
  obtain ⟨t, ht⟩ := W_cong k x h1 h2
  refine W_of (t := t) h1 h2 ?_
  rw [ht]; omega
theorem W_mul_left (k x y : Int) (h1 : 1 ≤ k) (h2 : k ≤ 9) : W k (W k x * y) = W k (x * y) := by
  obtain ⟨t, ht⟩ := W_cong k x h1 h2
  refine W_of (t := t * y) h1 h2 ?_
  rw [ht, Int.add_mul, Int.mul_assoc, Int.mul_comm (M k) y, ← Int.mul_assoc]
theorem W_mul_right (k x y : Int) (h1 : 1 ≤ k) (h2 : k ≤ 9) : W k (x * W k y) = W k (x * y) := by
  rw [Int.mul_comm, W_mul_left k y x h1 h2, Int.mul_comm]
theorem W_neg (k x : Int) (h1 : 1 ≤ k) (h2 : k ≤ 9) : W k (-(W k x)) = W k (-x) := by
  obtain ⟨t, ht⟩ := W_cong k x h1 h2
  refine W_of (t := -t) h1 h2 ?_
  rw [ht, Int.neg_mul]; omega

theorem wrap64_i64 (x : Int) (h : I64 x) : wrap64 x = x := by unfold I64 at h; unfold wrap64; omega
theorem i64_wrap64 (x : Int) : I64 (wrap64 x) := by unfold I64 wrap64; omega

/-- a value of the kind: wrapped, and of 64 bits -/
def Val (k a : Int) : Prop := wrp k a = a ∧ I64 a

theorem val_wrp (k n : Int) (h : I64 n) : Val k (wrp k n) := ⟨wrp_idem k n, wrp_i64 k n h⟩
theorem W_val {k a : Int} (h : Val k a) : W k a = a := by unfold W; rw [wrap64_i64 a h.2, h.1]
theorem val_W (k x : Int) : Val k (W k x) := val_wrp k _ (i64_wrap64 x)
theorem W_wrp (k n : Int) (h : I64 n) : W k n = wrp k n := by unfold W; rw [wrap64_i64 n h]

theorem isv_val {k a : Int} (h1 : 1 ≤ k) (h2 : k ≤ 9) (h : Val k a) : isv k a = true := by
  unfold isv
  rw [wid_pos, h.1]
  simp [h1, h2]

theorem tks_num (o k : Int) (ho : o = 2 ∨ o = 3) (h1 : 2 ≤ k) (h2 : k ≤ 9) : tks o k = true := by
  have hw : 0 < wid k := wid_pos' ⟨by omega, h2⟩
  have hk : (k != 1) = true := by rw [bne_iff_ne]; omega
  unfold tks
  rcases ho with rfl | rfl
  · simp [hk, hw]
  · simp [hw]

theorem ofB_num (op : Int) (h1 : 3 ≤ op) (h2 : op ≤ 19) (h3 : op ≠ 11) : ofB op = 2 ∨ ofB op = 3 := by
  unfold ofB
  rw [if_neg h3]
  split
  · exact Or.inr rfl
  · rw [if_pos ⟨h1, h2⟩]; exact Or.inl rfl

/-- what Bin tells of two values of a kind of numbers -/
theorem bin_num (op k a b : Int) (h1 : 2 ≤ k) (h2 : k ≤ 9) (o1 : 3 ≤ op) (o2 : op ≤ 19) (o3 : op ≠ 11) (ha : Val k a) (hb : Val k b) :
    binB op k a b = true ∧ binK op k a b = toK op k ∧ binN op k a b = wrp (toK op k) (vop op k a b) := by
  have e : binB op k a b = true := by
    unfold binB allv
    rw [tks_num _ _ (ofB_num op o1 o2 o3) h1 h2]
    simp [isv_val (by omega) h2 ha, isv_val (by omega) h2 hb]
  exact ⟨e, by simp [binK, e], by simp [binN, e]⟩

theorem vop3 (k a b : Int) : vop 3 k a b = wrap64 (a + b) := by simp [vop]
theorem vop4 (k a b : Int) : vop 4 k a b = wrap64 (a - b) := by simp [vop]
theorem vop5 (k a b : Int) : vop 5 k a b = wrap64 (a * b) := by simp [vop]
theorem vop6 (k a b : Int) : vop 6 k a b = vdiv k a b := by simp [vop]
theorem vop7 (k a b : Int) : vop 7 k a b = vmod k a b := by simp [vop]
theorem vop8 (k a b : Int) : vop 8 k a b = bits .and .i64 a b := by simp [vop]
theorem vop9 (k a b : Int) : vop 9 k a b = bits .or .i64 a b := by simp [vop]
theorem vop10 (k a b : Int) : vop 10 k a b = bits .xor .i64 a b := by simp [vop]
theorem vop12 (k a b : Int) : vop 12 k a b = vshl a b := by simp [vop]
theorem vop13 (k a b : Int) : vop 13 k a b = vshr k a b := by simp [vop]
theorem vop14 (k a b : Int) : vop 14 k a b = one (a == b) := by simp [vop]
theorem vop15 (k a b : Int) : vop 15 k a b = one (a != b) := by simp [vop]
theorem vop16 (k a b : Int) : vop 16 k a b = one (lss k a b) := by simp [vop]
theorem vop17 (k a b : Int) : vop 17 k a b = one (!lss k b a) := by simp [vop]
theorem vop18 (k a b : Int) : vop 18 k a b = one (lss k b a) := by simp [vop]
theorem vop19 (k a b : Int) : vop 19 k a b = one (!lss k a b) := by simp [vop]

theorem toK_small (op k : Int) (h : op < 14) : toK op k = k := by
  have : ¬ 14 ≤ op := by omega
  simp [toK, tsB, this]
theorem toK_test (op k : Int) (h : 14 ≤ op) : toK op k = 1 := by simp [toK, tsB, h]
theorem wrp_one (t : Bool) : wrp 1 (one t) = one t := by cases t <;> rfl

theorem nAdd {k a b : Int} (h1 : 2 ≤ k) (h2 : k ≤ 9) (ha : Val k a) (hb : Val k b) : binN 3 k a b = W k (a + b) := by
  rw [(bin_num 3 k a b h1 h2 (by omega) (by omega) (by omega) ha hb).2.2, toK_small _ _ (by omega), vop3]; rfl
theorem nSub {k a b : Int} (h1 : 2 ≤ k) (h2 : k ≤ 9) (ha : Val k a) (hb : Val k b) : binN 4 k a b = W k (a - b) := by
  rw [(bin_num 4 k a b h1 h2 (by omega) (by omega) (by omega) ha hb).2.2, toK_small _ _ (by omega), vop4]; rfl
theorem nMul {k a b : Int} (h1 : 2 ≤ k) (h2 : k ≤ 9) (ha : Val k a) (hb : Val k b) : binN 5 k a b = W k (a * b) := by
  rw [(bin_num 5 k a b h1 h2 (by omega) (by omega) (by omega) ha hb).2.2, toK_small _ _ (by omega), vop5]; rfl
theorem nDiv {k a b : Int} (h1 : 2 ≤ k) (h2 : k ≤ 9) (ha : Val k a) (hb : Val k b) : binN 6 k a b = wrp k (vdiv k a b) := by
  rw [(bin_num 6 k a b h1 h2 (by omega) (by omega) (by omega) ha hb).2.2, toK_small _ _ (by omega), vop6]
theorem nMod {k a b : Int} (h1 : 2 ≤ k) (h2 : k ≤ 9) (ha : Val k a) (hb : Val k b) : binN 7 k a b = wrp k (vmod k a b) := by
  rw [(bin_num 7 k a b h1 h2 (by omega) (by omega) (by omega) ha hb).2.2, toK_small _ _ (by omega), vop7]
theorem nEq {k a b : Int} (h1 : 2 ≤ k) (h2 : k ≤ 9) (ha : Val k a) (hb : Val k b) : binN 14 k a b = one (a == b) := by
  rw [(bin_num 14 k a b h1 h2 (by omega) (by omega) (by omega) ha hb).2.2, toK_test _ _ (by omega), vop14, wrp_one]
theorem nNe {k a b : Int} (h1 : 2 ≤ k) (h2 : k ≤ 9) (ha : Val k a) (hb : Val k b) : binN 15 k a b = one (a != b) := by
  rw [(bin_num 15 k a b h1 h2 (by omega) (by omega) (by omega) ha hb).2.2, toK_test _ _ (by omega), vop15, wrp_one]
theorem nLt {k a b : Int} (h1 : 2 ≤ k) (h2 : k ≤ 9) (ha : Val k a) (hb : Val k b) : binN 16 k a b = one (lss k a b) := by
  rw [(bin_num 16 k a b h1 h2 (by omega) (by omega) (by omega) ha hb).2.2, toK_test _ _ (by omega), vop16, wrp_one]
theorem nLe {k a b : Int} (h1 : 2 ≤ k) (h2 : k ≤ 9) (ha : Val k a) (hb : Val k b) : binN 17 k a b = one (!lss k b a) := by
  rw [(bin_num 17 k a b h1 h2 (by omega) (by omega) (by omega) ha hb).2.2, toK_test _ _ (by omega), vop17, wrp_one]
theorem nGt {k a b : Int} (h1 : 2 ≤ k) (h2 : k ≤ 9) (ha : Val k a) (hb : Val k b) : binN 18 k a b = one (lss k b a) := by
  rw [(bin_num 18 k a b h1 h2 (by omega) (by omega) (by omega) ha hb).2.2, toK_test _ _ (by omega), vop18, wrp_one]
theorem nGe {k a b : Int} (h1 : 2 ≤ k) (h2 : k ≤ 9) (ha : Val k a) (hb : Val k b) : binN 19 k a b = one (!lss k a b) := by
  rw [(bin_num 19 k a b h1 h2 (by omega) (by omega) (by omega) ha hb).2.2, toK_test _ _ (by omega), vop19, wrp_one]
theorem nOk {k a b : Int} (h1 : 2 ≤ k) (h2 : k ≤ 9) (ha : Val k a) (hb : Val k b) (op : Int) (o1 : 3 ≤ op) (o2 : op ≤ 19) (o3 : op ≠ 11) : binB op k a b = true := (bin_num op k a b h1 h2 o1 o2 o3 ha hb).1
end Go.Proofs.YtfbhflpjhbemlaaGreat.Bv

/- Plain laws of quotients and rests, and of the order, of values of a kind (no program in sight). -/
namespace Go.Proofs.YtfbhflpjhbemlaaGreat.Bv
open Go.RowKit

/-- the range of the values of a kind with a sign -/
theorem val_lo {k a : Int} (h1 : 2 ≤ k) (h2 : k ≤ 5) (h : Val k a) : ∃ m, 0 < m ∧ M k = 2 * m ∧ -m ≤ a ∧ a < m ∧ m ≤ 9223372036854775808 := by
  obtain ⟨h, h64⟩ := h
  unfold I64 at h64
  have hc : k = 2 ∨ k = 3 ∨ k = 4 ∨ k = 5 := by omega
  rcases hc with rfl | rfl | rfl | rfl
  · rw [wrp2] at h; exact ⟨128, by decide, by decide, by omega, by omega, by decide⟩
  · rw [wrp3] at h; exact ⟨32768, by decide, by decide, by omega, by omega, by decide⟩
  · rw [wrp4] at h; exact ⟨2147483648, by decide, by decide, by omega, by omega, by decide⟩
  · exact ⟨9223372036854775808, by decide, by decide, by omega, by omega, by decide⟩

theorem val_of_lo {k a m : Int} (h1 : 2 ≤ k) (h2 : k ≤ 5) (hm : M k = 2 * m) (ha : -m ≤ a) (hb : a < m) : Val k a := by
  have hc : k = 2 ∨ k = 3 ∨ k = 4 ∨ k = 5 := by omega
  unfold Val I64
  rcases hc with rfl | rfl | rfl | rfl
  · have : M 2 = 256 := by decide
    rw [wrp2]; omega
  · have : M 3 = 65536 := by decide
    rw [wrp3]; omega
  · have : M 4 = 4294967296 := by decide
    rw [wrp4]; omega
  · have : M 5 = 18446744073709551616 := by decide
    rw [wrp5]; omega

/-- a value of a kind without a sign, as a number -/
def U (a : Int) : Int := IntKind.u64.wrap a

theorem U_eq (a : Int) : U a = a % 18446744073709551616 := wrap_u64 a

/-- of a kind without a sign the number lies below 2 to the width; and is congruent to the value -/
theorem val_u {k a : Int} (h1 : 6 ≤ k) (h2 : k ≤ 9) (h : Val k a) : 0 ≤ U a ∧ U a < M k ∧ W k (U a) = a ∧ M k ≤ 18446744073709551616 := by
  obtain ⟨h, h64⟩ := h
  rw [U_eq]
  unfold I64 at h64
  have hc : k = 6 ∨ k = 7 ∨ k = 8 ∨ k = 9 := by omega
  unfold W wrap64
  rcases hc with rfl | rfl | rfl | rfl
  · have : M 6 = 256 := by decide
    rw [wrp6] at h ⊢; omega
  · have : M 7 = 65536 := by decide
    rw [wrp7] at h ⊢; omega
  · have : M 8 = 4294967296 := by decide
    rw [wrp8] at h ⊢; omega
  · have : M 9 = 18446744073709551616 := by decide
    rw [wrp9]; omega

theorem U_W {k x : Int} (h1 : 6 ≤ k) (h2 : k ≤ 9) (h3 : 0 ≤ x) (h4 : x < M k) : U (W k x) = x := by
  rw [U_eq]
  unfold W wrap64
  have hc : k = 6 ∨ k = 7 ∨ k = 8 ∨ k = 9 := by omega
  rcases hc with rfl | rfl | rfl | rfl
  · have : M 6 = 256 := by decide
    rw [wrp6]; omega
  · have : M 7 = 65536 := by decide
    rw [wrp7]; omega
  · have : M 8 = 4294967296 := by decide
    rw [wrp8]; omega
  · have : M 9 = 18446744073709551616 := by decide
    rw [wrp9]; omega

theorem U_zero {k b : Int} (h : Val k b) : U b = 0 ↔ b = 0 := by
  rw [U_eq]
  have := h.2
  unfold I64 at this
  omega

/-- quotient and rest of a kind with a sign -/
theorem div_s {k a b : Int} (h1 : 2 ≤ k) (h2 : k ≤ 5) (ha : Val k a) (hb : Val k b) (h0 : ¬ b = 0) :
    wrp k (vdiv k a b) = W k (a.tdiv b) ∧ wrp k (vmod k a b) = a.tmod b ∧ Val k (a.tmod b) ∧ (0 < b → -b < a.tmod b ∧ a.tmod b < b) ∧ (b < 0 → b < a.tmod b ∧ a.tmod b < -b) := by
  have hk : ¬ 6 ≤ k := by omega
  have e1 : vdiv k a b = wrap64 (a.tdiv b) := by simp [vdiv, h0, hk]
  have e2 : vmod k a b = a.tmod b := by simp [vmod, h0, hk]
  obtain ⟨m, hm, hM, l1, l2, l3⟩ := val_lo h1 h2 ha
  obtain ⟨m', hm', hM', l1', l2', l3'⟩ := val_lo h1 h2 hb
  have hmm : m' = m := by omega
  subst hmm
  have pos : 0 < b → -b < a.tmod b ∧ a.tmod b < b := fun h => ⟨Int.lt_tmod_of_pos a h, Int.tmod_lt_of_pos a h⟩
  have neg : b < 0 → b < a.tmod b ∧ a.tmod b < -b := fun h => by
    have p := Int.lt_tmod_of_pos a (b := -b) (by omega)
    have q := Int.tmod_lt_of_pos a (b := -b) (by omega)
    rw [Int.tmod_neg] at p q
    exact ⟨by omega, q⟩
  have hv : Val k (a.tmod b) := by
    refine val_of_lo h1 h2 hM ?_ ?_
    · rcases (by omega : 0 < b ∨ b < 0) with h | h
      · have := pos h; omega
      · have := neg h; omega
    · rcases (by omega : 0 < b ∨ b < 0) with h | h
      · have := pos h; omega
      · have := neg h; omega
  refine ⟨by rw [e1]; rfl, by rw [e2]; exact hv.1, hv, pos, neg⟩

/-- quotient and rest of a kind without a sign -/
theorem div_u {k a b : Int} (h1 : 6 ≤ k) (h2 : k ≤ 9) (ha : Val k a) (hb : Val k b) (h0 : ¬ b = 0) :
    wrp k (vdiv k a b) = W k (U a / U b) ∧ wrp k (vmod k a b) = W k (U a % U b) ∧ 0 < U b ∧ U (W k (U a % U b)) = U a % U b ∧ U a % U b < U b := by
  obtain ⟨a1, a2, a3, a4⟩ := val_u h1 h2 ha
  obtain ⟨b1, b2, b3, b4⟩ := val_u h1 h2 hb
  have hz : ¬ U b = 0 := fun h => h0 ((U_zero hb).1 h)
  have hp : 0 < U b := by omega
  have td : (U a).tdiv (U b) = U a / U b := Int.tdiv_eq_ediv_of_nonneg a1
  have tm : (U a).tmod (U b) = U a % U b := Int.tmod_eq_emod_of_nonneg a1
  have q1 : 0 ≤ U a / U b := Int.ediv_nonneg a1 b1
  have q2 : U a / U b ≤ U a := Int.ediv_le_self (U b) a1
  have r1 : 0 ≤ U a % U b := Int.emod_nonneg _ hz
  have r2 : U a % U b < U b := Int.emod_lt_of_pos _ hp
  have e1 : vdiv k a b = wrap64 (U (U a / U b)) := by
    show (if b = 0 then 0 else if 6 ≤ k then wrap64 (U ((U a).tdiv (U b))) else wrap64 (a.tdiv b)) = _
    rw [if_neg h0, if_pos h1, td]
  have e2 : vmod k a b = wrap64 (U a % U b) := by
    show (if b = 0 then 0 else if 6 ≤ k then wrap64 ((U a).tmod (U b)) else a.tmod b) = _
    rw [if_neg h0, if_pos h1, tm]
  have e3 : U (U a / U b) = U a / U b := by
    rw [U_eq (U a / U b)]
    exact Int.emod_eq_of_lt q1 (by omega)
  refine ⟨by rw [e1, e3]; rfl, by rw [e2]; rfl, hp, U_W h1 h2 r1 (by omega), r2⟩

theorem lss_s {k : Int} (h : k ≤ 5) (a b : Int) : lss k a b = decide (a < b) := by
  have : ¬ 6 ≤ k := by omega
  simp [lss, this]
theorem lss_u {k : Int} (h : 6 ≤ k) (a b : Int) : lss k a b = decide (U a < U b) := by
  unfold lss U
  rw [if_pos h]

/-- the quotient times the divisor, and the rest, is the number again -/
theorem back_s {k a b : Int} (h1 : 2 ≤ k) (h2 : k ≤ 5) (ha : Val k a) : W k (W k (W k (a.tdiv b) * b) + a.tmod b) = a := by
  rw [W_mul_left k _ b (by omega) (by omega), W_add_left k _ _ (by omega) (by omega)]
  have : a.tdiv b * b + a.tmod b = a := by rw [Int.mul_comm]; exact Int.mul_tdiv_add_tmod a b
  rw [this, W_val ha]

theorem back_u {k a b : Int} (h1 : 6 ≤ k) (h2 : k ≤ 9) (ha : Val k a) (hb : Val k b) : W k (W k (W k (U a / U b) * b) + W k (U a % U b)) = a := by
  obtain ⟨_, _, a3, _⟩ := val_u h1 h2 ha
  obtain ⟨_, _, b3, _⟩ := val_u h1 h2 hb
  have e : W k (W k (U a / U b) * b) = W k (U a / U b * U b) := by
    rw [W_mul_left k _ b (by omega) (by omega)]
    generalize U a / U b = q
    generalize U b = u at b3
    rw [← b3, W_mul_right k _ _ (by omega) (by omega)]
  rw [e, W_add_left k _ _ (by omega) (by omega), W_add_right k _ _ (by omega) (by omega)]
  have : U a / U b * U b + U a % U b = U a := by rw [Int.mul_comm]; exact Int.mul_ediv_add_emod (U a) (U b)
  rw [this, a3]

theorem val_binN {op k a b : Int} (h1 : 2 ≤ k) (h2 : k ≤ 9) (o1 : 3 ≤ op) (o2 : op ≤ 7) (ha : Val k a) (hb : Val k b) : Val k (binN op k a b) := by
  rw [(bin_num op k a b h1 h2 o1 (by omega) (by omega) ha hb).2.2, toK_small _ _ (by omega)]
  refine val_wrp k _ ?_
  have hc : op = 3 ∨ op = 4 ∨ op = 5 ∨ op = 6 ∨ op = 7 := by omega
  rcases hc with rfl | rfl | rfl | rfl | rfl
  · rw [vop3]; exact i64_wrap64 _
  · rw [vop4]; exact i64_wrap64 _
  · rw [vop5]; exact i64_wrap64 _
  · rw [vop6]; unfold vdiv
    split
    · unfold I64; omega
    · split <;> exact i64_wrap64 _
  · rw [vop7]; unfold vmod
    split
    · unfold I64; omega
    · split
      · exact i64_wrap64 _
      · have hk5 : k ≤ 5 := by omega
        exact (div_s h1 hk5 ha hb (by assumption)).2.2.1.2

theorem div_zero (k a : Int) (h1 : 2 ≤ k) (h2 : k ≤ 9) (ha : Val k a) (hb : Val k 0) : binN 6 k a 0 = 0 ∧ binN 7 k a 0 = 0 := by
  rw [nDiv h1 h2 ha hb, nMod h1 h2 ha hb]
  have e : wrp k 0 = 0 := by
    rcases kinds k (by omega) h2 with rfl | rfl | rfl | rfl | rfl | rfl | rfl | rfl | rfl <;> rfl
  simp [vdiv, vmod, e]

theorem divides (k a b : Int) (h1 : 2 ≤ k) (h2 : k ≤ 9) (ha : Val k a) (hb : Val k b) (h0 : ¬ b = 0) :
    binN 3 k (binN 5 k (binN 6 k a b) b) (binN 7 k a b) = a ∧ (6 ≤ k → binN 16 k (binN 7 k a b) b = 1) ∧
      (k ≤ 5 → 0 < b → -b < binN 7 k a b ∧ binN 7 k a b < b) ∧ (k ≤ 5 → b < 0 → b < binN 7 k a b ∧ binN 7 k a b < -b) := by
  have vq := val_binN h1 h2 (op := 6) (by omega) (by omega) ha hb
  have vr := val_binN h1 h2 (op := 7) (by omega) (by omega) ha hb
  have vp := val_binN h1 h2 (op := 5) (by omega) (by omega) vq hb
  rw [nAdd h1 h2 vp vr, nMul h1 h2 vq hb]
  rw [nDiv h1 h2 ha hb] at vq ⊢
  rw [nMod h1 h2 ha hb] at vr ⊢
  by_cases hs : k ≤ 5
  · obtain ⟨d1, d2, d3, d4, d5⟩ := div_s h1 hs ha hb h0
    rw [d1, d2]
    exact ⟨back_s h1 hs ha, fun h => absurd h (by omega), fun _ h => d4 h, fun _ h => d5 h⟩
  · obtain ⟨d1, d2, d3, d4, d5⟩ := div_u (by omega) h2 ha hb h0
    rw [d1, d2]
    refine ⟨back_u (by omega) h2 ha hb, fun h => ?_, fun h => absurd h hs, fun h => absurd h hs⟩
    rw [d2] at vr
    rw [nLt h1 h2 vr hb, lss_u h, d4]
    simp [d5, one]
end Go.Proofs.YtfbhflpjhbemlaaGreat.Bv

/- Plain laws of the signs, the order and the casts of values of a kind (no program in sight). -/
namespace Go.Proofs.YtfbhflpjhbemlaaGreat.Bv
open Go.RowKit

theorem ofU_two (k : Int) (h1 : 2 ≤ k) (h2 : k ≤ 9) : tks (ofU 2) k = true := tks_num 2 k (Or.inl rfl) h1 h2
theorem tks3 (k : Int) (h1 : 1 ≤ k) (h2 : k ≤ 9) : tks 3 k = true := by
  have hw : 0 < wid k := wid_pos' ⟨h1, h2⟩
  simp [tks, hw]
theorem unB2 {k a : Int} (h1 : 2 ≤ k) (h2 : k ≤ 9) (ha : Val k a) : unB 2 k a = true := by
  unfold unB allv
  rw [ofU_two k h1 h2]
  simp [isv_val (by omega) h2 ha]
theorem unN2 {k a : Int} (h1 : 2 ≤ k) (h2 : k ≤ 9) (ha : Val k a) : unN 2 k a = W k (-a) := by
  unfold unN
  rw [unB2 h1 h2 ha]
  rfl
theorem unB1 {k a : Int} (h1 : 1 ≤ k) (h2 : k ≤ 9) (ha : Val k a) : unB 1 k a = true := by
  unfold unB allv
  have : tks (ofU 1) k = true := tks3 k h1 h2
  rw [this]
  simp [isv_val h1 h2 ha]
theorem unN1 {k a : Int} (h1 : 1 ≤ k) (h2 : k ≤ 9) (ha : Val k a) : unN 1 k a = wrp k (bits .xor .i64 (-1) a) := by
  unfold unN
  rw [unB1 h1 h2 ha]
  rfl

theorem val_zero (k : Int) (h1 : 1 ≤ k) (h2 : k ≤ 9) : Val k 0 := by
  refine ⟨?_, by unfold I64; omega⟩
  rcases kinds k h1 h2 with rfl | rfl | rfl | rfl | rfl | rfl | rfl | rfl | rfl <;> rfl
theorem val_one (k : Int) (h1 : 1 ≤ k) (h2 : k ≤ 9) : Val k 1 := by
  refine ⟨?_, by unfold I64; omega⟩
  rcases kinds k h1 h2 with rfl | rfl | rfl | rfl | rfl | rfl | rfl | rfl | rfl <;> rfl

theorem neg_neg {k a : Int} (h1 : 2 ≤ k) (h2 : k ≤ 9) (ha : Val k a) : W k (-(W k (-a))) = a := by
  rw [W_neg k _ (by omega) h2, Int.neg_neg, W_val ha]
theorem add_neg {k a : Int} (h1 : 2 ≤ k) (h2 : k ≤ 9) : W k (a + W k (-a)) = 0 := by
  rw [W_add_right k _ _ (by omega) h2, Int.add_right_neg, W_val (val_zero k (by omega) h2)]

/-- a value's place in the row of values -/
def pl (k a : Int) : Int := if 6 ≤ k then U a else a
theorem lss_pl (k a b : Int) : lss k a b = decide (pl k a < pl k b) := by
  unfold lss pl U
  split <;> rfl

/-- from which number on, and up to which, the places go; and what the next one is -/
theorem pl_next {k : Int} (h1 : 2 ≤ k) (h2 : k ≤ 9) : ∃ lo hi : Int, lo < hi ∧ (∀ a, Val k a → lo ≤ pl k a ∧ pl k a ≤ hi) ∧ (∀ a, Val k a → pl k a < hi → pl k (W k (a + 1)) = pl k a + 1) ∧ (∀ a, Val k a → pl k a = hi → pl k (W k (a + 1)) = lo) ∧
    (∀ a b, Val k a → Val k b → pl k a = pl k b → a = b) := by
  have hc : k = 2 ∨ k = 3 ∨ k = 4 ∨ k = 5 ∨ k = 6 ∨ k = 7 ∨ k = 8 ∨ k = 9 := by omega
  unfold pl Val I64 W wrap64
  simp only [U_eq]
  rcases hc with rfl | rfl | rfl | rfl | rfl | rfl | rfl | rfl
  · refine ⟨-128, 127, by omega, ?_, ?_, ?_, ?_⟩ <;> simp only [wrp2] <;> intros <;> omega
  · refine ⟨-32768, 32767, by omega, ?_, ?_, ?_, ?_⟩ <;> simp only [wrp3] <;> intros <;> omega
  · refine ⟨-2147483648, 2147483647, by omega, ?_, ?_, ?_, ?_⟩ <;> simp only [wrp4] <;> intros <;> omega
  · refine ⟨-9223372036854775808, 9223372036854775807, by omega, ?_, ?_, ?_, ?_⟩ <;> simp only [wrp5] <;> intros <;> omega
  · refine ⟨0, 255, by omega, ?_, ?_, ?_, ?_⟩ <;> simp only [wrp6] <;> intros <;> omega
  · refine ⟨0, 65535, by omega, ?_, ?_, ?_, ?_⟩ <;> simp only [wrp7] <;> intros <;> omega
  · refine ⟨0, 4294967295, by omega, ?_, ?_, ?_, ?_⟩ <;> simp only [wrp8] <;> intros <;> omega
  · refine ⟨0, 18446744073709551615, by omega, ?_, ?_, ?_, ?_⟩ <;> simp only [wrp9] <;> intros <;> omega

theorem one_true {b : Bool} (h : b = true) : one b = 1 := by rw [h]; rfl
theorem one_false {b : Bool} (h : b = false) : one b = 0 := by rw [h]; rfl

/-- of a and b one is below, or they are the same -/
theorem three_ways {k a b : Int} (h1 : 2 ≤ k) (h2 : k ≤ 9) (ha : Val k a) (hb : Val k b) : one (lss k a b) + one (lss k b a) + one (a == b) = 1 := by
  obtain ⟨lo, hi, _, _, _, _, inj⟩ := pl_next h1 h2
  rw [lss_pl, lss_pl]
  rcases (by omega : pl k a < pl k b ∨ pl k b < pl k a ∨ pl k a = pl k b) with h | h | h
  · have e : (a == b) = false := by rw [beq_eq_false_iff_ne]; intro e; rw [e] at h; omega
    have n : ¬ pl k b < pl k a := by omega
    simp [one, h, n, e]
  · have e : (a == b) = false := by rw [beq_eq_false_iff_ne]; intro e; rw [e] at h; omega
    have n : ¬ pl k a < pl k b := by omega
    simp [one, h, n, e]
  · have e := inj a b ha hb h
    subst e
    simp [one]

/-- a value that goes to a wider kind, and back, is the same -/
theorem back_wide {f t a : Int} (f1 : 2 ≤ f) (f2 : f ≤ 9) (t1 : 2 ≤ t) (t2 : t ≤ 9) (hw : wid f ≤ wid t) (h : Val f a) : wrp f (wrp t a) = a := by
  obtain ⟨h, h64⟩ := h
  unfold I64 at h64
  have hf : f = 2 ∨ f = 3 ∨ f = 4 ∨ f = 5 ∨ f = 6 ∨ f = 7 ∨ f = 8 ∨ f = 9 := by omega
  have ht : t = 2 ∨ t = 3 ∨ t = 4 ∨ t = 5 ∨ t = 6 ∨ t = 7 ∨ t = 8 ∨ t = 9 := by omega
  rcases hf with rfl | rfl | rfl | rfl | rfl | rfl | rfl | rfl
  all_goals rcases ht with rfl | rfl | rfl | rfl | rfl | rfl | rfl | rfl
  all_goals first | (exfalso; revert hw; decide) | (simp only [wrp2, wrp3, wrp4, wrp5, wrp6, wrp7, wrp8, wrp9] at h ⊢; done) | (simp only [wrp2, wrp3, wrp4, wrp5, wrp6, wrp7, wrp8, wrp9] at h ⊢; omega)

theorem back_bool {t a : Int} (t1 : 2 ≤ t) (t2 : t ≤ 9) (h : Val 1 a) : wrp 1 (one (wrp t a != 0)) = a := by
  obtain ⟨h, _⟩ := h
  rw [wrp1] at h
  have ht : t = 2 ∨ t = 3 ∨ t = 4 ∨ t = 5 ∨ t = 6 ∨ t = 7 ∨ t = 8 ∨ t = 9 := by omega
  rcases (by omega : a = 0 ∨ a = 1) with rfl | rfl
  all_goals rcases ht with rfl | rfl | rfl | rfl | rfl | rfl | rfl | rfl
  all_goals rfl

/-- Cast there and back -/
theorem cast_back {f t a : Int} (i : I64 a) (o1 : casB f t (wrp f a) = true) (o2 : casB t f (casN f t (wrp f a)) = true) (hw : wid f ≤ wid t) (ht : ¬ t = 1) : casN t f (casN f t (wrp f a)) = wrp f a := by
  have hf : 1 ≤ f ∧ f ≤ 9 := by
    have := o2
    unfold casB at this
    simp only [Bool.and_eq_true, decide_eq_true_eq] at this
    exact (wid_pos_iff f).1 this.1
  have htt : 1 ≤ t ∧ t ≤ 9 := by
    have := o1
    unfold casB at this
    simp only [Bool.and_eq_true, decide_eq_true_eq] at this
    exact (wid_pos_iff t).1 this.1
  have hv := val_wrp f a i
  generalize wrp f a = A at *
  have e1 : casN f t A = wrp t A := by unfold casN; rw [o1]; simp [ht]
  rw [e1] at o2 ⊢
  unfold casN
  rw [o2]
  by_cases h1 : f = 1
  · subst h1
    exact back_bool (by omega) htt.2 hv
  · simp only [h1, if_false, if_true]
    exact back_wide (by omega) hf.2 (by omega) htt.2 hw hv
end Go.Proofs.YtfbhflpjhbemlaaGreat.Bv

/- Plain laws of the bits of values of a kind (no program in sight): and, or, exclusive-or and the opposite go bit by bit. -/
namespace Go.Proofs.YtfbhflpjhbemlaaGreat.Bv
open Go.RowKit

/-- the width as a count -/
def wn (k : Int) : Nat := if k = 1 then 1 else if k = 2 ∨ k = 6 then 8 else if k = 3 ∨ k = 7 then 16 else if k = 4 ∨ k = 8 then 32 else 64

theorem wn_le (k : Int) : wn k ≤ 64 := by
  unfold wn
  repeat' split
  all_goals decide

/-- the lower bits of a number, as a number without a sign -/
def low (w : Nat) (x : Int) : Nat := (x % ((2 ^ w : Nat) : Int)).toNat

theorem low_lt (w : Nat) (x : Int) : low w x < 2 ^ w := by
  unfold low
  have h : 0 < 2 ^ w := Nat.two_pow_pos w
  generalize 2 ^ w = m at *
  have h1 := Int.emod_nonneg x (b := (m : Int)) (by omega)
  have h2 := Int.emod_lt_of_pos x (b := (m : Int)) (by omega)
  omega

theorem low_mod (w : Nat) (hw : w ≤ 64) (x : Int) : low 64 x % 2 ^ w = low w x := by
  unfold low
  have hd : ((2 ^ w : Nat) : Int) ∣ ((2 ^ 64 : Nat) : Int) := by exact_mod_cast Nat.pow_dvd_pow 2 hw
  have h0 : (0 : Int) ≤ x % ((2 ^ 64 : Nat) : Int) := Int.emod_nonneg x (by decide)
  have h := Int.emod_emod_of_dvd x hd
  rw [← h]
  generalize x % ((2 ^ 64 : Nat) : Int) = y at *
  obtain ⟨n, rfl⟩ := Int.eq_ofNat_of_zero_le h0
  rw [← Int.natCast_emod, Int.toNat_natCast, Int.toNat_natCast]

theorem low_wrap (w : Nat) (hw : w ≤ 64) (n : Nat) : low w (IntKind.i64.wrap (n : Int)) = n % 2 ^ w := by
  have e : low 64 (IntKind.i64.wrap (n : Int)) = n % 2 ^ 64 := by
    unfold low
    rw [IntKind.wrap_i64]
    omega
  rw [← low_mod w hw, e, Nat.mod_mod_of_dvd _ (Nat.pow_dvd_pow 2 hw)]

theorem toNat64 (x : Int) : (BitVec.ofInt 64 x).toNat = low 64 x := by
  rw [BitVec.toNat_ofInt]
  rfl

theorem low_and (w : Nat) (hw : w ≤ 64) (x y : Int) : low w (bits .and .i64 x y) = low w x &&& low w y := by
  show low w (IntKind.i64.wrap ((BitVec.ofInt 64 x &&& BitVec.ofInt 64 y).toNat : Int)) = _
  rw [low_wrap w hw, BitVec.toNat_and, toNat64, toNat64, Nat.and_mod_two_pow, low_mod w hw, low_mod w hw]
theorem low_or (w : Nat) (hw : w ≤ 64) (x y : Int) : low w (bits .or .i64 x y) = low w x ||| low w y := by
  show low w (IntKind.i64.wrap ((BitVec.ofInt 64 x ||| BitVec.ofInt 64 y).toNat : Int)) = _
  rw [low_wrap w hw, BitVec.toNat_or, toNat64, toNat64, Nat.or_mod_two_pow, low_mod w hw, low_mod w hw]
theorem low_xor (w : Nat) (hw : w ≤ 64) (x y : Int) : low w (bits .xor .i64 x y) = low w x ^^^ low w y := by
  show low w (IntKind.i64.wrap ((BitVec.ofInt 64 x ^^^ BitVec.ofInt 64 y).toNat : Int)) = _
  rw [low_wrap w hw, BitVec.toNat_xor, toNat64, toNat64, Nat.xor_mod_two_pow, low_mod w hw, low_mod w hw]

theorem low_m1 (w : Nat) : low w (-1) = 2 ^ w - 1 := by
  unfold low
  have h : 0 < 2 ^ w := Nat.two_pow_pos w
  generalize 2 ^ w = m at *
  have e : (-1 : Int) % (m : Int) = (m : Int) - 1 := by
    have h1 : (-1 : Int) = (m : Int) - 1 + (m : Int) * (-1) := by omega
    rw [h1, Int.add_mul_emod_self_left, Int.emod_eq_of_lt (by omega) (by omega)]
  rw [e]; omega

/-- of a value the lower bits tell all -/
theorem low_inj {k a b : Int} (h1 : 1 ≤ k) (h2 : k ≤ 9) (ha : Val k a) (hb : Val k b) (h : low (wn k) a = low (wn k) b) : a = b := by
  obtain ⟨ha, ia⟩ := ha
  obtain ⟨hb, ib⟩ := hb
  unfold I64 at ia ib
  unfold low at h
  rcases kinds k h1 h2 with rfl | rfl | rfl | rfl | rfl | rfl | rfl | rfl | rfl
  · rw [wrp1] at ha hb; have e : wn 1 = 1 := rfl; rw [e] at h; omega
  · rw [wrp2] at ha hb; have e : wn 2 = 8 := rfl; rw [e] at h; omega
  · rw [wrp3] at ha hb; have e : wn 3 = 16 := rfl; rw [e] at h; omega
  · rw [wrp4] at ha hb; have e : wn 4 = 32 := rfl; rw [e] at h; omega
  · have e : wn 5 = 64 := rfl; rw [e] at h; omega
  · rw [wrp6] at ha hb; have e : wn 6 = 8 := rfl; rw [e] at h; omega
  · rw [wrp7] at ha hb; have e : wn 7 = 16 := rfl; rw [e] at h; omega
  · rw [wrp8] at ha hb; have e : wn 8 = 32 := rfl; rw [e] at h; omega
  · have e : wn 9 = 64 := rfl; rw [e] at h; omega

/-- wrapping leaves the lower bits -/
theorem low_wrp {k n : Int} (h1 : 1 ≤ k) (h2 : k ≤ 9) : low (wn k) (wrp k n) = low (wn k) n := by
  unfold low
  rcases kinds k h1 h2 with rfl | rfl | rfl | rfl | rfl | rfl | rfl | rfl | rfl
  · rw [wrp1]; have e : wn 1 = 1 := rfl; rw [e]; omega
  · rw [wrp2]; have e : wn 2 = 8 := rfl; rw [e]; omega
  · rw [wrp3]; have e : wn 3 = 16 := rfl; rw [e]; omega
  · rw [wrp4]; have e : wn 4 = 32 := rfl; rw [e]; omega
  · rw [wrp5]
  · rw [wrp6]; have e : wn 6 = 8 := rfl; rw [e]; omega
  · rw [wrp7]; have e : wn 7 = 16 := rfl; rw [e]; omega
  · rw [wrp8]; have e : wn 8 = 32 := rfl; rw [e]; omega
  · rw [wrp9]

theorem i64_bits (op : BinOp) (x y : Int) : I64 (bits op .i64 x y) := ⟨bits_lo_i64 op x y, bits_hi_i64 op x y⟩

theorem bin_bits {op k a b : Int} (h1 : 1 ≤ k) (h2 : k ≤ 9) (o : op = 8 ∨ op = 9 ∨ op = 10) (ha : Val k a) (hb : Val k b) : binN op k a b = wrp k (vop op k a b) := by
  have hof : ofB op = 3 := by rcases o with rfl | rfl | rfl <;> rfl
  have e : binB op k a b = true := by
    unfold binB allv
    rw [hof, tks3 k h1 h2]
    simp [isv_val h1 h2 ha, isv_val h1 h2 hb]
  unfold binN
  rw [e, toK_small op k (by omega)]
  rfl

theorem nAnd {k a b : Int} (h1 : 1 ≤ k) (h2 : k ≤ 9) (ha : Val k a) (hb : Val k b) : Val k (binN 8 k a b) ∧ low (wn k) (binN 8 k a b) = low (wn k) a &&& low (wn k) b := by
  rw [bin_bits h1 h2 (by omega) ha hb, vop8]
  exact ⟨val_wrp k _ (i64_bits _ _ _), by rw [low_wrp h1 h2, low_and _ (wn_le k)]⟩
theorem nOr {k a b : Int} (h1 : 1 ≤ k) (h2 : k ≤ 9) (ha : Val k a) (hb : Val k b) : Val k (binN 9 k a b) ∧ low (wn k) (binN 9 k a b) = low (wn k) a ||| low (wn k) b := by
  rw [bin_bits h1 h2 (by omega) ha hb, vop9]
  exact ⟨val_wrp k _ (i64_bits _ _ _), by rw [low_wrp h1 h2, low_or _ (wn_le k)]⟩
theorem nXor {k a b : Int} (h1 : 1 ≤ k) (h2 : k ≤ 9) (ha : Val k a) (hb : Val k b) : Val k (binN 10 k a b) ∧ low (wn k) (binN 10 k a b) = low (wn k) a ^^^ low (wn k) b := by
  rw [bin_bits h1 h2 (by omega) ha hb, vop10]
  exact ⟨val_wrp k _ (i64_bits _ _ _), by rw [low_wrp h1 h2, low_xor _ (wn_le k)]⟩
theorem nNot {k a : Int} (h1 : 1 ≤ k) (h2 : k ≤ 9) (ha : Val k a) : Val k (unN 1 k a) ∧ low (wn k) (unN 1 k a) = (2 ^ wn k - 1) ^^^ low (wn k) a := by
  rw [unN1 h1 h2 ha]
  exact ⟨val_wrp k _ (i64_bits _ _ _), by rw [low_wrp h1 h2, low_xor _ (wn_le k), low_m1]⟩

/-- bits, one by one -/
theorem bit_lt {w x i : Nat} (hx : x < 2 ^ w) (h : x.testBit i = true) : i < w := by
  by_cases hi : i < w
  · exact hi
  · have := Nat.testBit_lt_two_pow (Nat.lt_of_lt_of_le hx (Nat.pow_le_pow_right (by decide) (Nat.le_of_not_lt hi)))
    rw [this] at h
    cases h

theorem and_or_self (x y : Nat) : x &&& (x ||| y) = x := by
  apply Nat.eq_of_testBit_eq
  intro i
  rw [Nat.testBit_and, Nat.testBit_or]
  cases x.testBit i <;> cases y.testBit i <;> rfl
theorem xor_not (w x : Nat) : x ^^^ ((2 ^ w - 1) ^^^ x) = 2 ^ w - 1 := by
  apply Nat.eq_of_testBit_eq
  intro i
  rw [Nat.testBit_xor, Nat.testBit_xor, Nat.testBit_two_pow_sub_one]
  cases x.testBit i <;> cases decide (i < w) <;> rfl
theorem and_not {w x : Nat} (hx : x < 2 ^ w) : x &&& ((2 ^ w - 1) ^^^ x) = 0 := by
  apply Nat.eq_of_testBit_eq
  intro i
  rw [Nat.testBit_and, Nat.testBit_xor, Nat.testBit_two_pow_sub_one, Nat.zero_testBit]
  cases h : x.testBit i
  · rfl
  · have := bit_lt hx h
    simp [this]
theorem or_not {w x : Nat} (hx : x < 2 ^ w) : x ||| ((2 ^ w - 1) ^^^ x) = 2 ^ w - 1 := by
  apply Nat.eq_of_testBit_eq
  intro i
  rw [Nat.testBit_or, Nat.testBit_xor, Nat.testBit_two_pow_sub_one]
  cases h : x.testBit i
  · simp
  · have := bit_lt hx h
    simp [this]
theorem morgan {w x y : Nat} (hx : x < 2 ^ w) (hy : y < 2 ^ w) : (2 ^ w - 1) ^^^ (x &&& y) = ((2 ^ w - 1) ^^^ x) ||| ((2 ^ w - 1) ^^^ y) := by
  apply Nat.eq_of_testBit_eq
  intro i
  simp only [Nat.testBit_xor, Nat.testBit_and, Nat.testBit_or, Nat.testBit_two_pow_sub_one]
  by_cases hi : i < w
  · simp [hi]
  · have hx' : x.testBit i = false := by
      cases h : x.testBit i
      · rfl
      · exact absurd (bit_lt hx h) hi
    have hy' : y.testBit i = false := by
      cases h : y.testBit i
      · rfl
      · exact absurd (bit_lt hy h) hi
    simp [hi, hx', hy']
theorem xor_as {w x y : Nat} (hx : x < 2 ^ w) (hy : y < 2 ^ w) : x ^^^ y = (x ||| y) &&& ((2 ^ w - 1) ^^^ (x &&& y)) := by
  apply Nat.eq_of_testBit_eq
  intro i
  simp only [Nat.testBit_xor, Nat.testBit_and, Nat.testBit_or, Nat.testBit_two_pow_sub_one]
  by_cases hi : i < w
  · simp [hi]
    cases x.testBit i <;> cases y.testBit i <;> rfl
  · have hx' : x.testBit i = false := by
      cases h : x.testBit i
      · rfl
      · exact absurd (bit_lt hx h) hi
    have hy' : y.testBit i = false := by
      cases h : y.testBit i
      · rfl
      · exact absurd (bit_lt hy h) hi
    simp [hx', hy']
theorem and_or_dist (x y z : Nat) : x &&& (y ||| z) = (x &&& y) ||| (x &&& z) := by
  apply Nat.eq_of_testBit_eq
  intro i
  simp only [Nat.testBit_and, Nat.testBit_or]
  cases x.testBit i <;> cases y.testBit i <;> cases z.testBit i <;> rfl
theorem xor_xor (x y : Nat) : (x ^^^ y) ^^^ y = x := by
  apply Nat.eq_of_testBit_eq
  intro i
  simp only [Nat.testBit_xor]
  cases x.testBit i <;> cases y.testBit i <;> rfl
end Go.Proofs.YtfbhflpjhbemlaaGreat.Bv

/- Plain laws of numbers that are made of bits (no program in sight). -/
namespace Go.Proofs.YtfbhflpjhbemlaaGreat.Bv
open Go.RowKit

/-- the number with these w bits -/
def ofb (f : Nat → Bool) : Nat → Nat
  | 0 => 0
  | w + 1 => ofb f w + (if f w then 2 ^ w else 0)

theorem ofb_lt (f : Nat → Bool) (w : Nat) : ofb f w < 2 ^ w := by
  induction w with
  | zero => simp [ofb]
  | succ w ih =>
    simp only [ofb]
    have : 2 ^ (w + 1) = 2 ^ w + 2 ^ w := by rw [Nat.pow_succ]; omega
    split <;> omega

theorem ofb_bit (f : Nat → Bool) (w i : Nat) : (ofb f w).testBit i = (decide (i < w) && f i) := by
  induction w with
  | zero => simp [ofb]
  | succ w ih =>
    have hlt := ofb_lt f w
    simp only [ofb]
    by_cases hf : f w = true
    · rw [if_pos hf, Nat.add_comm]
      rcases (by omega : i < w ∨ i = w ∨ w < i) with h | h | h
      · rw [Nat.testBit_two_pow_add_gt h, ih]
        have : i < w + 1 := by omega
        simp [h, this]
      · subst h
        rw [Nat.testBit_two_pow_add_eq, ih]
        simp [hf]
      · have h1 : ¬ i < w + 1 := by omega
        have h2 : 2 ^ w + ofb f w < 2 ^ i := by
          have : 2 ^ (w + 1) ≤ 2 ^ i := Nat.pow_le_pow_right (by decide) (by omega)
          have e : 2 ^ (w + 1) = 2 ^ w + 2 ^ w := by rw [Nat.pow_succ]; omega
          omega
        rw [Nat.testBit_lt_two_pow h2]
        simp [h1]
    · rw [if_neg hf, Nat.add_zero, ih]
      have hf' : f w = false := by simpa using hf
      rcases (by omega : i < w ∨ i = w ∨ w < i) with h | h | h
      · have : i < w + 1 := by omega
        simp [h, this]
      · subst h
        simp [hf']
      · have h1 : ¬ i < w := by omega
        have h2 : ¬ i < w + 1 := by omega
        simp [h1, h2]

/-- bit i of a number of 64 bits -/
def bt (x : Int) (i : Nat) : Bool := (low 64 x).testBit i

theorem bt_div (x : Int) (i : Nat) (h : i ≤ 63) : x / 2 ^ i % 2 = one (bt x i) := by
  unfold bt low
  have hm : x % ((2 ^ 64 : Nat) : Int) = x - ((2 ^ 64 : Nat) : Int) * (x / ((2 ^ 64 : Nat) : Int)) := by
    have := Int.mul_ediv_add_emod x ((2 ^ 64 : Nat) : Int)
    omega
  have h0 : 0 ≤ x % ((2 ^ 64 : Nat) : Int) := Int.emod_nonneg x (by decide)
  generalize hq : x / ((2 ^ 64 : Nat) : Int) = q at hm
  obtain ⟨m, hmm⟩ := Int.eq_ofNat_of_zero_le h0
  rw [hmm, Int.toNat_natCast]
  have e1 : x = (m : Int) + ((2 ^ 64 : Nat) : Int) * q := by omega
  have e2 : ((2 ^ 64 : Nat) : Int) = 2 ^ i * (2 * 2 ^ (63 - i)) := by
    have : (64 : Nat) = i + (1 + (63 - i)) := by omega
    have h3 : ((2 ^ 64 : Nat) : Int) = (2 : Int) ^ (64 : Nat) := by simp
    rw [h3]
    conv => lhs; rw [this, Int.pow_add, Int.pow_add]
    simp
  have hp : (2 : Int) ^ i ≠ 0 := by
    have : (0 : Int) < 2 ^ i := Int.pow_pos (by decide)
    omega
  have e3 : x / 2 ^ i = (m : Int) / 2 ^ i + 2 * (2 ^ (63 - i) * q) := by
    rw [e1, e2, Int.mul_assoc, Int.mul_assoc, Int.add_mul_ediv_left _ _ hp]
  rw [e3, Int.add_mul_emod_self_left]
  have e4 : (m : Int) / 2 ^ i % 2 = ((m / 2 ^ i % 2 : Nat) : Int) := by simp
  rw [e4, Nat.testBit_eq_decide_div_mod_eq]
  rcases Nat.mod_two_eq_zero_or_one (m / 2 ^ i) with h | h <;> rw [h] <;> simp [one]

/-- the lower bits of a number are its bits -/
theorem low_bit (w : Nat) (hw : w ≤ 64) (x : Int) (i : Nat) : (low w x).testBit i = (decide (i < w) && bt x i) := by
  rw [← low_mod w hw, Nat.testBit_mod_two_pow]
  rfl

/-- bits as a list of noughts and ones -/
def lst (f : Nat → Bool) (w : Nat) : List Int := (List.range w).map fun i => one (f i)

theorem lst_len (f : Nat → Bool) (w : Nat) : (lst f w).length = w := by simp [lst]
theorem lst_succ (f : Nat → Bool) (w : Nat) : lst f (w + 1) = lst f w ++ [one (f w)] := by simp [lst, List.range_succ]
theorem lst_get (f : Nat → Bool) (w i : Nat) (h : i < w) : (lst f w)[i]? = some (one (f i)) := by simp [lst, h]
theorem lst_congr {f g : Nat → Bool} {w : Nat} (h : ∀ i, i < w → f i = g i) : lst f w = lst g w := by
  unfold lst
  apply List.map_congr_left
  intro i hi
  rw [h i (List.mem_range.1 hi)]

/-- the value of the kind with these bits -/
def val (k : Int) (f : Nat → Bool) : Int := W k (ofb f (wn k))

theorem low_W {k x : Int} (h1 : 1 ≤ k) (h2 : k ≤ 9) : low (wn k) (W k x) = low (wn k) x := by
  unfold W
  rw [low_wrp h1 h2]
  have h := wn_le k
  have e : low 64 (wrap64 x) = low 64 x := by unfold low wrap64; omega
  rw [← low_mod _ h, e, low_mod _ h]

theorem low_nat {w n : Nat} (h : n < 2 ^ w) : low w (n : Int) = n := by
  unfold low
  generalize 2 ^ w = m at *
  have : (n : Int) % (m : Int) = n := Int.emod_eq_of_lt (by omega) (by omega)
  rw [this]; omega

theorem low_val {k : Int} (h1 : 1 ≤ k) (h2 : k ≤ 9) (f : Nat → Bool) : low (wn k) (val k f) = ofb f (wn k) := by
  unfold val
  rw [low_W h1 h2, low_nat (ofb_lt f _)]

theorem val_val (k : Int) (f : Nat → Bool) : Val k (val k f) := val_W k _

/-- a value is the one with these bits, if its bits are these -/
theorem val_eq {k a : Int} {f : Nat → Bool} (h1 : 1 ≤ k) (h2 : k ≤ 9) (ha : Val k a) (h : ∀ i, i < wn k → (low (wn k) a).testBit i = f i) : val k f = a := by
  refine low_inj h1 h2 (val_val k f) ha ?_
  rw [low_val h1 h2]
  apply Nat.eq_of_testBit_eq
  intro i
  rw [ofb_bit]
  by_cases hi : i < wn k
  · simp [hi, h i hi]
  · simp [hi]
    have := low_lt (wn k) a
    cases hb : (low (wn k) a).testBit i
    · rfl
    · exact absurd (bit_lt this hb) hi
end Go.Proofs.YtfbhflpjhbemlaaGreat.Bv

/- Plain laws of the shifts of values of a kind (no program in sight). -/
namespace Go.Proofs.YtfbhflpjhbemlaaGreat.Bv
open Go.RowKit

theorem M_pow (k : Int) : M k = ((2 ^ wn k : Nat) : Int) := by
  unfold M wn
  repeat' split
  all_goals rfl

theorem wn_wid {k : Int} (h1 : 1 ≤ k) (h2 : k ≤ 9) : wid k = (wn k : Int) := by
  rcases kinds k h1 h2 with rfl | rfl | rfl | rfl | rfl | rfl | rfl | rfl | rfl <;> rfl

theorem pow_int (n : Nat) : (2 : Int) ^ n = ((2 ^ n : Nat) : Int) := by simp

/-- what is moved up by the width or more is nought -/
theorem W_far {k : Int} (h1 : 1 ≤ k) (h2 : k ≤ 9) (a : Int) (n : Nat) (h : wn k ≤ n) : W k (a * 2 ^ n) = 0 := by
  have e : a * 2 ^ n = 0 + (a * 2 ^ (n - wn k)) * M k := by
    rw [M_pow, ← pow_int, Int.mul_assoc, ← Int.pow_add, Nat.sub_add_cancel h, Int.zero_add]
  rw [W_of h1 h2 e, W_val (val_zero k h1 h2)]

theorem nShl {k a b : Int} (h1 : 2 ≤ k) (h2 : k ≤ 9) (ha : Val k a) (hb : Val k b) : binN 12 k a b = wrp k (vshl a b) := by
  rw [(bin_num 12 k a b h1 h2 (by omega) (by omega) (by omega) ha hb).2.2, toK_small _ _ (by omega), vop12]
theorem nShr {k a b : Int} (h1 : 2 ≤ k) (h2 : k ≤ 9) (ha : Val k a) (hb : Val k b) : binN 13 k a b = wrp k (vshr k a b) := by
  rw [(bin_num 13 k a b h1 h2 (by omega) (by omega) (by omega) ha hb).2.2, toK_small _ _ (by omega), vop13]

theorem i64_wrap (x : Int) : IntKind.i64.wrap x = wrap64 x := by rw [IntKind.wrap_i64]; first | rfl | (unfold wrap64; rfl) | (unfold wrap64; omega)

/-- the places that a small number tells -/
theorem places (n : Nat) (h : n ≤ 70) : min (IntKind.u64.wrap (n : Int)).toNat 64 = min n 64 := by
  rw [wrap_u64]
  have : ((n : Int) % 18446744073709551616).toNat = n := by omega
  rw [this]

/-- a moved down by i places -/
def sh (k a : Int) (i : Nat) : Int := if 6 ≤ k then W k (U a / ((2 ^ i : Nat) : Int)) else a / ((2 ^ i : Nat) : Int)

theorem val_small {k : Int} (h1 : 2 ≤ k) (h2 : k ≤ 9) (n : Nat) (h : n ≤ 70) : Val k n := by
  refine ⟨?_, by unfold I64; omega⟩
  rcases kinds k (by omega) h2 with rfl | rfl | rfl | rfl | rfl | rfl | rfl | rfl | rfl
  · omega
  · rw [wrp2]; omega
  · rw [wrp3]; omega
  · rw [wrp4]; omega
  · rw [wrp5]
  · rw [wrp6]; omega
  · rw [wrp7]; omega
  · rw [wrp8]; omega
  · rw [wrp9]

theorem div_pow_le (x : Int) (i : Nat) (m : Int) (hx : -m ≤ x) (hy : x < m) (hm : 0 < m) : -m ≤ x / ((2 ^ i : Nat) : Int) ∧ x / ((2 ^ i : Nat) : Int) < m := by
  have hp : 0 < 2 ^ i := Nat.two_pow_pos i
  generalize 2 ^ i = p at *
  have hp' : (0 : Int) < p := by omega
  constructor
  · rw [Int.le_ediv_iff_mul_le hp']
    have : m * 1 ≤ m * (p : Int) := Int.mul_le_mul_of_nonneg_left (by omega) (by omega)
    rw [Int.neg_mul]
    omega
  · rw [Int.ediv_lt_iff_lt_mul hp']
    have : m * 1 ≤ m * (p : Int) := Int.mul_le_mul_of_nonneg_left (by omega) (by omega)
    omega

theorem div_div_pow (x : Int) (i : Nat) : x / ((2 ^ i : Nat) : Int) / 2 = x / ((2 ^ (i + 1) : Nat) : Int) := by
  have hp : 0 < 2 ^ i := Nat.two_pow_pos i
  have e : ((2 ^ (i + 1) : Nat) : Int) = ((2 ^ i : Nat) : Int) * 2 := by rw [Nat.pow_succ]; simp
  rw [e]
  generalize 2 ^ i = p at *
  exact Int.ediv_ediv_of_nonneg (by omega)

/-- of a kind with a sign what is moved down is a value -/
theorem val_sh_s {k a : Int} (h1 : 2 ≤ k) (h2 : k ≤ 5) (ha : Val k a) (i : Nat) : Val k (a / ((2 ^ i : Nat) : Int)) := by
  obtain ⟨m, hm, hM, l1, l2, _⟩ := val_lo h1 h2 ha
  have := div_pow_le a i m l1 l2 hm
  exact val_of_lo h1 h2 hM this.1 this.2

theorem U_div {k a : Int} (h1 : 6 ≤ k) (h2 : k ≤ 9) (ha : Val k a) (i : Nat) : 0 ≤ U a / ((2 ^ i : Nat) : Int) ∧ U a / ((2 ^ i : Nat) : Int) < M k := by
  obtain ⟨a1, a2, _, _⟩ := val_u h1 h2 ha
  have hp : 0 < 2 ^ i := Nat.two_pow_pos i
  generalize 2 ^ i = p at *
  have := Int.ediv_le_self (p : Int) a1
  exact ⟨Int.ediv_nonneg a1 (by omega), by omega⟩

theorem val_sh {k a : Int} (h1 : 2 ≤ k) (h2 : k ≤ 9) (ha : Val k a) (i : Nat) : Val k (sh k a i) := by
  unfold sh
  split
  · exact val_W k _
  · exact val_sh_s h1 (by omega) ha i

theorem sh_zero {k a : Int} (h2 : k ≤ 9) (ha : Val k a) : sh k a 0 = a := by
  unfold sh
  split
  · have : U a / ((2 ^ 0 : Nat) : Int) = U a := by simp
    rw [this]
    exact (val_u (by omega) h2 ha).2.2.1
  · simp

/-- one place more -/
theorem sh_step {k a : Int} (h1 : 2 ≤ k) (h2 : k ≤ 9) (ha : Val k a) (i : Nat) : binN 13 k (sh k a i) 1 = sh k a (i + 1) := by
  have v1 := val_one k (by omega) h2
  have vs := val_sh h1 h2 ha i
  rw [nShr h1 h2 vs v1]
  have hp : min (IntKind.u64.wrap (1 : Int)).toNat 64 = 1 := places 1 (by omega)
  unfold vshr
  rw [hp]
  by_cases h6 : 6 ≤ k
  · rw [if_pos h6, i64_wrap]
    have hd := U_div h6 h2 ha i
    have e : sh k a i = W k (U a / ((2 ^ i : Nat) : Int)) := by unfold sh; rw [if_pos h6]
    have e2 : sh k a (i + 1) = W k (U a / ((2 ^ (i + 1) : Nat) : Int)) := by unfold sh; rw [if_pos h6]
    rw [e2, ← div_div_pow]
    show W k (U (sh k a i) / 2 ^ 1) = _
    rw [e, U_W h6 h2 hd.1 hd.2]
    rfl
  · rw [if_neg h6]
    have e : sh k a i = a / ((2 ^ i : Nat) : Int) := by unfold sh; rw [if_neg h6]
    have e2 : sh k a (i + 1) = a / ((2 ^ (i + 1) : Nat) : Int) := by unfold sh; rw [if_neg h6]
    have v2 := val_sh_s h1 (by omega) ha (i + 1)
    rw [e2, e, ← div_div_pow]
    rw [← div_div_pow] at v2
    exact v2.1

theorem dbl_step {k : Int} (h1 : 2 ≤ k) (h2 : k ≤ 9) (a : Int) (i : Nat) : binN 3 k (W k (a * 2 ^ i)) (W k (a * 2 ^ i)) = W k (a * 2 ^ (i + 1)) := by
  have v := val_W k (a * 2 ^ i)
  rw [nAdd h1 h2 v v, W_add_left k _ _ (by omega) h2, W_add_right k _ _ (by omega) h2]
  congr 1
  rw [Int.pow_succ, ← Int.mul_assoc]
  omega

theorem small_div {x p : Int} (h1 : 0 ≤ x) (h2 : x < p) : x / p = 0 := Int.ediv_eq_zero_of_lt h1 h2
theorem small_div_neg {x p : Int} (h1 : -p ≤ x) (h2 : x < 0) : x / p = -1 := by
  have hp : 0 < p := by omega
  have e : x = (x + p) + p * (-1) := by omega
  rw [e, Int.add_mul_ediv_left _ _ (by omega), Int.ediv_eq_zero_of_lt (by omega) (by omega)]
  rfl

/-- moved up by n places -/
theorem shl_n {k a : Int} (h1 : 2 ≤ k) (h2 : k ≤ 9) (ha : Val k a) (n : Nat) (hn : n ≤ 70) : binN 12 k a n = W k (a * 2 ^ n) := by
  rw [nShl h1 h2 ha (val_small h1 h2 n hn)]
  unfold vshl
  rw [places n hn, i64_wrap]
  show W k _ = _
  by_cases h : n ≤ 64
  · rw [Nat.min_eq_left h]
  · rw [Nat.min_eq_right (by omega), W_far (by omega) h2 a 64 (wn_le k), W_far (by omega) h2 a n (by have := wn_le k; omega)]

theorem pow_lt_pow {i n : Nat} (h : i ≤ n) : 2 ^ i ≤ 2 ^ n := Nat.pow_le_pow_right (by decide) h

/-- moved down by n places -/
theorem shr_n {k a : Int} (h1 : 2 ≤ k) (h2 : k ≤ 9) (ha : Val k a) (n : Nat) (hn : n ≤ 70) : binN 13 k a n = sh k a n := by
  rw [nShr h1 h2 ha (val_small h1 h2 n hn)]
  unfold vshr sh
  rw [places n hn]
  have hp : (2 : Int) ^ min n 64 = ((2 ^ min n 64 : Nat) : Int) := pow_int _
  rw [hp]
  by_cases h6 : 6 ≤ k
  · rw [if_pos h6, if_pos h6, i64_wrap]
    show W k (U a / _) = _
    by_cases h : n ≤ 64
    · rw [Nat.min_eq_left h]
    · obtain ⟨a1, a2, _, a4⟩ := val_u h6 h2 ha
      rw [Nat.min_eq_right (by omega)]
      have hq : 2 ^ 64 ≤ 2 ^ n := pow_lt_pow (by omega)
      have e64 : (2 : Nat) ^ 64 = 18446744073709551616 := by decide
      rw [small_div a1 (by rw [e64]; omega), small_div a1 (by rw [e64] at hq; generalize 2 ^ n = q at *; omega)]
  · rw [if_neg h6, if_neg h6]
    have v := val_sh_s h1 (by omega) ha (min n 64)
    rw [v.1]
    by_cases h : n ≤ 64
    · rw [Nat.min_eq_left h]
    · rw [Nat.min_eq_right (by omega)]
      have hq : 2 ^ 64 ≤ 2 ^ n := pow_lt_pow (by omega)
      have e64 : (2 : Nat) ^ 64 = 18446744073709551616 := by decide
      have i64 := ha.2
      unfold I64 at i64
      rw [e64] at hq ⊢
      generalize 2 ^ n = q at *
      by_cases hneg : a < 0
      · rw [small_div_neg (by omega) hneg, small_div_neg (by omega) hneg]
      · rw [small_div (by omega) (by omega), small_div (by omega) (by omega)]

/-- from the width on: nought, or the sign -/
theorem sh_far {k a : Int} (h1 : 2 ≤ k) (h2 : k ≤ 9) (ha : Val k a) (n : Nat) (h : wn k ≤ n) : sh k a n = if k ≤ 5 ∧ a < 0 then -1 else 0 := by
  have hq : 2 ^ wn k ≤ 2 ^ n := pow_lt_pow h
  have hM := M_pow k
  unfold sh
  by_cases h6 : 6 ≤ k
  · obtain ⟨a1, a2, _, _⟩ := val_u h6 h2 ha
    rw [if_pos h6, if_neg (by omega)]
    generalize 2 ^ n = q at *
    generalize 2 ^ wn k = p at *
    rw [small_div a1 (by omega), W_val (val_zero k (by omega) h2)]
  · obtain ⟨m, hm, hMm, l1, l2, _⟩ := val_lo h1 (by omega) ha
    rw [if_neg h6]
    generalize 2 ^ n = q at *
    generalize 2 ^ wn k = p at *
    by_cases hneg : a < 0
    · rw [if_pos ⟨by omega, hneg⟩, small_div_neg (by omega) hneg]
    · rw [if_neg (by omega), small_div (by omega) (by omega)]
end Go.Proofs.YtfbhflpjhbemlaaGreat.Bv

/- Plain laws of the shifts by bits (no program in sight): the bits that are moved are what the shifts tell. -/
namespace Go.Proofs.YtfbhflpjhbemlaaGreat.Bv
open Go.RowKit

/-- the bits of a that are moved by B places, up (op 12) or down (op 13) -/
def mvf (op : Int) (m : Nat) (a : Int) (fill : Bool) (B : Nat) : Nat → Bool := fun i =>
  if B < m then (if op = 13 then (if i + B < m then bt a (i + B) else fill) else (if B ≤ i then bt a (i - B) else fill)) else fill

/-- by how many places: the width's bits and all 64 bits tell the same, but for those from the width on -/
theorem places_low {k b : Int} (h1 : 2 ≤ k) (h2 : k ≤ 9) (hb : Val k b) : (low (wn k) b < wn k → low 64 b = low (wn k) b) ∧ (wn k ≤ low (wn k) b → wn k ≤ low 64 b) := by
  obtain ⟨hb, ib⟩ := hb
  unfold I64 at ib
  unfold low
  rcases kinds k (by omega) h2 with rfl | rfl | rfl | rfl | rfl | rfl | rfl | rfl | rfl
  · omega
  · rw [wrp2] at hb; have e : wn 2 = 8 := rfl; rw [e]; omega
  · rw [wrp3] at hb; have e : wn 3 = 16 := rfl; rw [e]; omega
  · rw [wrp4] at hb; have e : wn 4 = 32 := rfl; rw [e]; omega
  · have e : wn 5 = 64 := rfl; rw [e]; omega
  · rw [wrp6] at hb; have e : wn 6 = 8 := rfl; rw [e]; omega
  · rw [wrp7] at hb; have e : wn 7 = 16 := rfl; rw [e]; omega
  · rw [wrp8] at hb; have e : wn 8 = 32 := rfl; rw [e]; omega
  · have e : wn 9 = 64 := rfl; rw [e]; omega

theorem u64_low (b : Int) : (IntKind.u64.wrap b).toNat = low 64 b := by rw [wrap_u64]; rfl
theorem U_low (a : Int) : U a = (low 64 a : Int) := by rw [U_eq]; unfold low; omega

theorem low_mul (m : Nat) (hm : m ≤ 64) (a : Int) (s i : Nat) (hi : i < m) : (low m (a * 2 ^ s)).testBit i = (decide (s ≤ i) && bt a (i - s)) := by
  have e1 : a = (low 64 a : Int) + 18446744073709551616 * (a / 18446744073709551616) := by unfold low; omega
  have e2 : low m (a * 2 ^ s) = low m ((low 64 a * 2 ^ s : Nat) : Int) := by
    rw [← low_mod m hm, ← low_mod m hm]
    congr 1
    have e3 : a * 2 ^ s = ((low 64 a * 2 ^ s : Nat) : Int) + 18446744073709551616 * (a / 18446744073709551616 * 2 ^ s) := by
      conv => lhs; rw [e1]
      rw [Int.add_mul, Int.mul_assoc]
      simp
    rw [e3]
    generalize (low 64 a * 2 ^ s : Nat) = X
    generalize a / 18446744073709551616 * 2 ^ s = Y
    unfold low
    omega
  have e4 : low m ((low 64 a * 2 ^ s : Nat) : Int) = (low 64 a * 2 ^ s) % 2 ^ m := by
    unfold low
    rw [← Int.natCast_emod, Int.toNat_natCast]
  rw [e2, e4, Nat.testBit_mod_two_pow, ← Nat.shiftLeft_eq, Nat.testBit_shiftLeft]
  simp [hi, bt]

theorem one_inj {x y : Bool} (h : one x = one y) : x = y := by
  cases x <;> cases y <;> first | rfl | (revert h; decide)

theorem val_false {k : Int} (h1 : 1 ≤ k) (h2 : k ≤ 9) {f : Nat → Bool} (h : ∀ i, i < wn k → f i = false) : val k f = 0 := by
  refine val_eq h1 h2 (val_zero k h1 h2) fun i hi => ?_
  rw [h i hi]
  have : low (wn k) 0 = 0 := by unfold low; simp
  rw [this, Nat.zero_testBit]

theorem shl_val {k a b : Int} (h1 : 2 ≤ k) (h2 : k ≤ 9) (ha : Val k a) (hb : Val k b) : val k (mvf 12 (wn k) a false (low (wn k) b)) = binN 12 k a b := by
  have g1 : 1 ≤ k := by omega
  obtain ⟨p1, p2⟩ := places_low h1 h2 hb
  have hle := wn_le k
  rw [nShl h1 h2 ha hb]
  unfold vshl
  rw [u64_low, i64_wrap]
  show _ = W k _
  by_cases hB : low (wn k) b < wn k
  · rw [p1 hB, Nat.min_eq_left (by omega)]
    refine val_eq g1 h2 (val_W k _) fun i hi => ?_
    rw [low_W g1 h2, low_mul _ hle _ _ _ hi]
    unfold mvf
    rw [if_pos hB, if_neg (by decide)]
    by_cases hc : low (wn k) b ≤ i
    · simp [hc]
    · simp [hc]
  · rw [W_far g1 h2 a _ (by have := p2 (by omega); omega)]
    refine val_false g1 h2 fun i _ => ?_
    unfold mvf
    rw [if_neg hB]

theorem shr_val {k a b : Int} (h1 : 2 ≤ k) (h2 : k ≤ 9) (ha : Val k a) (hb : Val k b) : val k (mvf 13 (wn k) a (decide (k ≤ 5 ∧ a < 0)) (low (wn k) b)) = binN 13 k a b := by
  have g1 : 1 ≤ k := by omega
  obtain ⟨p1, p2⟩ := places_low h1 h2 hb
  have hle := wn_le k
  have hpow : ∀ n : Nat, (2 : Int) ^ n = ((2 ^ n : Nat) : Int) := fun n => by simp
  rw [nShr h1 h2 ha hb]
  unfold vshr
  rw [u64_low]
  generalize hs : min (low 64 b) 64 = s
  have s1 : low (wn k) b < wn k → s = low (wn k) b := fun h => by have := p1 h; omega
  have s2 : ¬ low (wn k) b < wn k → wn k ≤ s := fun h => by have := p2 (by omega); omega
  by_cases h6 : 6 ≤ k
  · rw [if_pos h6, i64_wrap]
    show _ = W k (U a / 2 ^ s)
    obtain ⟨a1, a2, _, _⟩ := val_u h6 h2 ha
    rw [M_pow, U_low] at a2
    have hA : low 64 a < 2 ^ wn k := by exact_mod_cast a2
    have e : U a / 2 ^ s = ((low 64 a / 2 ^ s : Nat) : Int) := by rw [U_low, hpow]; simp
    have hX : low 64 a / 2 ^ s < 2 ^ wn k := Nat.lt_of_le_of_lt (Nat.div_le_self _ _) hA
    have hfill : decide (k ≤ 5 ∧ a < 0) = false := by rw [decide_eq_false_iff_not]; omega
    rw [hfill, e]
    refine val_eq g1 h2 (val_W k _) fun i hi => ?_
    rw [low_W g1 h2, low_nat hX, Nat.testBit_div_two_pow]
    unfold mvf
    by_cases hB : low (wn k) b < wn k
    · rw [if_pos hB, if_pos rfl, s1 hB]
      by_cases hc : i + low (wn k) b < wn k
      · rw [if_pos hc]; rfl
      · rw [if_neg hc]
        cases hb : (low 64 a).testBit (i + low (wn k) b)
        · rfl
        · exact absurd (bit_lt hA hb) hc
    · rw [if_neg hB]
      cases hb : (low 64 a).testBit (i + s)
      · rfl
      · have := bit_lt hA hb
        have := s2 hB
        omega
  · rw [if_neg h6]
    have h5 : k ≤ 5 := by omega
    have v := val_sh_s h1 h5 ha s
    rw [hpow, v.1]
    obtain ⟨m, hm, hM, l1, l2, _⟩ := val_lo h1 h5 ha
    rw [M_pow] at hM
    have hdec : decide (k ≤ 5 ∧ a < 0) = decide (a < 0) := by rw [decide_eq_decide]; omega
    rw [hdec]
    refine val_eq g1 h2 v fun i hi => ?_
    rw [low_bit _ hle]
    have hi64 : i ≤ 63 := by omega
    apply one_inj
    have e0 : (decide (i < wn k) && bt (a / ((2 ^ s : Nat) : Int)) i) = bt (a / ((2 ^ s : Nat) : Int)) i := by simp [hi]
    rw [e0, ← bt_div _ _ hi64]
    have e1 : a / ((2 ^ s : Nat) : Int) / 2 ^ i = a / ((2 ^ (i + s) : Nat) : Int) := by
      rw [hpow, Int.ediv_ediv_of_nonneg (by have := Nat.two_pow_pos s; omega), ← Int.natCast_mul, ← Nat.pow_add, Nat.add_comm s i]
    rw [e1]
    have far : wn k ≤ i + s → a / ((2 ^ (i + s) : Nat) : Int) % 2 = one (decide (a < 0)) := by
      intro hf
      have hq : 2 ^ wn k ≤ 2 ^ (i + s) := Nat.pow_le_pow_right (by decide) hf
      generalize 2 ^ (i + s) = q at *
      generalize 2 ^ wn k = p at *
      by_cases hneg : a < 0
      · rw [small_div_neg (by omega) hneg]; simp [one, hneg]
      · rw [small_div (by omega) (by omega)]; simp [one, hneg]
    unfold mvf
    by_cases hB : low (wn k) b < wn k
    · rw [if_pos hB, if_pos rfl, s1 hB]
      rw [s1 hB] at far
      by_cases hc : i + low (wn k) b < wn k
      · rw [if_pos hc, ← bt_div _ _ (by omega), hpow]
      · rw [if_neg hc]; exact far (by omega)
    · rw [if_neg hB]
      exact far (by have := s2 hB; omega)
end Go.Proofs.YtfbhflpjhbemlaaGreat.Bv

/- The walks of the document's own truth and Cast: they answer as the plain definitions say, whatever the arguments. -/
namespace Go.Proofs.YtfbhflpjhbemlaaGreat
open Go.RowKit

set_option maxHeartbeats 400000 in
theorem truth_any (b : Bool) (w : World) :
    Calls Tryz.prog 74 #[.bool b] w fun e w' => e = .returned (.int .i64 (Bv.one b)) ∧ w' = w := by
  cases b
  all_goals
    go_enter Tryz.func74, Tryz.ntmps74
    go_wp2
    go_ret
    exact ⟨rfl, rfl⟩

end Go.Proofs.YtfbhflpjhbemlaaGreat

/- The walks of the document's own Bit, Bits, From: the bits of a value, and the value of bits. -/
namespace Go.Proofs.YtfbhflpjhbemlaaGreat
open Go.RowKit

theorem info3 : (Tryz.prog.info? 3).map (fun i => (i.zero, i.size, i.bytes)) = some (some (.int .i64 0), 1, 8) := by kernel_rfl

set_option maxHeartbeats 400000 in
theorem rbit_any (n : Int) (i : Nat) (hi : i ≤ 63) (w : World) :
    Calls Tryz.prog 85 #[.int .i64 n, .int .i64 i] w fun e w' => e = .returned (.int .i64 (Bv.one (Bv.bt n i))) ∧ w' = w := by
  have h1 := Bv.bt_div n i hi
  have h2 := Bv.and1 (n / 2 ^ i)
  have H : Hid (bits .and .i64 (n / 2 ^ i) 1 = Bv.one (Bv.bt n i)) := by rw [← h1, ← h2]; rfl
  clear h1 h2
  go_enter Tryz.func85, Tryz.ntmps85
  go_wp2
  go_ret
  exact ⟨ret_int H.out, rfl⟩

set_option maxHeartbeats 1000000 in
theorem rbits_any (k n : Int) (h1 : 1 ≤ k) (h2 : k ≤ 9) (w : World) :
    Calls Tryz.prog 71 #[.int .i64 k, .int .i64 n] w fun e w' => ∃ v, e = .returned v ∧ w'.ownsRow w.heap.size 3 1 v (Bv.wn k) ((Bv.lst (Bv.bt n) (Bv.wn k)).map (Value.int .i64)) ∧ Below w.heap.size w w' := by
  obtain ⟨it, hit, hz, hsz, hby⟩ := info_parts info3
  have hwid : Bv.wid k = (Bv.wn k : Int) := by rcases Bv.kinds k h1 h2 with rfl | rfl | rfl | rfl | rfl | rfl | rfl | rfl | rfl <;> rfl
  have hle := Bv.wn_le k
  generalize Bv.wn k = m at *
  clear h1 h2
  go_enter Tryz.func71, Tryz.ntmps71
  go_wp2_with (first | (go_at_call 40; refine (rwidth_any _ _).mono ?_; rintro e w' ⟨rfl, hw⟩; subst hw))
  go_loopw [5, 7] (fun l i wr => ∃ j : Nat, j ≤ m ∧ i = .int .i64 j ∧ wr.ownsRow w'.heap.size 3 1 l j ((Bv.lst (Bv.bt n) j).map (Value.int .i64)) ∧ Below w'.heap.size w' wr) (fun _ i _ => m - (intOf i).toNat)
  case atStart => exact ⟨0, Nat.zero_le _, rfl, World.ownsRow_nil _ _ _ _, Below.refl _ _⟩
  case round =>
    obtain ⟨j, hj, rfl, hown, hB⟩ := hrel
    by_cases hlt : j < m
    · go_wp2_with (first
        | (go_at_call 85; refine (rbit_any _ _ (by omega) _).mono ?_; rintro e w2 ⟨rfl, hw⟩; subst hw)
        | (at_builtin; refine wpList_append_own _ rfl _ _ 24 rfl w'.heap.size 3 it (.int .i64 0) 1 8 Tryz.underlying24 hit hz hsz hby rfl (by decide) _ _ _ rfl (hown.alloc _) ⟨_, 0, none⟩ 1 1 [.int .i64 (Bv.one (Bv.bt n j))] rfl rfl (cell_one_new _ _ _) (fun x hx => by simp at hx; subst hx; rfl) (by unfold maxLen; omega) (by omega) (by have := hB.size; simp; omega) ?_; intro v' w3 hown' hgrow3 hnil3))
      have hsz2 := hB.size
      have hB3 : Below w'.heap.size w' w3 := (hB.alloc hB.size _).grown hgrow3 (by simp; omega) (fun q hq => (hown.lt q hq).1)
      exact ⟨⟨j + 1, by omega, by go_num, by rw [Bv.lst_succ, List.map_append]; exact hown', hB3⟩, by simp [intOf]; omega⟩
    · go_wp2
      have ej : j = m := by omega
      subst ej
      go_ret
      exact ⟨_, rfl, hown, hB⟩

/-- how far the sum of the bits has come -/
theorem sum_step (f : Nat → Bool) (j : Nat) (x : Int) (h : x = wrap64 (Bv.ofb f j : Int)) (hf : f j = true) : wrap64 (x + 2 ^ j) = wrap64 (Bv.ofb f (j + 1) : Int) := by
  have e : ((Bv.ofb f (j + 1) : Nat) : Int) = (Bv.ofb f j : Int) + 2 ^ j := by simp [Bv.ofb, hf]
  rw [h, e]
  generalize (2 : Int) ^ j = p
  unfold wrap64
  omega
theorem sum_step63 (f : Nat → Bool) (x : Int) (h : x = wrap64 (Bv.ofb f 63 : Int)) (hf : f 63 = true) : wrap64 (x + -9223372036854775808) = wrap64 (Bv.ofb f 64 : Int) := by
  have e : ((Bv.ofb f (63 + 1) : Nat) : Int) = (Bv.ofb f 63 : Int) + 9223372036854775808 := by simp [Bv.ofb, hf]
  rw [h, e]
  unfold wrap64
  omega
theorem sum_skip (f : Nat → Bool) (j : Nat) (x : Int) (h : x = wrap64 (Bv.ofb f j : Int)) (hf : f j = false) : x = wrap64 (Bv.ofb f (j + 1) : Int) := by
  rw [h]
  simp [Bv.ofb, hf]

set_option maxHeartbeats 1000000 in
theorem rfrom_any (k : Int) (f : Nat → Bool) (h1 : 1 ≤ k) (h2 : k ≤ 9) (g cap : Nat) (w : World)
    (hc : ∀ j, j < Bv.wn k → w.cell? ⟨g, j, none⟩ = some (.int .i64 (Bv.one (f j)))) :
    Calls Tryz.prog 72 #[.int .i64 k, .slice (some ⟨g, 0, none⟩) (Bv.wn k) cap] w fun e w' => e = .returned (.int .i64 (Bv.val k f)) ∧ w' = w := by
  have hwid : Bv.wid k = (Bv.wn k : Int) := by rcases Bv.kinds k h1 h2 with rfl | rfl | rfl | rfl | rfl | rfl | rfl | rfl | rfl <;> rfl
  have hle := Bv.wn_le k
  have hval : Bv.val k f = Bv.wrp k (wrap64 (Bv.ofb f (Bv.wn k) : Int)) := rfl
  rw [hval]
  generalize Bv.wn k = m at *
  clear h1 h2 hval
  have HC : Hid (∀ j, j < m → w.cell? ⟨g, j, none⟩ = some (.int .i64 (Bv.one (f j)))) := hc
  clear hc
  go_enter Tryz.func72, Tryz.ntmps72
  go_wp2_with (first | (go_at_call 40; refine (rwidth_any _ _).mono ?_; rintro e w' ⟨rfl, hw⟩; subst hw))
  go_loop [5, 7] (fun x i => ∃ j : Nat, ∃ y : Int, j ≤ m ∧ i = .int .i64 j ∧ x = .int .i64 y ∧ Hid (y = wrap64 (Bv.ofb f j : Int))) (fun _ i => m - (intOf i).toNat)
  case atStart => exact ⟨0, 0, Nat.zero_le _, rfl, rfl, by unfold Hid; simp [Bv.ofb, wrap64]⟩
  case round =>
    obtain ⟨j, y, hj, rfl, rfl, HY⟩ := hrel
    by_cases hlt : j < m
    · have hcell := HC.out j hlt
      cases hf : f j with
      | false =>
        have e : Bv.one (f j) = 0 := by rw [hf]; rfl
        rw [e] at hcell
        have HF : Hid (f j = false) := hf
        clear hf e
        go_wp2
        all_goals
          go_round
          case rel => exact ⟨j + 1, y, by omega, by go_num, rfl, sum_skip f j y HY.out HF.out⟩
          case measure => simp [intOf]; omega
      | true =>
        have e : Bv.one (f j) = 1 := by rw [hf]; rfl
        rw [e] at hcell
        have HF : Hid (f j = true) := hf
        clear hf e
        by_cases h63 : j = 63
        · subst h63
          go_wp2
          exact ⟨⟨64, _, by omega, rfl, rfl, sum_step63 f y HY.out HF.out⟩, by simp [intOf]; omega⟩
        · have h63' : ((j : Int) == 63) = false := by rw [beq_eq_false_iff_ne]; omega
          go_wp2_with (first | (go_at_call 69; refine (rpower_any _ (by omega) _).mono ?_; rintro e w2 ⟨rfl, hw⟩; subst hw))
          exact ⟨⟨j + 1, _, by omega, by go_num, rfl, sum_step f j y HY.out HF.out⟩, by simp [intOf]; omega⟩
    · go_wp2_with (first | (go_at_call 56; refine (rwrap_any _ _ _).mono ?_; rintro e w2 ⟨rfl, hw⟩; subst hw))
      have ej : j = m := by omega
      subst ej
      go_ret
      exact ⟨ret_int (by rw [HY.out]), rfl⟩

/-- a row of bits in memory of its own -/
theorem row_cells {w : World} {base m : Nat} {v : Value} {f : Nat → Bool} (h : w.ownsRow base 3 1 v m ((Bv.lst f m).map (Value.int .i64))) (hm : 0 < m) :
    ∃ g cap, v = .slice (some ⟨g, 0, none⟩) m cap ∧ base ≤ g ∧ g < w.heap.size ∧ w.ownsRow base 3 1 (.slice (some ⟨g, 0, none⟩) m cap) m ((Bv.lst f m).map (Value.int .i64)) ∧
      (∀ j, j < m → w.cell? ⟨g, j, none⟩ = some (.int .i64 (Bv.one (f j)))) ∧ (∀ j, w.frozen? ⟨g, j, none⟩ = false) := by
  have h' := h
  rcases h.2 with ⟨_, h0⟩ | ⟨g, cap, cur, hv, hb, hg, _⟩
  · omega
  · subst hv
    have hlt := h.lt g rfl
    refine ⟨g, cap, rfl, hb, hlt.2, h', fun j hj => ?_, fun j => h'.frozenAt j⟩
    rw [h'.cellAt j (by omega)]
    simp [Bv.lst_get f m j hj]
end Go.Proofs.YtfbhflpjhbemlaaGreat

/- The walk of the document's own Un: it answers as bv.Un's plain definition says, whatever the arguments. -/
namespace Go.Proofs.YtfbhflpjhbemlaaGreat
open Go.RowKit

theorem lst_set (f : Nat → Bool) (m j : Nat) (b : Bool) (hj : j < m) : ((Bv.lst f m).map (Value.int .i64)).set j (.int .i64 (Bv.one b)) = (Bv.lst (fun i => if i = j then b else f i) m).map (Value.int .i64) := by
  apply List.ext_getElem?
  intro i
  rw [List.getElem?_set]
  by_cases hij : j = i
  · subst hij
    simp [hj, Bv.lst]
  · have : ¬ i = j := fun e => hij e.symm
    simp only [hij, if_false]
    by_cases hi : i < m
    · simp [Bv.lst, hi, this]
    · simp [Bv.lst, hi]

/-- of the row the first j bits are turned -/
def mix (f g : Nat → Bool) (j : Nat) : Nat → Bool := fun i => if i < j then g i else f i
theorem mix_step (f g : Nat → Bool) (m j : Nat) (hj : j < m) : ((Bv.lst (mix f g j) m).map (Value.int .i64)).set j (.int .i64 (Bv.one (g j))) = (Bv.lst (mix f g (j + 1)) m).map (Value.int .i64) := by
  rw [lst_set _ _ _ _ hj]
  congr 1
  apply Bv.lst_congr
  intro i hi
  unfold mix
  by_cases h : i = j
  · subst h
    simp
  · simp only [h, if_false]
    by_cases h2 : i < j
    · have : i < j + 1 := by omega
      simp [h2, this]
    · have : ¬ i < j + 1 := by omega
      simp [h2, this]
theorem mix_zero (f g : Nat → Bool) (m : Nat) : Bv.lst (mix f g 0) m = Bv.lst f m := Bv.lst_congr fun i _ => by simp [mix]
theorem mix_all (f g : Nat → Bool) (m : Nat) : Bv.lst (mix f g m) m = Bv.lst g m := Bv.lst_congr fun i hi => by simp [mix, hi]
theorem wrap_opp (b : Bool) : wrap64 (1 - Bv.one b) = Bv.one (!b) := by cases b <;> kernel_rfl

/-- the opposite of a value's bits is what OpNot tells -/
theorem not_val {k a : Int} (h1 : 1 ≤ k) (h2 : k ≤ 9) (ha : Bv.Val k a) : Bv.val k (fun i => !Bv.bt a i) = Bv.unN 1 k a := by
  obtain ⟨v, l⟩ := Bv.nNot h1 h2 ha
  refine Bv.val_eq h1 h2 v fun i hi => ?_
  rw [l, Nat.testBit_xor, Nat.testBit_two_pow_sub_one, Bv.low_bit _ (Bv.wn_le k)]
  simp [hi]

theorem wn_pos (k : Int) : 0 < Bv.wn k := by
  unfold Bv.wn
  repeat' split
  all_goals decide

theorem isv_vals {k a : Int} (h64 : Bv.I64 a) (h : Bv.isv k a = true) : (1 ≤ k ∧ k ≤ 9) ∧ Bv.Val k a := by
  unfold Bv.isv at h
  simp only [Bool.and_eq_true, decide_eq_true_eq, beq_iff_eq] at h
  exact ⟨(Bv.wid_pos_iff k).1 h.1, h.2, h64⟩

set_option maxHeartbeats 2000000 in
theorem run_not (k a : Int) (h64 : Bv.I64 a) (hv : Bv.isv k a = true) (w : World) :
    Calls Tryz.prog 57 #[.int .i64 1, .int .i64 k, .int .i64 a] w fun e w' => e = .returned (.tuple #[.int .i64 (Bv.unN 1 k a), .bool (Bv.unB 1 k a)]) ∧ Below w.heap.size w w' := by
  obtain ⟨⟨h1, h2⟩, va⟩ := isv_vals h64 hv
  have eN := not_val h1 h2 va
  have eB := Bv.unB1 h1 h2 va
  rw [eB, ← eN]
  clear eB eN va h64
  have HK : Hid (1 ≤ k ∧ k ≤ 9) := ⟨h1, h2⟩
  have hm := wn_pos k
  have hle := Bv.wn_le k
  clear h1 h2
  go_enter Tryz.func57, Tryz.ntmps57
  go_wp2_with (first | (go_at_call 41; refine (ris_any _ _ _).mono ?_; rintro e w' ⟨rfl, hw⟩; subst hw))
  refine (rbits_any _ _ HK.out.1 HK.out.2 _).mono ?_
  rintro e w1 ⟨v, rfl, hown, hB⟩
  obtain ⟨g, cap, rfl, hg1, hg2, hown, hcells, hfz⟩ := row_cells hown hm
  clear hcells hfz
  rw [← mix_zero (Bv.bt a) (fun i => !Bv.bt a i)] at hown
  go_wp2
  go_loopw [9] (fun i wr => ∃ j : Nat, j ≤ Bv.wn k ∧ i = .int .i64 j ∧ wr.ownsRow w'.heap.size 3 1 (.slice (some ⟨g, 0, none⟩) (Bv.wn k) cap) (Bv.wn k) ((Bv.lst (mix (Bv.bt a) (fun i => !Bv.bt a i) j) (Bv.wn k)).map (Value.int .i64)) ∧ Below w'.heap.size w' wr) (fun i _ => Bv.wn k - (intOf i).toNat)
  case atStart => exact ⟨0, Nat.zero_le _, rfl, hown, hB⟩
  case round =>
    clear hown hB hg2
    obtain ⟨j, hj, rfl, hown, hB⟩ := hrel
    by_cases hlt : j < Bv.wn k
    · have hcell : wr.cell? ⟨g, j, none⟩ = some (.int .i64 (Bv.one (Bv.bt a j))) := by
        rw [hown.cellAt j (by omega), List.getElem?_map, Bv.lst_get _ _ _ hlt]
        simp [mix]
      have hfz := hown.frozenAt j
      have hsub : wrap64 (1 - Bv.one (Bv.bt a j)) = Bv.one (!Bv.bt a j) := wrap_opp _
      have HO : Hid _ := (hown.stored j (.int .i64 (Bv.one (!Bv.bt a j)))).1
      have HB : Hid _ := hB.setCell (p := ⟨g, j, none⟩) hg1 (.int .i64 (Bv.one (!Bv.bt a j)))
      clear hown hB
      go_wp2
      have ho := HO.out
      rw [mix_step (Bv.bt a) (fun i => !Bv.bt a i) _ j hlt] at ho
      exact ⟨⟨j + 1, by omega, by go_num, ho, HB.out⟩, by simp [intOf]; omega⟩
    · have ej : j = Bv.wn k := by omega
      rw [ej, mix_all] at hown
      clear ej
      go_wp2_with fail
      refine (rfrom_any k (fun i => !Bv.bt a i) HK.out.1 HK.out.2 g cap _ ?_).mono ?_
      · intro i hi
        rw [hown.cellAt i (by omega), List.getElem?_map, Bv.lst_get _ _ _ hi]
        rfl
      rintro e w2 ⟨rfl, hw⟩
      subst hw
      go_wp2
      go_ret2
      exact ⟨rfl, hB⟩

set_option maxHeartbeats 1000000 in
theorem run_neg (k a : Int) (h64 : Bv.I64 a) (hv : Bv.isv k a = true) (w : World) :
    Calls Tryz.prog 57 #[.int .i64 2, .int .i64 k, .int .i64 a] w fun e w' => e = .returned (.tuple #[.int .i64 (Bv.unN 2 k a), .bool (Bv.unB 2 k a)]) ∧ Below w.heap.size w w' := by
  obtain ⟨⟨h1, h2⟩, va⟩ := isv_vals h64 hv
  by_cases hk : k = 1
  · have e : Bv.unB 2 k a = false := by subst hk; rfl
    have e' : Bv.unN 2 k a = 0 := by simp [Bv.unN, e]
    rw [e, e']
    have hk' : (k != 1) = false := by simp [hk]
    clear e e' va h64 h1 h2 hk
    go_enter Tryz.func57, Tryz.ntmps57
    go_wp2_with (first | (go_at_call 41; refine (ris_any _ _ _).mono ?_; rintro e w' ⟨rfl, hw⟩; subst hw))
    go_ret2
    exact ⟨rfl, Below.refl _ _⟩
  · have e := Bv.unB2 (by omega) h2 va
    have e' : Bv.unN 2 k a = Bv.wrp k (wrap64 (-a)) := Bv.unN2 (by omega) h2 va
    rw [e, e']
    have hk' : (k != 1) = true := by simp [hk]
    clear e e' va h64 h1 h2 hk
    go_enter Tryz.func57, Tryz.ntmps57
    go_wp2_with (first | (go_at_call 41; refine (ris_any _ _ _).mono ?_; rintro e w' ⟨rfl, hw⟩; subst hw) | (go_at_call 56; refine (rwrap_any _ _ _).mono ?_; rintro e w' ⟨rfl, hw⟩; subst hw))
    go_ret2
    exact ⟨rfl, Below.refl _ _⟩

set_option maxHeartbeats 1000000 in
theorem run_else (op k a : Int) (h : Bv.isv k a = false ∨ (op == 1) = false ∧ (op == 2) = false) (w : World) :
    Calls Tryz.prog 57 #[.int .i64 op, .int .i64 k, .int .i64 a] w fun e w' => e = .returned (.tuple #[.int .i64 0, .bool false]) ∧ Below w.heap.size w w' := by
  cases hv : Bv.isv k a with
  | false =>
    clear h
    go_enter Tryz.func57, Tryz.ntmps57
    go_wp2_with (first | (go_at_call 41; refine (ris_any _ _ _).mono ?_; rintro e w' ⟨rfl, hw⟩; subst hw))
    go_ret2
    exact ⟨rfl, Below.refl _ _⟩
  | true =>
    have h' : (op == 1) = false ∧ (op == 2) = false := by
      rcases h with h | h
      · rw [hv] at h; cases h
      · exact h
    obtain ⟨o1, o2⟩ := h'
    clear h
    go_enter Tryz.func57, Tryz.ntmps57
    go_wp2_with (first | (go_at_call 41; refine (ris_any _ _ _).mono ?_; rintro e w' ⟨rfl, hw⟩; subst hw))
    go_ret2
    exact ⟨rfl, Below.refl _ _⟩

theorem run_any (op k a : Int) (h64 : Bv.I64 a) (w : World) :
    Calls Tryz.prog 57 #[.int .i64 op, .int .i64 k, .int .i64 a] w fun e w' => e = .returned (.tuple #[.int .i64 (Bv.unN op k a), .bool (Bv.unB op k a)]) ∧ Below w.heap.size w w' := by
  cases hv : Bv.isv k a with
  | false =>
    have e : Bv.unB op k a = false := by simp [Bv.unB, Bv.allv, hv]
    have e' : Bv.unN op k a = 0 := by simp [Bv.unN, e]
    rw [e, e']
    exact run_else op k a (Or.inl hv) w
  | true =>
    by_cases h1 : op = 1
    · subst h1; exact run_not k a h64 hv w
    · by_cases h2 : op = 2
      · subst h2; exact run_neg k a h64 hv w
      · have ho : Bv.ofU op = 0 := by simp [Bv.ofU, h1, h2]
        have e : Bv.unB op k a = false := by simp [Bv.unB, ho, Bv.tks]
        have e' : Bv.unN op k a = 0 := by simp [Bv.unN, e]
        rw [e, e']
        exact run_else op k a (Or.inr ⟨by simpa using h1, by simpa using h2⟩) w
end Go.Proofs.YtfbhflpjhbemlaaGreat

/- The walk of the document's own bitwise: and, or, exclusive-or go bit by bit. -/
namespace Go.Proofs.YtfbhflpjhbemlaaGreat
open Go.RowKit

theorem grown_of_below {w w' : World} (h : Below w.heap.size w w') : w.grownBy w' none := ⟨h.os, h.tape, h.output, h.size, fun k hk _ => h.block k hk⟩
theorem owns_below {w w' : World} {base : Nat} {e : TypeId} {size : Nat} {v : Value} {n : Nat} {xs : List Value} (h : w.ownsRow base e size v n xs) (hb : Below w.heap.size w w') : w'.ownsRow base e size v n xs := by
  refine h.kept (grown_of_below hb) ?_
  cases v.ownBlock with
  | none => exact Or.inl rfl
  | some b => exact Or.inr (by simp)

theorem mix_skip (f g : Nat → Bool) (m j : Nat) (h : g j = f j) : Bv.lst (mix f g (j + 1)) m = Bv.lst (mix f g j) m := Bv.lst_congr fun i _ => by
  unfold mix
  by_cases h2 : i < j
  · have : i < j + 1 := by omega
    simp [h2, this]
  · by_cases h3 : i = j
    · subst h3; simp [h]
    · have : ¬ i < j + 1 := by omega
      simp [h2, this]

theorem or_true' (x : Bool) : Bv.one (x || true) = 1 := by cases x <;> rfl
theorem mul_bits (x y : Bool) : wrap64 (Bv.one x * Bv.one y) = Bv.one (x && y) := by cases x <;> cases y <;> kernel_rfl
theorem xor_bits (x y : Bool) : (wrap64 (Bv.one x + Bv.one y)).tmod 2 = Bv.one (x != y) := by cases x <;> cases y <;> kernel_rfl

set_option maxHeartbeats 4000000 in
theorem rand_any (k a b : Int) (h1 : 1 ≤ k) (h2 : k ≤ 9) (w : World) :
    Calls Tryz.prog 73 #[.int .i64 8, .int .i64 k, .int .i64 a, .int .i64 b] w fun e w' => e = .returned (.int .i64 (Bv.val k (fun i => Bv.bt a i && Bv.bt b i))) ∧ Below w.heap.size w w' := by
  have HK : Hid (1 ≤ k ∧ k ≤ 9) := ⟨h1, h2⟩
  have hm := wn_pos k
  have hle := Bv.wn_le k
  clear h1 h2
  go_enter Tryz.func73, Tryz.ntmps73
  go_wp2_with fail
  refine (rbits_any _ _ HK.out.1 HK.out.2 _).mono ?_
  rintro e w1 ⟨v, rfl, hx, hB⟩
  obtain ⟨g, cap, rfl, hg1, hg2, hx, _, _⟩ := row_cells hx hm
  go_wp2_with fail
  refine (rbits_any _ _ HK.out.1 HK.out.2 _).mono ?_
  rintro e w2 ⟨v, rfl, hy, hB2⟩
  obtain ⟨h, cap2, rfl, hh1, hh2, hy, _, _⟩ := row_cells hy hm
  have hx2 := owns_below hx hB2
  have hB3 := hB.trans (hB2.mono hB.size)
  rw [← mix_zero (Bv.bt a) (fun i => Bv.bt a i && Bv.bt b i)] at hx2
  have hgh : g < h := by omega
  clear hx hB hB2 hg2 hh2
  generalize w1.heap.size = s1 at *
  go_wp2
  go_loopw [11] (fun i wr => ∃ j : Nat, j ≤ Bv.wn k ∧ i = .int .i64 j ∧ wr.ownsRow w.heap.size 3 1 (.slice (some ⟨g, 0, none⟩) (Bv.wn k) cap) (Bv.wn k) ((Bv.lst (mix (Bv.bt a) (fun i => Bv.bt a i && Bv.bt b i) j) (Bv.wn k)).map (Value.int .i64)) ∧
      wr.ownsRow s1 3 1 (.slice (some ⟨h, 0, none⟩) (Bv.wn k) cap2) (Bv.wn k) ((Bv.lst (Bv.bt b) (Bv.wn k)).map (Value.int .i64)) ∧ Below w.heap.size w wr) (fun i _ => Bv.wn k - (intOf i).toNat)
  case atStart => exact ⟨0, Nat.zero_le _, rfl, hx2, hy, hB3⟩
  case round =>
    clear hx2 hy hB3
    obtain ⟨j, hj, rfl, hx, hy, hB⟩ := hrel
    by_cases hlt : j < Bv.wn k
    · have hcx : wr.cell? ⟨g, j, none⟩ = some (.int .i64 (Bv.one (Bv.bt a j))) := by
        rw [hx.cellAt j (by omega), List.getElem?_map, Bv.lst_get _ _ _ hlt]
        simp [mix]
      have hcy : wr.cell? ⟨h, j, none⟩ = some (.int .i64 (Bv.one (Bv.bt b j))) := by
        rw [hy.cellAt j (by omega), List.getElem?_map, Bv.lst_get _ _ _ hlt]
        rfl
      have hfz := hx.frozenAt j
      have hmul := mul_bits (Bv.bt a j) (Bv.bt b j)
      have hst := hx.stored j (.int .i64 (Bv.one (Bv.bt a j && Bv.bt b j)))
      have HO : Hid _ := hst.1
      have HY : Hid _ := hy.kept hst.2 (Or.inr (by simp [Value.ownBlock]; omega))
      have HB : Hid _ := hB.setCell (p := ⟨g, j, none⟩) hg1 (.int .i64 (Bv.one (Bv.bt a j && Bv.bt b j)))
      clear hx hy hB hst
      go_wp2
      go_region
      go_wp2
      have ho := HO.out
      rw [mix_step (Bv.bt a) (fun i => Bv.bt a i && Bv.bt b i) _ j hlt] at ho
      exact ⟨⟨j + 1, by omega, by go_num, ho, HY.out, HB.out.drew⟩, by simp [intOf]; omega⟩
    · have ej : j = Bv.wn k := by omega
      rw [ej, mix_all] at hx
      clear ej
      go_wp2_with fail
      refine (rfrom_any k (fun i => Bv.bt a i && Bv.bt b i) HK.out.1 HK.out.2 g cap _ ?_).mono ?_
      · intro i hi
        rw [hx.cellAt i (by omega), List.getElem?_map, Bv.lst_get _ _ _ hi]
        rfl
      rintro e w2 ⟨rfl, hw⟩
      subst hw
      go_wp2
      go_ret
      exact ⟨rfl, hB⟩

set_option maxHeartbeats 4000000 in
theorem rxor_any (k a b : Int) (h1 : 1 ≤ k) (h2 : k ≤ 9) (w : World) :
    Calls Tryz.prog 73 #[.int .i64 10, .int .i64 k, .int .i64 a, .int .i64 b] w fun e w' => e = .returned (.int .i64 (Bv.val k (fun i => Bv.bt a i != Bv.bt b i))) ∧ Below w.heap.size w w' := by
  have HK : Hid (1 ≤ k ∧ k ≤ 9) := ⟨h1, h2⟩
  have hm := wn_pos k
  have hle := Bv.wn_le k
  clear h1 h2
  go_enter Tryz.func73, Tryz.ntmps73
  go_wp2_with fail
  refine (rbits_any _ _ HK.out.1 HK.out.2 _).mono ?_
  rintro e w1 ⟨v, rfl, hx, hB⟩
  obtain ⟨g, cap, rfl, hg1, hg2, hx, _, _⟩ := row_cells hx hm
  go_wp2_with fail
  refine (rbits_any _ _ HK.out.1 HK.out.2 _).mono ?_
  rintro e w2 ⟨v, rfl, hy, hB2⟩
  obtain ⟨h, cap2, rfl, hh1, hh2, hy, _, _⟩ := row_cells hy hm
  have hx2 := owns_below hx hB2
  have hB3 := hB.trans (hB2.mono hB.size)
  rw [← mix_zero (Bv.bt a) (fun i => Bv.bt a i != Bv.bt b i)] at hx2
  have hgh : g < h := by omega
  clear hx hB hB2 hg2 hh2
  generalize w1.heap.size = s1 at *
  go_wp2
  go_loopw [11] (fun i wr => ∃ j : Nat, j ≤ Bv.wn k ∧ i = .int .i64 j ∧ wr.ownsRow w.heap.size 3 1 (.slice (some ⟨g, 0, none⟩) (Bv.wn k) cap) (Bv.wn k) ((Bv.lst (mix (Bv.bt a) (fun i => Bv.bt a i != Bv.bt b i) j) (Bv.wn k)).map (Value.int .i64)) ∧
      wr.ownsRow s1 3 1 (.slice (some ⟨h, 0, none⟩) (Bv.wn k) cap2) (Bv.wn k) ((Bv.lst (Bv.bt b) (Bv.wn k)).map (Value.int .i64)) ∧ Below w.heap.size w wr) (fun i _ => Bv.wn k - (intOf i).toNat)
  case atStart => exact ⟨0, Nat.zero_le _, rfl, hx2, hy, hB3⟩
  case round =>
    clear hx2 hy hB3
    obtain ⟨j, hj, rfl, hx, hy, hB⟩ := hrel
    by_cases hlt : j < Bv.wn k
    · have hcx : wr.cell? ⟨g, j, none⟩ = some (.int .i64 (Bv.one (Bv.bt a j))) := by
        rw [hx.cellAt j (by omega), List.getElem?_map, Bv.lst_get _ _ _ hlt]
        simp [mix]
      have hcy : wr.cell? ⟨h, j, none⟩ = some (.int .i64 (Bv.one (Bv.bt b j))) := by
        rw [hy.cellAt j (by omega), List.getElem?_map, Bv.lst_get _ _ _ hlt]
        rfl
      have hfz := hx.frozenAt j
      have hmul := xor_bits (Bv.bt a j) (Bv.bt b j)
      have hst := hx.stored j (.int .i64 (Bv.one (Bv.bt a j != Bv.bt b j)))
      have HO : Hid _ := hst.1
      have HY : Hid _ := hy.kept hst.2 (Or.inr (by simp [Value.ownBlock]; omega))
      have HB : Hid _ := hB.setCell (p := ⟨g, j, none⟩) hg1 (.int .i64 (Bv.one (Bv.bt a j != Bv.bt b j)))
      clear hx hy hB hst
      go_wp2
      go_region
      go_wp2
      have ho := HO.out
      rw [mix_step (Bv.bt a) (fun i => Bv.bt a i != Bv.bt b i) _ j hlt] at ho
      exact ⟨⟨j + 1, by omega, by go_num, ho, HY.out, HB.out.drew⟩, by simp [intOf]; omega⟩
    · have ej : j = Bv.wn k := by omega
      rw [ej, mix_all] at hx
      clear ej
      go_wp2_with fail
      refine (rfrom_any k (fun i => Bv.bt a i != Bv.bt b i) HK.out.1 HK.out.2 g cap _ ?_).mono ?_
      · intro i hi
        rw [hx.cellAt i (by omega), List.getElem?_map, Bv.lst_get _ _ _ hi]
        rfl
      rintro e w2 ⟨rfl, hw⟩
      subst hw
      go_wp2
      go_ret
      exact ⟨rfl, hB⟩

set_option maxHeartbeats 4000000 in
theorem ror_any (k a b : Int) (h1 : 1 ≤ k) (h2 : k ≤ 9) (w : World) :
    Calls Tryz.prog 73 #[.int .i64 9, .int .i64 k, .int .i64 a, .int .i64 b] w fun e w' => e = .returned (.int .i64 (Bv.val k (fun i => Bv.bt a i || Bv.bt b i))) ∧ Below w.heap.size w w' := by
  have HK : Hid (1 ≤ k ∧ k ≤ 9) := ⟨h1, h2⟩
  have hm := wn_pos k
  have hle := Bv.wn_le k
  clear h1 h2
  go_enter Tryz.func73, Tryz.ntmps73
  go_wp2_with fail
  refine (rbits_any _ _ HK.out.1 HK.out.2 _).mono ?_
  rintro e w1 ⟨v, rfl, hx, hB⟩
  obtain ⟨g, cap, rfl, hg1, hg2, hx, _, _⟩ := row_cells hx hm
  go_wp2_with fail
  refine (rbits_any _ _ HK.out.1 HK.out.2 _).mono ?_
  rintro e w2 ⟨v, rfl, hy, hB2⟩
  obtain ⟨h, cap2, rfl, hh1, hh2, hy, _, _⟩ := row_cells hy hm
  have hx2 := owns_below hx hB2
  have hB3 := hB.trans (hB2.mono hB.size)
  rw [← mix_zero (Bv.bt a) (fun i => Bv.bt a i || Bv.bt b i)] at hx2
  have hgh : g < h := by omega
  clear hx hB hB2 hg2 hh2
  generalize w1.heap.size = s1 at *
  go_wp2
  go_loopw [11] (fun i wr => ∃ j : Nat, j ≤ Bv.wn k ∧ i = .int .i64 j ∧ wr.ownsRow w.heap.size 3 1 (.slice (some ⟨g, 0, none⟩) (Bv.wn k) cap) (Bv.wn k) ((Bv.lst (mix (Bv.bt a) (fun i => Bv.bt a i || Bv.bt b i) j) (Bv.wn k)).map (Value.int .i64)) ∧
      wr.ownsRow s1 3 1 (.slice (some ⟨h, 0, none⟩) (Bv.wn k) cap2) (Bv.wn k) ((Bv.lst (Bv.bt b) (Bv.wn k)).map (Value.int .i64)) ∧ Below w.heap.size w wr) (fun i _ => Bv.wn k - (intOf i).toNat)
  case atStart => exact ⟨0, Nat.zero_le _, rfl, hx2, hy, hB3⟩
  case round =>
    clear hx2 hy hB3
    obtain ⟨j, hj, rfl, hx, hy, hB⟩ := hrel
    by_cases hlt : j < Bv.wn k
    · have hcx : wr.cell? ⟨g, j, none⟩ = some (.int .i64 (Bv.one (Bv.bt a j))) := by
        rw [hx.cellAt j (by omega), List.getElem?_map, Bv.lst_get _ _ _ hlt]
        simp [mix]
      have hcy : wr.cell? ⟨h, j, none⟩ = some (.int .i64 (Bv.one (Bv.bt b j))) := by
        rw [hy.cellAt j (by omega), List.getElem?_map, Bv.lst_get _ _ _ hlt]
        rfl
      have hfz := hx.frozenAt j
      cases hb : Bv.bt b j with
      | true =>
        have ev : Bv.one (Bv.bt a j || Bv.bt b j) = 1 := by rw [hb]; exact or_true' _
        have hb1 : Bv.one (Bv.bt b j) = 1 := by rw [hb]; rfl
        rw [hb1] at hcy
        have HE : Hid (Bv.one (Bv.bt a j || Bv.bt b j) = 1) := ev
        clear ev hb1 hb
        have hst := hx.stored j (.int .i64 (1))
        have HO : Hid _ := hst.1
        have HY : Hid _ := hy.kept hst.2 (Or.inr (by simp [Value.ownBlock]; omega))
        have HB : Hid _ := hB.setCell (p := ⟨g, j, none⟩) hg1 (.int .i64 (1))
        clear hx hy hB hst
        go_wp2
        have ho := HO.out
        have hm2 := mix_step (Bv.bt a) (fun i => Bv.bt a i || Bv.bt b i) _ j hlt
        simp only [HE.out] at hm2
        rw [hm2] at ho
        exact ⟨⟨j + 1, by omega, by go_num, ho, HY.out, HB.out⟩, by simp [intOf]; omega⟩
      | false =>
        have hb1 : Bv.one (Bv.bt b j) = 0 := by rw [hb]; rfl
        rw [hb1] at hcy
        rw [← mix_skip (Bv.bt a) (fun i => Bv.bt a i || Bv.bt b i) _ j (by simp [hb])] at hx
        clear hb hb1
        go_wp2
        exact ⟨⟨j + 1, by omega, by go_num, hx, hy, hB⟩, by simp [intOf]; omega⟩
    · have ej : j = Bv.wn k := by omega
      rw [ej, mix_all] at hx
      clear ej
      go_wp2_with fail
      refine (rfrom_any k (fun i => Bv.bt a i || Bv.bt b i) HK.out.1 HK.out.2 g cap _ ?_).mono ?_
      · intro i hi
        rw [hx.cellAt i (by omega), List.getElem?_map, Bv.lst_get _ _ _ hi]
        rfl
      rintro e w2 ⟨rfl, hw⟩
      subst hw
      go_wp2
      go_ret
      exact ⟨rfl, hB⟩

end Go.Proofs.YtfbhflpjhbemlaaGreat

/- The walks of the document's own below and divide: the order of a kind; the quotient and the rest of two numbers of 64 bits without a sign, bit by bit. -/
namespace Go.Proofs.YtfbhflpjhbemlaaGreat
open Go.RowKit

theorem below9 (a b : Int) (ia : Bv.I64 a) (ib : Bv.I64 b) : Bv.lss 9 a b = if (decide (a < 0) != decide (b < 0)) then decide (b < 0) else decide (a < b) := by
  rw [Bv.lss_u (by omega), Bv.U_eq, Bv.U_eq]
  unfold Bv.I64 at ia ib
  by_cases ha : a < 0
  · by_cases hb : b < 0
    · simp only [ha, hb, decide_true, bne_self_eq_false, Bool.false_eq_true, if_false]
      rw [decide_eq_decide]; omega
    · simp [ha, hb]; omega
  · by_cases hb : b < 0
    · simp [ha, hb]; omega
    · simp only [ha, hb, decide_false, bne_self_eq_false, Bool.false_eq_true, if_false]
      rw [decide_eq_decide]; omega

theorem below_num (k a b : Int) (h : 6 ≤ k → 0 ≤ a ∧ 0 ≤ b) (ia : Bv.I64 a) (ib : Bv.I64 b) : Bv.lss k a b = decide (a < b) := by
  by_cases h6 : 6 ≤ k
  · rw [Bv.lss_u h6, Bv.U_eq, Bv.U_eq]
    unfold Bv.I64 at ia ib
    have := h h6
    rw [decide_eq_decide]; omega
  · exact Bv.lss_s (by omega) a b

set_option maxHeartbeats 400000 in
theorem below9_any (a b : Int) (ia : Bv.I64 a) (ib : Bv.I64 b) (w : World) :
    Calls Tryz.prog 77 #[.int .i64 9, .int .i64 a, .int .i64 b] w fun e w' => e = .returned (.bool (Bv.lss 9 a b)) ∧ w' = w := by
  rw [below9 a b ia ib]
  clear ia ib
  by_cases ha : a < 0
  · by_cases hb : b < 0
    · go_enter Tryz.func77, Tryz.ntmps77
      go_wp2
      all_goals go_ret
      all_goals exact ⟨ret_bool (by first | rfl | (simp; done) | (simp; omega)), rfl⟩
    · go_enter Tryz.func77, Tryz.ntmps77
      go_wp2
      all_goals go_ret
      all_goals exact ⟨ret_bool (by first | rfl | (simp; done) | (simp; omega)), rfl⟩
  · by_cases hb : b < 0
    · go_enter Tryz.func77, Tryz.ntmps77
      go_wp2
      all_goals go_ret
      all_goals exact ⟨ret_bool (by first | rfl | (simp; done) | (simp; omega)), rfl⟩
    · go_enter Tryz.func77, Tryz.ntmps77
      go_wp2
      all_goals go_ret
      all_goals exact ⟨ret_bool (by first | rfl | (simp; done) | (simp; omega)), rfl⟩

set_option maxHeartbeats 400000 in
theorem below_any (k a b : Int) (h1 : k ≤ 8) (h : 6 ≤ k → 0 ≤ a ∧ 0 ≤ b) (ia : Bv.I64 a) (ib : Bv.I64 b) (w : World) :
    Calls Tryz.prog 77 #[.int .i64 k, .int .i64 a, .int .i64 b] w fun e w' => e = .returned (.bool (Bv.lss k a b)) ∧ w' = w := by
  rw [below_num k a b h ia ib]
  have hk : (k == 9) = false := by rw [beq_eq_false_iff_ne]; omega
  clear ia ib h h1
  go_enter Tryz.func77, Tryz.ntmps77
  go_wp2
  all_goals go_ret
  all_goals exact ⟨rfl, rfl⟩

theorem half (A t : Nat) : A / 2 ^ t = 2 * (A / 2 ^ (t + 1)) + (if A.testBit t then 1 else 0) := by
  have e : A / 2 ^ (t + 1) = A / 2 ^ t / 2 := by rw [Nat.pow_succ, Nat.div_div_eq_div_mul]
  rw [e, Nat.testBit_eq_decide_div_mod_eq]
  by_cases h : A / 2 ^ t % 2 = 1
  · simp [h]; omega
  · simp [h]; omega

theorem div_next (P1 B x : Nat) (hB : 0 < B) (hx : x ≤ 1) : (2 * P1 + x) % B = (if 2 * (P1 % B) + x < B then 2 * (P1 % B) + x else 2 * (P1 % B) + x - B) ∧ (2 * P1 + x) / B = (if 2 * (P1 % B) + x < B then 2 * (P1 / B) else 2 * (P1 / B) + 1) := by
  have h1 := Nat.div_add_mod P1 B
  have h2 := Nat.mod_lt P1 hB
  generalize P1 % B = R at *
  generalize P1 / B = Q at *
  have e : 2 * P1 + x = B * (2 * Q) + (2 * R + x) := by
    rw [← h1, Nat.mul_add, ← Nat.mul_assoc, ← Nat.mul_assoc, Nat.mul_comm 2 B]; omega
  split
  · rename_i h
    rw [e, Nat.mul_add_mod, Nat.mod_eq_of_lt h, Nat.mul_add_div hB, Nat.div_eq_of_lt h]
    simp
  · rename_i h
    have e2 : B * (2 * Q) + (2 * R + x) = B * (2 * Q + 1) + (2 * R + x - B) := by rw [Nat.mul_add]; omega
    have h3 : 2 * R + x - B < B := by omega
    rw [e, e2, Nat.mul_add_mod, Nat.mod_eq_of_lt h3, Nat.mul_add_div hB, Nat.div_eq_of_lt h3]
    simp

theorem wa (y x : Int) : wrap64 (wrap64 y + x) = wrap64 (y + x) := by unfold wrap64; omega
theorem wm (z : Int) : wrap64 (2 * wrap64 z) = wrap64 (2 * z) := by unfold wrap64; omega
theorem ws (y z : Int) : wrap64 (wrap64 y - wrap64 z) = wrap64 (y - z) := by unfold wrap64; omega
theorem wneg (N : Nat) (h : N < 18446744073709551616) : wrap64 (N : Int) < 0 ↔ 9223372036854775808 ≤ N := by unfold wrap64; omega
theorem wmod (y : Int) : wrap64 y % 18446744073709551616 = y % 18446744073709551616 := by unfold wrap64; omega
theorem wtop (y : Int) : wrap64 (y + -9223372036854775808) = wrap64 (y + 9223372036854775808) := by unfold wrap64; omega

theorem div_step (a b : Int) (t : Nat) (ib : Bv.I64 b) (hb : 0 < Bv.low 64 b) (r q : Int)
    (hr : r = wrap64 ((Bv.low 64 a / 2 ^ (t + 1) % Bv.low 64 b : Nat) : Int)) (hq : q = wrap64 ((Bv.low 64 a / 2 ^ (t + 1) / Bv.low 64 b * 2 ^ (t + 1) : Nat) : Int)) :
    ∃ r1, wrap64 (wrap64 (2 * r) + Bv.one (Bv.bt a t)) = r1 ∧ Bv.I64 r1 ∧
      ((r < 0 ∨ Bv.lss 9 r1 b = false) → wrap64 (r1 - b) = wrap64 ((Bv.low 64 a / 2 ^ t % Bv.low 64 b : Nat) : Int) ∧ wrap64 (q + 2 ^ t) = wrap64 ((Bv.low 64 a / 2 ^ t / Bv.low 64 b * 2 ^ t : Nat) : Int) ∧ (t = 63 → wrap64 (q + -9223372036854775808) = wrap64 ((Bv.low 64 a / 2 ^ t / Bv.low 64 b * 2 ^ t : Nat) : Int))) ∧
      (¬ r < 0 → Bv.lss 9 r1 b = true → r1 = wrap64 ((Bv.low 64 a / 2 ^ t % Bv.low 64 b : Nat) : Int) ∧ q = wrap64 ((Bv.low 64 a / 2 ^ t / Bv.low 64 b * 2 ^ t : Nat) : Int)) := by
  have hB64 := Bv.low_lt 64 b
  have e64 : (2 : Nat) ^ 64 = 18446744073709551616 := by decide
  rw [e64] at hB64
  have hbw : b = wrap64 (Bv.low 64 b : Int) := by
    unfold Bv.low wrap64
    unfold Bv.I64 at ib
    omega
  have hone : Bv.one (Bv.bt a t) = ((if (Bv.low 64 a).testBit t then 1 else 0 : Nat) : Int) := by
    unfold Bv.bt
    cases (Bv.low 64 a).testBit t <;> rfl
  have hh := half (Bv.low 64 a) t
  have hx : (if (Bv.low 64 a).testBit t then 1 else 0 : Nat) ≤ 1 := by split <;> omega
  generalize (if (Bv.low 64 a).testBit t then 1 else 0 : Nat) = x at *
  obtain ⟨m1, m2⟩ := div_next (Bv.low 64 a / 2 ^ (t + 1)) (Bv.low 64 b) x hb hx
  rw [← hh] at m1 m2
  have hR := Nat.mod_lt (Bv.low 64 a / 2 ^ (t + 1)) hb
  have hl : ∀ y : Int, Bv.lss 9 (wrap64 y) b = decide (y % 18446744073709551616 < (Bv.low 64 b : Int)) := by
    intro y
    rw [Bv.lss_u (by omega), Bv.U_eq, Bv.U_eq, wmod, decide_eq_decide]
    have : b % 18446744073709551616 = (Bv.low 64 b : Int) := by unfold Bv.low; omega
    rw [this]
  clear hh
  rw [hone]
  generalize Bv.low 64 b = B at *
  generalize Bv.low 64 a / 2 ^ (t + 1) % B = R at *
  generalize Bv.low 64 a / 2 ^ (t + 1) / B = Q at *
  generalize Bv.low 64 a / 2 ^ t % B = R' at *
  generalize Bv.low 64 a / 2 ^ t / B = Q' at *
  have ep : Q * 2 ^ (t + 1) = 2 * (Q * 2 ^ t) := by rw [Nat.pow_succ, ← Nat.mul_assoc, Nat.mul_comm]
  have epi : ((2 : Int) ^ t) = ((2 ^ t : Nat) : Int) := by simp
  have ep63 : t = 63 → 2 ^ t = 9223372036854775808 := by intro h; subst h; decide
  rw [ep] at hq
  have er1 : wrap64 (wrap64 (2 * r) + (x : Int)) = wrap64 ((2 * R + x : Nat) : Int) := by
    rw [hr, wm, wa]; congr 1
  rw [er1]
  have hneg : r < 0 ↔ 9223372036854775808 ≤ R := by rw [hr]; exact wneg R (by omega)
  have hlr := hl ((2 * R + x : Nat) : Int)
  clear hl er1 hone ib
  refine ⟨_, rfl, Bv.i64_wrap64 _, fun h => ?_, fun h1 h2 => ?_⟩
  · have hge : ¬ 2 * R + x < B := by
      rcases h with h | h
      · have := hneg.1 h; omega
      · rw [hlr] at h
        have h' := of_decide_eq_false h
        by_cases hn : 9223372036854775808 ≤ R
        · omega
        · omega
    rw [if_neg hge] at m1 m2
    have eq' : Q' * 2 ^ t = 2 * (Q * 2 ^ t) + 2 ^ t := by rw [m2, Nat.add_mul, Nat.one_mul, Nat.mul_assoc]
    rw [eq', epi]
    clear hlr h hneg
    refine ⟨?_, ?_, fun h63 => ?_⟩
    · rw [hbw, ws, m1]
      congr 1
      omega
    · rw [hq, wa]
      congr 1
    · rw [hq, wtop, wa, ep63 h63]
      congr 1
  · have hlt : 2 * R + x < B := by
      rw [hlr] at h2
      have h' := of_decide_eq_true h2
      have hn : ¬ 9223372036854775808 ≤ R := fun h => h1 (hneg.2 h)
      omega
    rw [if_pos hlt] at m1 m2
    refine ⟨?_, ?_⟩
    · rw [m1]
    · rw [hq, m2, Nat.mul_assoc]
end Go.Proofs.YtfbhflpjhbemlaaGreat

/- The walk of the document's own divide: the quotient and the rest of two numbers of 64 bits without a sign (the divisor not nought). -/
namespace Go.Proofs.YtfbhflpjhbemlaaGreat
open Go.RowKit

set_option maxHeartbeats 4000000 in
theorem divide_any (a b : Int) (ib : Bv.I64 b) (hb : 0 < Bv.low 64 b) (w : World) :
    Calls Tryz.prog 75 #[.int .i64 a, .int .i64 b] w fun e w' => e = .returned (.tuple #[.int .i64 (wrap64 ((Bv.low 64 a / Bv.low 64 b : Nat) : Int)), .int .i64 (wrap64 ((Bv.low 64 a % Bv.low 64 b : Nat) : Int))]) ∧ w' = w := by
  have HS : Hid (∀ (t : Nat) (r q : Int), r = wrap64 ((Bv.low 64 a / 2 ^ (t + 1) % Bv.low 64 b : Nat) : Int) → q = wrap64 ((Bv.low 64 a / 2 ^ (t + 1) / Bv.low 64 b * 2 ^ (t + 1) : Nat) : Int) → _) := fun t r q => div_step a b t ib hb r q
  have hz : Bv.low 64 a / 2 ^ 64 = 0 := Nat.div_eq_of_lt (Bv.low_lt 64 a)
  have H0 : Hid ((0 : Int) = wrap64 ((Bv.low 64 a / 2 ^ 64 % Bv.low 64 b : Nat) : Int) ∧ (0 : Int) = wrap64 ((Bv.low 64 a / 2 ^ 64 / Bv.low 64 b * 2 ^ 64 : Nat) : Int)) := by
    rw [hz]
    constructor
    · rw [Nat.zero_mod]; kernel_rfl
    · rw [Nat.zero_div, Nat.zero_mul]; kernel_rfl
  clear hz hb
  go_enter Tryz.func75, Tryz.ntmps75
  go_wp2
  go_loop [6, 7, 8] (fun q r i => ∃ t : Nat, ∃ x y : Int, t ≤ 64 ∧ i = .int .i64 ((t : Int) - 1) ∧ q = .int .i64 x ∧ r = .int .i64 y ∧ Hid (y = wrap64 ((Bv.low 64 a / 2 ^ t % Bv.low 64 b : Nat) : Int) ∧ x = wrap64 ((Bv.low 64 a / 2 ^ t / Bv.low 64 b * 2 ^ t : Nat) : Int))) (fun _ _ i => (intOf i + 1).toNat)
  case atStart => exact ⟨64, 0, 0, by omega, rfl, rfl, rfl, H0⟩
  case round =>
    clear H0
    obtain ⟨t, x, y, ht, rfl, rfl, rfl, HX⟩ := hrel
    cases t with
    | zero =>
      have e : ((0 : Nat) : Int) - 1 = -1 := rfl
      rw [e]
      go_wp2
      go_ret2
      obtain ⟨hy, hx⟩ := HX.out
      exact ⟨by rw [hx, hy]; simp, rfl⟩
    | succ s =>
      have e : ((s + 1 : Nat) : Int) - 1 = (s : Int) := by omega
      rw [e]
      clear e
      obtain ⟨r1, er, i1, ht1, ht2⟩ := HS.out s y x HX.out.1 HX.out.2
      have HT : Hid _ := And.intro ht1 ht2
      clear ht1 ht2 HX
      have fin : ∀ x' y' : Int, y' = wrap64 ((Bv.low 64 a / 2 ^ s % Bv.low 64 b : Nat) : Int) → x' = wrap64 ((Bv.low 64 a / 2 ^ s / Bv.low 64 b * 2 ^ s : Nat) : Int) →
          (∃ t : Nat, ∃ x y : Int, t ≤ 64 ∧ Value.int .i64 ((s : Int) - 1) = .int .i64 ((t : Int) - 1) ∧ Value.int .i64 x' = .int .i64 x ∧ Value.int .i64 y' = .int .i64 y ∧ Hid (y = wrap64 ((Bv.low 64 a / 2 ^ t % Bv.low 64 b : Nat) : Int) ∧ x = wrap64 ((Bv.low 64 a / 2 ^ t / Bv.low 64 b * 2 ^ t : Nat) : Int))) ∧
            (intOf (.int .i64 ((s : Int) - 1)) + 1).toNat < (intOf (.int .i64 (s : Int)) + 1).toNat := fun x' y' h1 h2 =>
        ⟨⟨s, x', y', by omega, rfl, rfl, rfl, h1, h2⟩, by simp [intOf]⟩
      have HF : Hid _ := fin
      clear fin
      have h63s : (s = 63 ∧ ((s : Int) == 63) = true) ∨ (¬ s = 63 ∧ ((s : Int) == 63) = false) := by
        by_cases h : s = 63
        · exact Or.inl ⟨h, by rw [beq_iff_eq]; omega⟩
        · exact Or.inr ⟨h, by rw [beq_eq_false_iff_ne]; omega⟩
      by_cases hover : y < 0
      · have HA : Hid _ := HT.out.1 (Or.inl hover)
        clear HT
        rcases h63s with ⟨h63, h63'⟩ | ⟨h63, h63'⟩
        · have H63 : Hid (s = 63) := h63
          clear h63
          go_wp2_with (first | (go_at_call 85; refine (rbit_any _ _ (by omega) _).mono ?_; rintro e w2 ⟨rfl, hw⟩; subst hw) | (go_at_call 69; refine (rpower_any _ (by omega) _).mono ?_; rintro e w2 ⟨rfl, hw⟩; subst hw) | (go_at_call 77; refine (below9_any _ _ (by assumption) (by assumption) _).mono ?_; rintro e w2 ⟨rfl, hw⟩; subst hw))
          exact HF.out _ _ HA.out.1 (HA.out.2.2 H63.out)
        · go_wp2_with (first | (go_at_call 85; refine (rbit_any _ _ (by omega) _).mono ?_; rintro e w2 ⟨rfl, hw⟩; subst hw) | (go_at_call 69; refine (rpower_any _ (by omega) _).mono ?_; rintro e w2 ⟨rfl, hw⟩; subst hw) | (go_at_call 77; refine (below9_any _ _ (by assumption) (by assumption) _).mono ?_; rintro e w2 ⟨rfl, hw⟩; subst hw))
          exact HF.out _ _ HA.out.1 HA.out.2.1
      · cases hl : Bv.lss 9 r1 b with
        | false =>
          have HA : Hid _ := HT.out.1 (Or.inr hl)
          clear HT
          rcases h63s with ⟨h63, h63'⟩ | ⟨h63, h63'⟩
          · have H63 : Hid (s = 63) := h63
            clear h63
            go_wp2_with (first | (go_at_call 85; refine (rbit_any _ _ (by omega) _).mono ?_; rintro e w2 ⟨rfl, hw⟩; subst hw) | (go_at_call 69; refine (rpower_any _ (by omega) _).mono ?_; rintro e w2 ⟨rfl, hw⟩; subst hw) | (go_at_call 77; refine (below9_any _ _ (by assumption) (by assumption) _).mono ?_; rintro e w2 ⟨rfl, hw⟩; subst hw))
            exact HF.out _ _ HA.out.1 (HA.out.2.2 H63.out)
          · go_wp2_with (first | (go_at_call 85; refine (rbit_any _ _ (by omega) _).mono ?_; rintro e w2 ⟨rfl, hw⟩; subst hw) | (go_at_call 69; refine (rpower_any _ (by omega) _).mono ?_; rintro e w2 ⟨rfl, hw⟩; subst hw) | (go_at_call 77; refine (below9_any _ _ (by assumption) (by assumption) _).mono ?_; rintro e w2 ⟨rfl, hw⟩; subst hw))
            exact HF.out _ _ HA.out.1 HA.out.2.1
        | true =>
          have HA : Hid _ := HT.out.2 (by omega) hl
          clear HT h63s
          go_wp2_with (first | (go_at_call 85; refine (rbit_any _ _ (by omega) _).mono ?_; rintro e w2 ⟨rfl, hw⟩; subst hw) | (go_at_call 69; refine (rpower_any _ (by omega) _).mono ?_; rintro e w2 ⟨rfl, hw⟩; subst hw) | (go_at_call 77; refine (below9_any _ _ (by assumption) (by assumption) _).mono ?_; rintro e w2 ⟨rfl, hw⟩; subst hw))
          exact HF.out _ _ HA.out.1 HA.out.2
end Go.Proofs.YtfbhflpjhbemlaaGreat
