/- The document's own tokens, on: its number of the kinds below 64 bits. -/
import Derived.Test.YtbiplgidlmbbkaaDoorLexV
namespace Go.Proofs.YtbiplgidlmbbkaaDoor
open Go.RowKit Go.Maps Go.WideMaps

theorem kindOk_small {k : Int} {d : List UInt8} (h20 : d.length ≤ 20) (hk : 2 ≤ k) : Lex.kindOk k d = decide ((Lex.numVal d : Int) ≤ Lex.top k) := by
  unfold Lex.kindOk; rw [decide_eq_true h20, decide_eq_true hk]; rfl
theorem numOk_small {k : Int} {d : List UInt8} (h20 : d.length ≤ 20) (hk : 2 ≤ k) : numOk k d = decide ((Lex.numVal d : Int) ≤ Lex.top k) := by
  unfold numOk; rw [if_neg (by omega)]; exact kindOk_small h20 hk
theorem numPost_long {k : Int} {d : List UInt8} {w : World} {n : Int} (h : ¬ d.length ≤ 20) (hk : 2 ≤ k) : numPost k d w (.returned (.tuple #[.int .i64 n, .bool false])) w := by
  refine numPost_no ?_
  unfold numOk; rw [if_neg (by omega)]; unfold Lex.kindOk; rw [decide_eq_false h]; rfl
theorem numPost_big {k : Int} {d : List UInt8} {w : World} {n : Int} (h20 : d.length ≤ 20) (hk : 2 ≤ k) (h : Lex.top k < (Lex.numVal d : Int)) : numPost k d w (.returned (.tuple #[.int .i64 n, .bool false])) w := by
  refine numPost_no ?_
  rw [numOk_small h20 hk, decide_eq_false_iff_not]; omega
theorem numPost_small {k : Int} {d : List UInt8} {w : World} {n : Int} (h20 : d.length ≤ 20) (hk : 2 ≤ k) (h : (Lex.numVal d : Int) ≤ Lex.top k) (hn : n = Bv.wrp k (wrap64 (Lex.numVal d))) : numPost k d w (.returned (.tuple #[.int .i64 n, .bool true])) w := by
  refine numPost_yes ?_ ?_
  · rw [numOk_small h20 hk, decide_eq_true_iff]; exact h
  · unfold numN; rw [if_neg (by omega)]; exact hn
theorem wrap_small {n : Int} (h0 : 0 ≤ n) (h : n ≤ 8589934592) : wrap64 n = n := by unfold wrap64; omega
theorem numPost_dec {k m : Int} {d : List UInt8} {w : World} (h20 : d.length ≤ 20) (hk : 2 ≤ k) (hm : Lex.top k + 1 = m) (n : Int) (hn : n = (Lex.numVal d : Int)) (hw : 0 ≤ n → n ≤ Lex.top k → n = Bv.wrp k (wrap64 n)) : numPost k d w (.returned (.tuple #[.int .i64 n, .bool (decide (n < m))])) w := by
  by_cases h : n < m
  · rw [decide_eq_true h]
    exact numPost_small h20 hk (by omega) (by rw [← hn]; exact hw (by omega) (by omega))
  · rw [decide_eq_false h]
    exact numPost_big h20 hk (by omega)

set_option maxHeartbeats 3200000 in
set_option maxRecDepth 20000 in
theorem rnumber_2 (d : ByteArray) (hd : Lex.digits d.data.toList) (hsz : d.size ≤ 65536) (w : World) :
    Calls Tryd.prog 33 #[.string d, .int .i64 2] w fun e w' => numPost 2 d.data.toList w e w' := by
  have hl : d.data.toList.length = d.size := Array.length_toList
  have htop : Lex.top 2 = 128 := rfl
  have HT := Lib.hid htop
  clear htop
  have hwid : Bv.wid 2 = 8 := rfl
  by_cases h9 : d.size ≤ 20
  · have t1 : decide ((20 : Int) < (d.size : Int)) = false := by rw [decide_eq_false_iff_not]; omega
    have h20 : d.data.toList.length ≤ 20 := by omega
    have H20 := Lib.hid h20
    clear h20
    go_enter Tryd.func33, Tryd.ntmps33
    go_wp2
    go_loop [6, 7] (fun a b => ∃ (i : Nat) (n : Int), i ≤ d.size ∧ b = .int .i64 (i : Int) ∧ a = .int .i64 n ∧ 0 ≤ n ∧ n ≤ 8589934592 ∧ Hid (n = (Lex.fv 0 (d.data.toList.take i) : Int))) (fun _ b => d.size - (intOf b).toNat)
    case atStart => exact ⟨0, 0, Nat.zero_le _, rfl, rfl, by decide, by decide, rfl⟩
    case round =>
      obtain ⟨i, n, hi, rfl, rfl, hn0, hn, H⟩ := hrel
      by_cases hlt2 : i < d.size
      · have hx := fun wx => idx_str d i hlt2 (i : Int) rfl wx
        rw [Lex.pk_eq (by omega)] at hx
        have hdg := Lex.digits_at hd (i := i) (by omega)
        have hst := Lex.fv_take d.data.toList i (by omega)
        have hge := Lex.fv_drop_ge d.data.toList (i + 1)
        have hv := Lex.numVal_eq d.data.toList
        obtain ⟨z, hz⟩ : ∃ z : Int, z = ((d.data.toList[i]'(by omega)).toNat : Int) := ⟨_, rfl⟩
        simp only [← hz] at hx
        have hz1 : 48 ≤ z := by omega
        have hz2 : z ≤ 57 := by omega
        have hstep : n * 10 + (z - 48) = (Lex.fv 0 (d.data.toList.take (i + 1)) : Int) := by
          rw [hst, H.out, hz]; omega
        have hb : n * 10 + (z - 48) ≤ (Lex.numVal d.data.toList : Int) := by
          omega
        have HS := Lib.hid hstep
        have HB := Lib.hid hb
        clear hst hge hv hdg hz hstep hb
        go_wp2
        · go_ret2
          refine numPost_big H20.out (by decide) ?_
          have h1 := HB.out
          rw [HT.out]; omega
        · go_round
          case rel => exact ⟨i + 1, _, by omega, by go_num, rfl, by omega, by omega, Lib.hid (by have := HS.out; omega)⟩
          case measure => simp [intOf]; omega
      · have e : i = d.size := by omega
        subst e
        have hv : n = (Lex.numVal d.data.toList : Int) := by
          have h2 := H.out
          rw [← hl, List.take_length, ← Lex.numVal_eq] at h2
          exact h2
        have HV := Lib.hid hv
        clear hv H
        go_wp2_with (go_at_call 22; refine (rwidth_any _ _).mono ?_; rintro e w' ⟨rfl, rfl⟩; rw [hwid])
        go_loop [10, 11] (fun p i => ∃ (j : Nat) (q : Int), j ≤ 8 ∧ i = .int .i64 j ∧ p = .int .i64 q ∧ Hid (q = 2 ^ j)) (fun _ i => 8 - (intOf i).toNat)
        case atStart => exact ⟨0, 1, Nat.zero_le _, rfl, rfl, rfl⟩
        case round =>
          obtain ⟨j, q, hj, rfl, rfl, HQ⟩ := hrel
          by_cases hlt : j < 8
          · go_wp2
            all_goals
              go_round
              case rel => exact ⟨j + 1, _, by omega, by go_num, rfl, by have e := HQ.out; subst e; exact pow_step j (by omega)⟩
              case measure => simp [intOf]; omega
          · have e : j = 8 := by omega
            subst e
            have hq : q = 256 := HQ.out
            subst hq
            clear HQ
            go_wp2_with (first | (go_at_call 24; refine (rsigned_any _ _).mono ?_; rintro e w' ⟨rfl, rfl⟩) | (go_at_call 13; refine (rwrap_2 _ _).mono ?_; rintro e w' ⟨rfl, rfl⟩))
            · go_ret2
              refine numPost_big H20.out (by decide) ?_
              rw [HT.out, ← HV.out]; omega
            · go_ret2
              refine numPost_small H20.out (by decide) (by rw [HT.out, ← HV.out]; omega) ?_
              rw [← HV.out, wrap_small (by omega) (by omega)]
  · have t2 : decide ((20 : Int) < (d.size : Int)) = true := by rw [decide_eq_true_iff]; omega
    go_enter Tryd.func33, Tryd.ntmps33
    go_wp2
    all_goals go_ret2
    all_goals exact numPost_long (by omega) (by decide)

set_option maxHeartbeats 3200000 in
set_option maxRecDepth 20000 in
theorem rnumber_3 (d : ByteArray) (hd : Lex.digits d.data.toList) (hsz : d.size ≤ 65536) (w : World) :
    Calls Tryd.prog 33 #[.string d, .int .i64 3] w fun e w' => numPost 3 d.data.toList w e w' := by
  have hl : d.data.toList.length = d.size := Array.length_toList
  have htop : Lex.top 3 = 32768 := rfl
  have HT := Lib.hid htop
  clear htop
  have hwid : Bv.wid 3 = 16 := rfl
  by_cases h9 : d.size ≤ 20
  · have t1 : decide ((20 : Int) < (d.size : Int)) = false := by rw [decide_eq_false_iff_not]; omega
    have h20 : d.data.toList.length ≤ 20 := by omega
    have H20 := Lib.hid h20
    clear h20
    go_enter Tryd.func33, Tryd.ntmps33
    go_wp2
    go_loop [6, 7] (fun a b => ∃ (i : Nat) (n : Int), i ≤ d.size ∧ b = .int .i64 (i : Int) ∧ a = .int .i64 n ∧ 0 ≤ n ∧ n ≤ 8589934592 ∧ Hid (n = (Lex.fv 0 (d.data.toList.take i) : Int))) (fun _ b => d.size - (intOf b).toNat)
    case atStart => exact ⟨0, 0, Nat.zero_le _, rfl, rfl, by decide, by decide, rfl⟩
    case round =>
      obtain ⟨i, n, hi, rfl, rfl, hn0, hn, H⟩ := hrel
      by_cases hlt2 : i < d.size
      · have hx := fun wx => idx_str d i hlt2 (i : Int) rfl wx
        rw [Lex.pk_eq (by omega)] at hx
        have hdg := Lex.digits_at hd (i := i) (by omega)
        have hst := Lex.fv_take d.data.toList i (by omega)
        have hge := Lex.fv_drop_ge d.data.toList (i + 1)
        have hv := Lex.numVal_eq d.data.toList
        obtain ⟨z, hz⟩ : ∃ z : Int, z = ((d.data.toList[i]'(by omega)).toNat : Int) := ⟨_, rfl⟩
        simp only [← hz] at hx
        have hz1 : 48 ≤ z := by omega
        have hz2 : z ≤ 57 := by omega
        have hstep : n * 10 + (z - 48) = (Lex.fv 0 (d.data.toList.take (i + 1)) : Int) := by
          rw [hst, H.out, hz]; omega
        have hb : n * 10 + (z - 48) ≤ (Lex.numVal d.data.toList : Int) := by
          omega
        have HS := Lib.hid hstep
        have HB := Lib.hid hb
        clear hst hge hv hdg hz hstep hb
        go_wp2
        · go_ret2
          refine numPost_big H20.out (by decide) ?_
          have h1 := HB.out
          rw [HT.out]; omega
        · go_round
          case rel => exact ⟨i + 1, _, by omega, by go_num, rfl, by omega, by omega, Lib.hid (by have := HS.out; omega)⟩
          case measure => simp [intOf]; omega
      · have e : i = d.size := by omega
        subst e
        have hv : n = (Lex.numVal d.data.toList : Int) := by
          have h2 := H.out
          rw [← hl, List.take_length, ← Lex.numVal_eq] at h2
          exact h2
        have HV := Lib.hid hv
        clear hv H
        go_wp2_with (go_at_call 22; refine (rwidth_any _ _).mono ?_; rintro e w' ⟨rfl, rfl⟩; rw [hwid])
        go_loop [10, 11] (fun p i => ∃ (j : Nat) (q : Int), j ≤ 16 ∧ i = .int .i64 j ∧ p = .int .i64 q ∧ Hid (q = 2 ^ j)) (fun _ i => 16 - (intOf i).toNat)
        case atStart => exact ⟨0, 1, Nat.zero_le _, rfl, rfl, rfl⟩
        case round =>
          obtain ⟨j, q, hj, rfl, rfl, HQ⟩ := hrel
          by_cases hlt : j < 16
          · go_wp2
            all_goals
              go_round
              case rel => exact ⟨j + 1, _, by omega, by go_num, rfl, by have e := HQ.out; subst e; exact pow_step j (by omega)⟩
              case measure => simp [intOf]; omega
          · have e : j = 16 := by omega
            subst e
            have hq : q = 65536 := HQ.out
            subst hq
            clear HQ
            go_wp2_with (first | (go_at_call 24; refine (rsigned_any _ _).mono ?_; rintro e w' ⟨rfl, rfl⟩) | (go_at_call 13; refine (rwrap_3 _ _).mono ?_; rintro e w' ⟨rfl, rfl⟩))
            · go_ret2
              refine numPost_big H20.out (by decide) ?_
              rw [HT.out, ← HV.out]; omega
            · go_ret2
              refine numPost_small H20.out (by decide) (by rw [HT.out, ← HV.out]; omega) ?_
              rw [← HV.out, wrap_small (by omega) (by omega)]
  · have t2 : decide ((20 : Int) < (d.size : Int)) = true := by rw [decide_eq_true_iff]; omega
    go_enter Tryd.func33, Tryd.ntmps33
    go_wp2
    all_goals go_ret2
    all_goals exact numPost_long (by omega) (by decide)

set_option maxHeartbeats 3200000 in
set_option maxRecDepth 20000 in
theorem rnumber_4 (d : ByteArray) (hd : Lex.digits d.data.toList) (hsz : d.size ≤ 65536) (w : World) :
    Calls Tryd.prog 33 #[.string d, .int .i64 4] w fun e w' => numPost 4 d.data.toList w e w' := by
  have hl : d.data.toList.length = d.size := Array.length_toList
  have htop : Lex.top 4 = 2147483648 := rfl
  have HT := Lib.hid htop
  clear htop
  have hwid : Bv.wid 4 = 32 := rfl
  by_cases h9 : d.size ≤ 20
  · have t1 : decide ((20 : Int) < (d.size : Int)) = false := by rw [decide_eq_false_iff_not]; omega
    have h20 : d.data.toList.length ≤ 20 := by omega
    have H20 := Lib.hid h20
    clear h20
    go_enter Tryd.func33, Tryd.ntmps33
    go_wp2
    go_loop [6, 7] (fun a b => ∃ (i : Nat) (n : Int), i ≤ d.size ∧ b = .int .i64 (i : Int) ∧ a = .int .i64 n ∧ 0 ≤ n ∧ n ≤ 8589934592 ∧ Hid (n = (Lex.fv 0 (d.data.toList.take i) : Int))) (fun _ b => d.size - (intOf b).toNat)
    case atStart => exact ⟨0, 0, Nat.zero_le _, rfl, rfl, by decide, by decide, rfl⟩
    case round =>
      obtain ⟨i, n, hi, rfl, rfl, hn0, hn, H⟩ := hrel
      by_cases hlt2 : i < d.size
      · have hx := fun wx => idx_str d i hlt2 (i : Int) rfl wx
        rw [Lex.pk_eq (by omega)] at hx
        have hdg := Lex.digits_at hd (i := i) (by omega)
        have hst := Lex.fv_take d.data.toList i (by omega)
        have hge := Lex.fv_drop_ge d.data.toList (i + 1)
        have hv := Lex.numVal_eq d.data.toList
        obtain ⟨z, hz⟩ : ∃ z : Int, z = ((d.data.toList[i]'(by omega)).toNat : Int) := ⟨_, rfl⟩
        simp only [← hz] at hx
        have hz1 : 48 ≤ z := by omega
        have hz2 : z ≤ 57 := by omega
        have hstep : n * 10 + (z - 48) = (Lex.fv 0 (d.data.toList.take (i + 1)) : Int) := by
          rw [hst, H.out, hz]; omega
        have hb : n * 10 + (z - 48) ≤ (Lex.numVal d.data.toList : Int) := by
          omega
        have HS := Lib.hid hstep
        have HB := Lib.hid hb
        clear hst hge hv hdg hz hstep hb
        go_wp2
        · go_ret2
          refine numPost_big H20.out (by decide) ?_
          have h1 := HB.out
          rw [HT.out]; omega
        · go_round
          case rel => exact ⟨i + 1, _, by omega, by go_num, rfl, by omega, by omega, Lib.hid (by have := HS.out; omega)⟩
          case measure => simp [intOf]; omega
      · have e : i = d.size := by omega
        subst e
        have hv : n = (Lex.numVal d.data.toList : Int) := by
          have h2 := H.out
          rw [← hl, List.take_length, ← Lex.numVal_eq] at h2
          exact h2
        have HV := Lib.hid hv
        clear hv H
        go_wp2_with (go_at_call 22; refine (rwidth_any _ _).mono ?_; rintro e w' ⟨rfl, rfl⟩; rw [hwid])
        go_loop [10, 11] (fun p i => ∃ (j : Nat) (q : Int), j ≤ 32 ∧ i = .int .i64 j ∧ p = .int .i64 q ∧ Hid (q = 2 ^ j)) (fun _ i => 32 - (intOf i).toNat)
        case atStart => exact ⟨0, 1, Nat.zero_le _, rfl, rfl, rfl⟩
        case round =>
          obtain ⟨j, q, hj, rfl, rfl, HQ⟩ := hrel
          by_cases hlt : j < 32
          · go_wp2
            all_goals
              go_round
              case rel => exact ⟨j + 1, _, by omega, by go_num, rfl, by have e := HQ.out; subst e; exact pow_step j (by omega)⟩
              case measure => simp [intOf]; omega
          · have e : j = 32 := by omega
            subst e
            have hq : q = 4294967296 := HQ.out
            subst hq
            clear HQ
            go_wp2_with (first | (go_at_call 24; refine (rsigned_any _ _).mono ?_; rintro e w' ⟨rfl, rfl⟩) | (go_at_call 13; refine (rwrap_4 _ _).mono ?_; rintro e w' ⟨rfl, rfl⟩))
            · go_ret2
              refine numPost_big H20.out (by decide) ?_
              rw [HT.out, ← HV.out]; omega
            · go_ret2
              refine numPost_small H20.out (by decide) (by rw [HT.out, ← HV.out]; omega) ?_
              rw [← HV.out, wrap_small (by omega) (by omega)]
  · have t2 : decide ((20 : Int) < (d.size : Int)) = true := by rw [decide_eq_true_iff]; omega
    go_enter Tryd.func33, Tryd.ntmps33
    go_wp2
    all_goals go_ret2
    all_goals exact numPost_long (by omega) (by decide)

set_option maxHeartbeats 3200000 in
set_option maxRecDepth 20000 in
theorem rnumber_6 (d : ByteArray) (hd : Lex.digits d.data.toList) (hsz : d.size ≤ 65536) (w : World) :
    Calls Tryd.prog 33 #[.string d, .int .i64 6] w fun e w' => numPost 6 d.data.toList w e w' := by
  have hl : d.data.toList.length = d.size := Array.length_toList
  have htop : Lex.top 6 = 255 := rfl
  have HT := Lib.hid htop
  clear htop
  have hwid : Bv.wid 6 = 8 := rfl
  by_cases h9 : d.size ≤ 20
  · have t1 : decide ((20 : Int) < (d.size : Int)) = false := by rw [decide_eq_false_iff_not]; omega
    have h20 : d.data.toList.length ≤ 20 := by omega
    have H20 := Lib.hid h20
    clear h20
    go_enter Tryd.func33, Tryd.ntmps33
    go_wp2
    go_loop [6, 7] (fun a b => ∃ (i : Nat) (n : Int), i ≤ d.size ∧ b = .int .i64 (i : Int) ∧ a = .int .i64 n ∧ 0 ≤ n ∧ n ≤ 8589934592 ∧ Hid (n = (Lex.fv 0 (d.data.toList.take i) : Int))) (fun _ b => d.size - (intOf b).toNat)
    case atStart => exact ⟨0, 0, Nat.zero_le _, rfl, rfl, by decide, by decide, rfl⟩
    case round =>
      obtain ⟨i, n, hi, rfl, rfl, hn0, hn, H⟩ := hrel
      by_cases hlt2 : i < d.size
      · have hx := fun wx => idx_str d i hlt2 (i : Int) rfl wx
        rw [Lex.pk_eq (by omega)] at hx
        have hdg := Lex.digits_at hd (i := i) (by omega)
        have hst := Lex.fv_take d.data.toList i (by omega)
        have hge := Lex.fv_drop_ge d.data.toList (i + 1)
        have hv := Lex.numVal_eq d.data.toList
        obtain ⟨z, hz⟩ : ∃ z : Int, z = ((d.data.toList[i]'(by omega)).toNat : Int) := ⟨_, rfl⟩
        simp only [← hz] at hx
        have hz1 : 48 ≤ z := by omega
        have hz2 : z ≤ 57 := by omega
        have hstep : n * 10 + (z - 48) = (Lex.fv 0 (d.data.toList.take (i + 1)) : Int) := by
          rw [hst, H.out, hz]; omega
        have hb : n * 10 + (z - 48) ≤ (Lex.numVal d.data.toList : Int) := by
          omega
        have HS := Lib.hid hstep
        have HB := Lib.hid hb
        clear hst hge hv hdg hz hstep hb
        go_wp2
        · go_ret2
          refine numPost_big H20.out (by decide) ?_
          have h1 := HB.out
          rw [HT.out]; omega
        · go_round
          case rel => exact ⟨i + 1, _, by omega, by go_num, rfl, by omega, by omega, Lib.hid (by have := HS.out; omega)⟩
          case measure => simp [intOf]; omega
      · have e : i = d.size := by omega
        subst e
        have hv : n = (Lex.numVal d.data.toList : Int) := by
          have h2 := H.out
          rw [← hl, List.take_length, ← Lex.numVal_eq] at h2
          exact h2
        have HV := Lib.hid hv
        clear hv H
        go_wp2_with (go_at_call 22; refine (rwidth_any _ _).mono ?_; rintro e w' ⟨rfl, rfl⟩; rw [hwid])
        go_loop [10, 11] (fun p i => ∃ (j : Nat) (q : Int), j ≤ 8 ∧ i = .int .i64 j ∧ p = .int .i64 q ∧ Hid (q = 2 ^ j)) (fun _ i => 8 - (intOf i).toNat)
        case atStart => exact ⟨0, 1, Nat.zero_le _, rfl, rfl, rfl⟩
        case round =>
          obtain ⟨j, q, hj, rfl, rfl, HQ⟩ := hrel
          by_cases hlt : j < 8
          · go_wp2
            all_goals
              go_round
              case rel => exact ⟨j + 1, _, by omega, by go_num, rfl, by have e := HQ.out; subst e; exact pow_step j (by omega)⟩
              case measure => simp [intOf]; omega
          · have e : j = 8 := by omega
            subst e
            have hq : q = 256 := HQ.out
            subst hq
            clear HQ
            go_wp2_with (go_at_call 24; refine (rsigned_any _ _).mono ?_; rintro e w' ⟨rfl, rfl⟩)
            go_ret2
            refine numPost_dec H20.out (by decide) (by rw [HT.out]; rfl) _ HV.out ?_
            rw [HT.out]
            intro h1 h2
            rw [wrap_small h1 (by omega)]
            unfold Bv.wrp
            simp
            omega
  · have t2 : decide ((20 : Int) < (d.size : Int)) = true := by rw [decide_eq_true_iff]; omega
    go_enter Tryd.func33, Tryd.ntmps33
    go_wp2
    all_goals go_ret2
    all_goals exact numPost_long (by omega) (by decide)

set_option maxHeartbeats 3200000 in
set_option maxRecDepth 20000 in
theorem rnumber_7 (d : ByteArray) (hd : Lex.digits d.data.toList) (hsz : d.size ≤ 65536) (w : World) :
    Calls Tryd.prog 33 #[.string d, .int .i64 7] w fun e w' => numPost 7 d.data.toList w e w' := by
  have hl : d.data.toList.length = d.size := Array.length_toList
  have htop : Lex.top 7 = 65535 := rfl
  have HT := Lib.hid htop
  clear htop
  have hwid : Bv.wid 7 = 16 := rfl
  by_cases h9 : d.size ≤ 20
  · have t1 : decide ((20 : Int) < (d.size : Int)) = false := by rw [decide_eq_false_iff_not]; omega
    have h20 : d.data.toList.length ≤ 20 := by omega
    have H20 := Lib.hid h20
    clear h20
    go_enter Tryd.func33, Tryd.ntmps33
    go_wp2
    go_loop [6, 7] (fun a b => ∃ (i : Nat) (n : Int), i ≤ d.size ∧ b = .int .i64 (i : Int) ∧ a = .int .i64 n ∧ 0 ≤ n ∧ n ≤ 8589934592 ∧ Hid (n = (Lex.fv 0 (d.data.toList.take i) : Int))) (fun _ b => d.size - (intOf b).toNat)
    case atStart => exact ⟨0, 0, Nat.zero_le _, rfl, rfl, by decide, by decide, rfl⟩
    case round =>
      obtain ⟨i, n, hi, rfl, rfl, hn0, hn, H⟩ := hrel
      by_cases hlt2 : i < d.size
      · have hx := fun wx => idx_str d i hlt2 (i : Int) rfl wx
        rw [Lex.pk_eq (by omega)] at hx
        have hdg := Lex.digits_at hd (i := i) (by omega)
        have hst := Lex.fv_take d.data.toList i (by omega)
        have hge := Lex.fv_drop_ge d.data.toList (i + 1)
        have hv := Lex.numVal_eq d.data.toList
        obtain ⟨z, hz⟩ : ∃ z : Int, z = ((d.data.toList[i]'(by omega)).toNat : Int) := ⟨_, rfl⟩
        simp only [← hz] at hx
        have hz1 : 48 ≤ z := by omega
        have hz2 : z ≤ 57 := by omega
        have hstep : n * 10 + (z - 48) = (Lex.fv 0 (d.data.toList.take (i + 1)) : Int) := by
          rw [hst, H.out, hz]; omega
        have hb : n * 10 + (z - 48) ≤ (Lex.numVal d.data.toList : Int) := by
          omega
        have HS := Lib.hid hstep
        have HB := Lib.hid hb
        clear hst hge hv hdg hz hstep hb
        go_wp2
        · go_ret2
          refine numPost_big H20.out (by decide) ?_
          have h1 := HB.out
          rw [HT.out]; omega
        · go_round
          case rel => exact ⟨i + 1, _, by omega, by go_num, rfl, by omega, by omega, Lib.hid (by have := HS.out; omega)⟩
          case measure => simp [intOf]; omega
      · have e : i = d.size := by omega
        subst e
        have hv : n = (Lex.numVal d.data.toList : Int) := by
          have h2 := H.out
          rw [← hl, List.take_length, ← Lex.numVal_eq] at h2
          exact h2
        have HV := Lib.hid hv
        clear hv H
        go_wp2_with (go_at_call 22; refine (rwidth_any _ _).mono ?_; rintro e w' ⟨rfl, rfl⟩; rw [hwid])
        go_loop [10, 11] (fun p i => ∃ (j : Nat) (q : Int), j ≤ 16 ∧ i = .int .i64 j ∧ p = .int .i64 q ∧ Hid (q = 2 ^ j)) (fun _ i => 16 - (intOf i).toNat)
        case atStart => exact ⟨0, 1, Nat.zero_le _, rfl, rfl, rfl⟩
        case round =>
          obtain ⟨j, q, hj, rfl, rfl, HQ⟩ := hrel
          by_cases hlt : j < 16
          · go_wp2
            all_goals
              go_round
              case rel => exact ⟨j + 1, _, by omega, by go_num, rfl, by have e := HQ.out; subst e; exact pow_step j (by omega)⟩
              case measure => simp [intOf]; omega
          · have e : j = 16 := by omega
            subst e
            have hq : q = 65536 := HQ.out
            subst hq
            clear HQ
            go_wp2_with (go_at_call 24; refine (rsigned_any _ _).mono ?_; rintro e w' ⟨rfl, rfl⟩)
            go_ret2
            refine numPost_dec H20.out (by decide) (by rw [HT.out]; rfl) _ HV.out ?_
            rw [HT.out]
            intro h1 h2
            rw [wrap_small h1 (by omega)]
            unfold Bv.wrp
            simp
            omega
  · have t2 : decide ((20 : Int) < (d.size : Int)) = true := by rw [decide_eq_true_iff]; omega
    go_enter Tryd.func33, Tryd.ntmps33
    go_wp2
    all_goals go_ret2
    all_goals exact numPost_long (by omega) (by decide)

set_option maxHeartbeats 3200000 in
set_option maxRecDepth 20000 in
theorem rnumber_8 (d : ByteArray) (hd : Lex.digits d.data.toList) (hsz : d.size ≤ 65536) (w : World) :
    Calls Tryd.prog 33 #[.string d, .int .i64 8] w fun e w' => numPost 8 d.data.toList w e w' := by
  have hl : d.data.toList.length = d.size := Array.length_toList
  have htop : Lex.top 8 = 4294967295 := rfl
  have HT := Lib.hid htop
  clear htop
  have hwid : Bv.wid 8 = 32 := rfl
  by_cases h9 : d.size ≤ 20
  · have t1 : decide ((20 : Int) < (d.size : Int)) = false := by rw [decide_eq_false_iff_not]; omega
    have h20 : d.data.toList.length ≤ 20 := by omega
    have H20 := Lib.hid h20
    clear h20
    go_enter Tryd.func33, Tryd.ntmps33
    go_wp2
    go_loop [6, 7] (fun a b => ∃ (i : Nat) (n : Int), i ≤ d.size ∧ b = .int .i64 (i : Int) ∧ a = .int .i64 n ∧ 0 ≤ n ∧ n ≤ 8589934592 ∧ Hid (n = (Lex.fv 0 (d.data.toList.take i) : Int))) (fun _ b => d.size - (intOf b).toNat)
    case atStart => exact ⟨0, 0, Nat.zero_le _, rfl, rfl, by decide, by decide, rfl⟩
    case round =>
      obtain ⟨i, n, hi, rfl, rfl, hn0, hn, H⟩ := hrel
      by_cases hlt2 : i < d.size
      · have hx := fun wx => idx_str d i hlt2 (i : Int) rfl wx
        rw [Lex.pk_eq (by omega)] at hx
        have hdg := Lex.digits_at hd (i := i) (by omega)
        have hst := Lex.fv_take d.data.toList i (by omega)
        have hge := Lex.fv_drop_ge d.data.toList (i + 1)
        have hv := Lex.numVal_eq d.data.toList
        obtain ⟨z, hz⟩ : ∃ z : Int, z = ((d.data.toList[i]'(by omega)).toNat : Int) := ⟨_, rfl⟩
        simp only [← hz] at hx
        have hz1 : 48 ≤ z := by omega
        have hz2 : z ≤ 57 := by omega
        have hstep : n * 10 + (z - 48) = (Lex.fv 0 (d.data.toList.take (i + 1)) : Int) := by
          rw [hst, H.out, hz]; omega
        have hb : n * 10 + (z - 48) ≤ (Lex.numVal d.data.toList : Int) := by
          omega
        have HS := Lib.hid hstep
        have HB := Lib.hid hb
        clear hst hge hv hdg hz hstep hb
        go_wp2
        · go_ret2
          refine numPost_big H20.out (by decide) ?_
          have h1 := HB.out
          rw [HT.out]; omega
        · go_round
          case rel => exact ⟨i + 1, _, by omega, by go_num, rfl, by omega, by omega, Lib.hid (by have := HS.out; omega)⟩
          case measure => simp [intOf]; omega
      · have e : i = d.size := by omega
        subst e
        have hv : n = (Lex.numVal d.data.toList : Int) := by
          have h2 := H.out
          rw [← hl, List.take_length, ← Lex.numVal_eq] at h2
          exact h2
        have HV := Lib.hid hv
        clear hv H
        go_wp2_with (go_at_call 22; refine (rwidth_any _ _).mono ?_; rintro e w' ⟨rfl, rfl⟩; rw [hwid])
        go_loop [10, 11] (fun p i => ∃ (j : Nat) (q : Int), j ≤ 32 ∧ i = .int .i64 j ∧ p = .int .i64 q ∧ Hid (q = 2 ^ j)) (fun _ i => 32 - (intOf i).toNat)
        case atStart => exact ⟨0, 1, Nat.zero_le _, rfl, rfl, rfl⟩
        case round =>
          obtain ⟨j, q, hj, rfl, rfl, HQ⟩ := hrel
          by_cases hlt : j < 32
          · go_wp2
            all_goals
              go_round
              case rel => exact ⟨j + 1, _, by omega, by go_num, rfl, by have e := HQ.out; subst e; exact pow_step j (by omega)⟩
              case measure => simp [intOf]; omega
          · have e : j = 32 := by omega
            subst e
            have hq : q = 4294967296 := HQ.out
            subst hq
            clear HQ
            go_wp2_with (go_at_call 24; refine (rsigned_any _ _).mono ?_; rintro e w' ⟨rfl, rfl⟩)
            go_ret2
            refine numPost_dec H20.out (by decide) (by rw [HT.out]; rfl) _ HV.out ?_
            rw [HT.out]
            intro h1 h2
            rw [wrap_small h1 (by omega)]
            unfold Bv.wrp
            simp
            omega
  · have t2 : decide ((20 : Int) < (d.size : Int)) = true := by rw [decide_eq_true_iff]; omega
    go_enter Tryd.func33, Tryd.ntmps33
    go_wp2
    all_goals go_ret2
    all_goals exact numPost_long (by omega) (by decide)

end Go.Proofs.YtbiplgidlmbbkaaDoor
