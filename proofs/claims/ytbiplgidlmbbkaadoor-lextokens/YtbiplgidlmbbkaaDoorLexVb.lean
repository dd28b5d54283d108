/- The document's own tokens, on: its number of the kinds of 64 bits. -/
import Derived.Test.YtbiplgidlmbbkaaDoorLexVa
namespace Go.Proofs.YtbiplgidlmbbkaaDoor
open Go.RowKit Go.Maps Go.WideMaps

theorem wrap_id {n : Int} (h1 : -9223372036854775808 ≤ n) (h2 : n ≤ 9223372036854775807) : wrap64 n = n := by unfold wrap64; omega
theorem end5_least {n : Int} {d : List UInt8} {w : World} (h20 : d.length ≤ 20) (h : n = -(Lex.numVal d : Int)) (hn : n = -9223372036854775808) : numPost 5 d w (.returned (.tuple #[.int .i64 n, .bool true])) w := by
  have e : (Lex.numVal d : Int) = 9223372036854775808 := by omega
  refine numPost_small h20 (by decide) (by rw [e]; decide) ?_
  rw [e, hn]; simp [Bv.wrp, wrap64]
theorem end5 {n m : Int} {d : List UInt8} {w : World} (h20 : d.length ≤ 20) (h : n = -(Lex.numVal d : Int)) (hn : -9223372036854775808 ≤ n) (hne : ¬ n = -9223372036854775808) (hm : m = -n) : numPost 5 d w (.returned (.tuple #[.int .i64 m, .bool true])) w := by
  have ht : Lex.top 5 = 9223372036854775808 := rfl
  refine numPost_small h20 (by decide) (by rw [ht]; omega) ?_
  rw [wrap_id (by omega) (by omega)]
  have e : Bv.wrp 5 (Lex.numVal d : Int) = (Lex.numVal d : Int) := by simp [Bv.wrp]
  rw [e]; omega
theorem end9 {n : Int} {d : List UInt8} {w : World} (h20 : d.length ≤ 20) (h : n = wrap64 (Lex.numVal d : Int)) (hn : (Lex.numVal d : Int) ≤ 18446744073709551615) : numPost 9 d w (.returned (.tuple #[.int .i64 n, .bool true])) w := by
  have ht : Lex.top 9 = 18446744073709551615 := rfl
  refine numPost_small h20 (by decide) (by rw [ht]; omega) ?_
  have e : Bv.wrp 9 (wrap64 (Lex.numVal d : Int)) = wrap64 (Lex.numVal d : Int) := by simp [Bv.wrp]
  rw [e, h]
theorem over9 {n c F G : Int} (hF : 0 ≤ F) (hF2 : F ≤ 18446744073709551615) (hn : n = wrap64 F) (hc : 0 ≤ c) (hG : F * 10 + c = G) (h : n < 0 ∨ 1844674407370955161 < n ∨ (n = 1844674407370955161 ∧ 5 < c)) : 18446744073709551615 < G := by
  unfold wrap64 at hn; omega
theorem step9 {n c F G : Int} (hF : 0 ≤ F) (hF2 : F ≤ 18446744073709551615) (hn : n = wrap64 F) (hc : 0 ≤ c) (hc9 : c ≤ 9) (hG : F * 10 + c = G) (h1 : 0 ≤ n) (h2 : n ≤ 1844674407370955161) (h3 : ¬ (n = 1844674407370955161 ∧ 5 < c)) : n = F ∧ G ≤ 18446744073709551615 := by
  unfold wrap64 at hn; omega
theorem wrap_in (a c : Int) : wrap64 (wrap64 a + c) = wrap64 (a + c) := by
  unfold wrap64; omega
theorem nine9 {a c n F G : Int} (hG : F * 10 + c = G) (hn : n = F) (ha : a = 10 * n) : wrap64 (a + c) = wrap64 G := by
  rw [← hG, ← hn, ha, Int.mul_comm]
theorem nine9w {a c n F G : Int} (hG : F * 10 + c = G) (hn : n = F) (ha : a = 10 * n) : wrap64 (wrap64 a + c) = wrap64 G := by
  rw [wrap_in]; exact nine9 hG hn ha


set_option maxHeartbeats 3200000 in
set_option maxRecDepth 20000 in
theorem rnumber_5 (d : ByteArray) (hd : Lex.digits d.data.toList) (hsz : d.size ≤ 65536) (w : World) :
    Calls Tryd.prog 33 #[.string d, .int .i64 5] w fun e w' => numPost 5 d.data.toList w e w' := by
  have hl : d.data.toList.length = d.size := Array.length_toList
  by_cases h9 : d.size ≤ 20
  · have t1 : decide ((20 : Int) < (d.size : Int)) = false := by rw [decide_eq_false_iff_not]; omega
    have h20 : d.data.toList.length ≤ 20 := by omega
    have H20 := Lib.hid h20
    clear h20
    go_enter Tryd.func33, Tryd.ntmps33
    go_wp2
    go_loop [6, 7] (fun a b => ∃ (i : Nat) (n : Int), i ≤ d.size ∧ b = .int .i64 (i : Int) ∧ a = .int .i64 n ∧ n ≤ 0 ∧ -9223372036854775808 ≤ n ∧ Hid (n = -(Lex.fv 0 (d.data.toList.take i) : Int))) (fun _ b => d.size - (intOf b).toNat)
    case atStart => exact ⟨0, 0, Nat.zero_le _, rfl, rfl, by decide, by decide, rfl⟩
    case round =>
      obtain ⟨i, n, hi, rfl, rfl, hn0, hn, H⟩ := hrel
      by_cases hlt2 : i < d.size
      · have hx := fun wx => idx_str d i hlt2 (i : Int) rfl wx
        rw [Lex.pk_eq (by omega)] at hx
        have hdg := Lex.digits_at hd (i := i) (by omega)
        have hst := Lex.fv_take d.data.toList i (by omega)
        have hge := Lex.fv_drop_ge d.data.toList (i + 1)
        have hv := Lex.numVal_eq d.data.toList
        obtain ⟨z, hz⟩ : ∃ z : Int, z = ((d.data.toList[i]'(by omega)).toNat : Int) := ⟨_, rfl⟩
        simp only [← hz] at hx
        have hz1 : 48 ≤ z := by omega
        have hz2 : z ≤ 57 := by omega
        have hstep : n * 10 - (z - 48) = -(Lex.fv 0 (d.data.toList.take (i + 1)) : Int) := by
          rw [hst, H.out, hz]; omega
        have hb : -(n * 10 - (z - 48)) ≤ (Lex.numVal d.data.toList : Int) := by
          omega
        have HS := Lib.hid hstep
        have HB := Lib.hid hb
        clear hst hge hv hdg hz hstep hb
        go_wp2
        all_goals first
          | (go_ret2
             refine numPost_big H20.out (by decide) ?_
             have h1 := HB.out
             have ht : Lex.top 5 = 9223372036854775808 := rfl
             rw [ht]; omega)
          | (go_round
             case rel => exact ⟨i + 1, _, by omega, by go_num, rfl, by omega, by omega, Lib.hid (by have := HS.out; omega)⟩
             case measure => simp [intOf]; omega)
      · have e : i = d.size := by omega
        subst e
        have hv : n = -(Lex.numVal d.data.toList : Int) := by
          have h2 := H.out
          rw [← hl, List.take_length, ← Lex.numVal_eq] at h2
          exact h2
        have HV := Lib.hid hv
        clear hv H
        by_cases hm : n = -9223372036854775808
        · have HM := Lib.hid hm
          go_wp2
          go_ret2
          exact end5_least H20.out (by have h1 := HV.out; have h2 := HM.out; omega) rfl
        · go_wp2
          go_ret2
          exact end5 H20.out HV.out hn (by assumption) (by first | rfl | (unfold wrap64; omega) | omega)
  · have t2 : decide ((20 : Int) < (d.size : Int)) = true := by rw [decide_eq_true_iff]; omega
    go_enter Tryd.func33, Tryd.ntmps33
    go_wp2
    all_goals go_ret2
    all_goals exact numPost_long (by omega) (by decide)

set_option maxHeartbeats 3200000 in
set_option maxRecDepth 20000 in
theorem rnumber_9 (d : ByteArray) (hd : Lex.digits d.data.toList) (hsz : d.size ≤ 65536) (w : World) :
    Calls Tryd.prog 33 #[.string d, .int .i64 9] w fun e w' => numPost 9 d.data.toList w e w' := by
  have hl : d.data.toList.length = d.size := Array.length_toList
  by_cases h9 : d.size ≤ 20
  · have t1 : decide ((20 : Int) < (d.size : Int)) = false := by rw [decide_eq_false_iff_not]; omega
    have h20 : d.data.toList.length ≤ 20 := by omega
    have H20 := Lib.hid h20
    clear h20
    go_enter Tryd.func33, Tryd.ntmps33
    go_wp2
    go_loop [6, 7] (fun a b => ∃ (i : Nat) (n : Int), i ≤ d.size ∧ b = .int .i64 (i : Int) ∧ a = .int .i64 n ∧ Hid (n = wrap64 (Lex.fv 0 (d.data.toList.take i) : Int) ∧ (Lex.fv 0 (d.data.toList.take i) : Int) ≤ 18446744073709551615)) (fun _ b => d.size - (intOf b).toNat)
    case atStart => exact ⟨0, 0, Nat.zero_le _, rfl, rfl, Lib.hid ⟨by simp [Lex.fv, wrap64], by simp [Lex.fv]⟩⟩
    case round =>
      obtain ⟨i, n, hi, rfl, rfl, H⟩ := hrel
      by_cases hlt2 : i < d.size
      · have hx := fun wx => idx_str d i hlt2 (i : Int) rfl wx
        rw [Lex.pk_eq (by omega)] at hx
        have hdg := Lex.digits_at hd (i := i) (by omega)
        have hst := Lex.fv_take d.data.toList i (by omega)
        have hge := Lex.fv_drop_ge d.data.toList (i + 1)
        have hv := Lex.numVal_eq d.data.toList
        obtain ⟨z, hz⟩ : ∃ z : Int, z = ((d.data.toList[i]'(by omega)).toNat : Int) := ⟨_, rfl⟩
        simp only [← hz] at hx
        have hz1 : 48 ≤ z := by omega
        have hz2 : z ≤ 57 := by omega
        have hstep : (Lex.fv 0 (d.data.toList.take i) : Int) * 10 + (z - 48) = (Lex.fv 0 (d.data.toList.take (i + 1)) : Int) := by
          rw [hst, hz]; omega
        have hb : (Lex.fv 0 (d.data.toList.take (i + 1)) : Int) ≤ (Lex.numVal d.data.toList : Int) := by
          omega
        have HS := Lib.hid hstep
        have HB := Lib.hid hb
        clear hst hge hv hdg hz hstep hb
        have hr : -9223372036854775808 ≤ n ∧ n ≤ 9223372036854775807 := by
          rw [H.out.1]; unfold wrap64; omega
        obtain ⟨hr1, hr2⟩ := hr
        go_wp2
        all_goals first
          | (go_ret2
             refine numPost_big H20.out (by decide) ?_
             have h1 := HB.out
             have ht : Lex.top 9 = 18446744073709551615 := rfl
             have h2 := over9 (Int.natCast_nonneg _) H.out.2 H.out.1 (by omega) HS.out (by omega)
             rw [ht]; omega)
          | (go_round
             case rel =>
               have h2 := step9 (Int.natCast_nonneg _) H.out.2 H.out.1 (by omega) (by omega) HS.out (by omega) (by omega) (by omega)
               exact ⟨i + 1, _, by omega, by go_num, rfl, Lib.hid ⟨by first | exact nine9w HS.out h2.1 (by omega) | exact nine9 HS.out h2.1 (by omega), h2.2⟩⟩
             case measure => simp [intOf]; omega)
      · have e : i = d.size := by omega
        subst e
        have hv : n = wrap64 (Lex.numVal d.data.toList : Int) ∧ (Lex.numVal d.data.toList : Int) ≤ 18446744073709551615 := by
          have h2 := H.out
          rw [← hl, List.take_length, ← Lex.numVal_eq] at h2
          exact h2
        have HV := Lib.hid hv
        clear hv H
        go_wp2
        go_ret2
        exact end9 H20.out HV.out.1 HV.out.2
  · have t2 : decide ((20 : Int) < (d.size : Int)) = true := by rw [decide_eq_true_iff]; omega
    go_enter Tryd.func33, Tryd.ntmps33
    go_wp2
    all_goals go_ret2
    all_goals exact numPost_long (by omega) (by decide)

end Go.Proofs.YtbiplgidlmbbkaaDoor
