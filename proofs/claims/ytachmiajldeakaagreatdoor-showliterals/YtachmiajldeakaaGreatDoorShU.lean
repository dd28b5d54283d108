/- The document's own digits, to the byte: Digits, Unsigned, Number, KindName, Literal. -/
import Derived.Test.YtachmiajldeakaaGreatDoorShR
namespace Go.Proofs.YtachmiajldeakaaGreatDoor
open Go.RowKit Go.Maps Go.WideMaps

theorem dig_at (r : Nat) (h : r < 10) : ((⟨#[48, 49, 50, 51, 52, 53, 54, 55, 56, 57]⟩ : ByteArray).extract r (r + 1)).data.toList = [UInt8.ofNat (48 + r)] := by
  rcases (show r = 0 ∨ r = 1 ∨ r = 2 ∨ r = 3 ∨ r = 4 ∨ r = 5 ∨ r = 6 ∨ r = 7 ∨ r = 8 ∨ r = 9 by omega) with rfl | rfl | rfl | rfl | rfl | rfl | rfl | rfl | rfl | rfl <;> decide
theorem ba_ext {x : ByteArray} {l : List UInt8} (h : x.data.toList = l) : x = ⟨l.toArray⟩ := by
  subst h
  cases x
  simp
theorem dec_big (n : Nat) (h : ¬ n / 10 = 0) : Lib.decDigits n = Lib.decDigits (n / 10) ++ [UInt8.ofNat (48 + n % 10)] := by rw [Lib.decDigits, dif_neg (by omega)]
theorem dec_small (n : Nat) (h : n / 10 = 0) : Lib.decDigits n = [UInt8.ofNat (48 + n % 10)] := by rw [Lib.decDigits, dif_pos (by omega), Nat.mod_eq_of_lt (by omega)]
theorem dec_le {v n : Nat} {l : List UInt8} (hv : v < 9223372036854775808) (h : Lib.decDigits v = Lib.decDigits n ++ l) : l.length ≤ 20 := by
  have h1 := Lex.dec_len20 v (by omega)
  rw [h, List.length_append] at h1
  omega

set_option maxHeartbeats 1600000 in
theorem rdig_any (v : Nat) (hv : v < 9223372036854775808) (w : World) :
    Calls Tryz.prog 24 #[.int .i64 (v : Int)] w fun e w' => e = .returned (.string ⟨(Lib.decDigits v).toArray⟩) ∧ w' = w := by
  go_enter Tryz.func24, Tryz.ntmps24
  go_wp2
  go_loop [0, 3] (fun a b => ∃ (n : Nat) (x : ByteArray), a = .int .i64 (n : Int) ∧ b = .string x ∧ n ≤ v ∧ x.size ≤ 20 ∧ Hid (Lib.decDigits v = Lib.decDigits n ++ x.data.toList)) (fun a _ => (intOf a).toNat)
  case atStart => exact ⟨v, ⟨#[]⟩, rfl, rfl, Nat.le_refl _, by decide, Lib.hid (by simp)⟩
  case round =>
    obtain ⟨n, x, rfl, rfl, hn, hx, H⟩ := hrel
    have m1 : ((n : Int).tmod 10) = ((n % 10 : Nat) : Int) := (Int.ofNat_tmod n 10).symm
    have q1 : ((n : Int).tdiv 10) = ((n / 10 : Nat) : Int) := (Int.ofNat_tdiv n 10).symm
    have q2 : wrap64 ((n / 10 : Nat) : Int) = ((n / 10 : Nat) : Int) := by unfold wrap64; omega
    have hadd : ((⟨#[48, 49, 50, 51, 52, 53, 54, 55, 56, 57]⟩ : ByteArray).extract (n % 10) (n % 10 + 1) ++ x).data.toList = UInt8.ofNat (48 + n % 10) :: x.data.toList := by
      rw [ByteArray.data_append, Array.toList_append, dig_at (n % 10) (by omega)]; rfl
    have HB := Lib.hid (dec_big n)
    have HS := Lib.hid (dec_small n)
    obtain ⟨r, hrr⟩ : ∃ r, r = n % 10 := ⟨_, rfl⟩
    obtain ⟨q, hqq⟩ : ∃ q, q = n / 10 := ⟨_, rfl⟩
    rw [← hrr] at m1 hadd HB HS
    rw [← hqq] at q1 q2 HB HS
    have r9 : r ≤ 9 := by omega
    have HQ : Hid (q = n / 10) := hqq
    clear hqq hrr
    have HA : Hid _ := hadd
    have HQ2 : Hid _ := q2
    clear hadd
    by_cases hq0 : q = 0
    · have hq1 : ((q : Int) == 0) = true := by rw [beq_iff_eq]; omega
      go_wp2
      go_ret
      refine ⟨?_, rfl⟩
      have e := H.out
      rw [HS.out hq0] at e
      rw [e]
      exact congrArg (fun y => Ending.returned (Value.string y)) (ba_ext (by rw [HA.out]; rfl))
    · have hq1 : ((q : Int) == 0) = false := by rw [beq_eq_false_iff_ne]; omega
      have e := H.out
      rw [HB.out hq0, List.append_assoc] at e
      have hl := dec_le hv e
      have HE := Lib.hid e
      clear e
      go_wp2
      have hsize : ((⟨#[48, 49, 50, 51, 52, 53, 54, 55, 56, 57]⟩ : ByteArray).extract r (r + 1) ++ x).size = x.size + 1 := by
        have h1 : ((⟨#[48, 49, 50, 51, 52, 53, 54, 55, 56, 57]⟩ : ByteArray).extract r (r + 1) ++ x).data.toList.length = ((⟨#[48, 49, 50, 51, 52, 53, 54, 55, 56, 57]⟩ : ByteArray).extract r (r + 1) ++ x).size := Array.length_toList
        have h2 : x.data.toList.length = x.size := Array.length_toList
        rw [HA.out, List.length_cons, h2] at h1
        exact h1.symm
      have hqn := HQ.out
      have h2 : x.data.toList.length = x.size := Array.length_toList
      refine ⟨⟨q, _, by rw [HQ2.out], rfl, by omega, by rw [hsize]; simp only [List.length_append, List.length_cons, List.length_nil] at hl; omega, Lib.hid ?_⟩, ?_⟩
      · rw [HA.out]
        exact HE.out
      · rw [HQ2.out]
        simp only [intOf, Int.toNat_natCast]
        omega

theorem dec_sz (q : Nat) (h : q < 9223372036854775808) : (⟨(Lib.decDigits q).toArray⟩ : ByteArray).size ≤ 20 := by
  have := Lex.dec_len20 q (by omega)
  simpa [ByteArray.size] using this
theorem and63' (z : Int) : bits .and .i64 z 9223372036854775807 = z % 9223372036854775808 := by
  have h1 : (BitVec.ofInt 64 9223372036854775807).toNat = 2 ^ 63 - 1 := by decide
  have key : (BitVec.ofInt 64 z &&& BitVec.ofInt 64 9223372036854775807).toNat = (z % ((2 ^ 64 : Nat) : Int)).toNat % 2 ^ 63 := by
    rw [BitVec.toNat_and, BitVec.toNat_ofInt, h1, Nat.and_two_pow_sub_one_eq_mod]
  show IntKind.i64.wrap ((BitVec.ofInt 64 z &&& BitVec.ofInt 64 9223372036854775807).toNat : Nat) = z % 9223372036854775808
  rw [key, IntKind.wrap_i64]
  omega
theorem wspec (z : Int) : ∃ k, z = wrap64 z + 18446744073709551616 * k := ⟨(z + 9223372036854775808) / 18446744073709551616, by unfold wrap64; omega⟩
theorem wof (z r k : Int) (h : z = r + 18446744073709551616 * k) (h1 : -9223372036854775808 ≤ r) (h2 : r ≤ 9223372036854775807) : wrap64 z = r := by
  subst h
  unfold wrap64
  rw [show r + 18446744073709551616 * k + 9223372036854775808 = r + 9223372036854775808 + 18446744073709551616 * k by omega, Int.add_mul_emod_self_left]
  omega
theorem half' (n : Int) (U : Nat) (hU : (U : Int) = n + 18446744073709551616) (h : U < 18446744073709551616) : (n / 2) % 9223372036854775808 = ((U / 2 : Nat) : Int) := by
  have e : n = (U : Int) + (-9223372036854775808) * 2 := by omega
  rw [e, Int.add_mul_ediv_right _ _ (by decide)]
  have e2 : (U : Int) / 2 + -9223372036854775808 = (U : Int) / 2 + 9223372036854775808 * (-1) := by omega
  rw [e2, Int.add_mul_emod_self_left, Int.emod_eq_of_lt (by omega) (by omega)]
  omega
theorem tenth' (U : Nat) : (((U / 2 : Nat) : Int)).tdiv 5 = ((U / 10 : Nat) : Int) := by
  have h : U / 2 / 5 = U / 10 := Nat.div_div_eq_div_mul U 2 5
  rw [show (5 : Int) = ((5 : Nat) : Int) from rfl, ← Int.ofNat_tdiv, h]
theorem rest' (n : Int) (U q r : Nat) (hU : (U : Int) = n + 18446744073709551616) (hqr : U = 10 * q + r) (hr : r < 10) : wrap64 (n - wrap64 (10 * (q : Int))) = (r : Int) := by
  obtain ⟨k, hk⟩ := wspec (10 * (q : Int))
  generalize wrap64 (10 * (q : Int)) = z at hk
  exact wof _ _ (k - 1) (by omega) (by omega) (by omega)

set_option maxHeartbeats 1600000 in
theorem runs_any (n : Int) (h1 : -9223372036854775808 ≤ n) (h2 : n ≤ 9223372036854775807) (w : World) :
    Calls Tryz.prog 38 #[.int .i64 n] w fun e w' => e = .returned (.string ⟨(Lib.decDigits (if 0 ≤ n then n.toNat else (n + 18446744073709551616).toNat)).toArray⟩) ∧ w' = w := by
  by_cases h0 : 0 ≤ n
  · rw [if_pos h0]
    obtain ⟨m, rfl⟩ : ∃ m : Nat, n = (m : Int) := ⟨n.toNat, by omega⟩
    have hD := fun wx => rdig_any m (by omega) wx
    have hd : decide ((0 : Int) ≤ m) = true := by rw [decide_eq_true_iff]; omega
    go_enter Tryz.func38, Tryz.ntmps38
    go_wp2_with (go_at_call 24; refine (hD _).mono ?_; rintro e w' ⟨rfl, rfl⟩)
    go_ret
    exact ⟨by simp, rfl⟩
  · rw [if_neg h0]
    obtain ⟨U, hU⟩ : ∃ U : Nat, (U : Int) = n + 18446744073709551616 := ⟨(n + 18446744073709551616).toNat, by omega⟩
    rw [← hU, Int.toNat_natCast]
    have hd : decide ((0 : Int) ≤ n) = false := by rw [decide_eq_false_iff_not]; omega
    have hB := dec_big U (by omega)
    obtain ⟨q, hq⟩ : ∃ q, q = U / 10 := ⟨_, rfl⟩
    obtain ⟨r, hr⟩ : ∃ r, r = U % 10 := ⟨_, rfl⟩
    rw [← hq, ← hr] at hB
    have hSm := dec_small r (by omega)
    rw [Nat.mod_eq_of_lt (by omega)] at hSm
    rw [← hSm] at hB
    have e1 := and63' (n / 2)
    have e2 : (n / 2) % 9223372036854775808 = ((U / 2 : Nat) : Int) := half' n U hU (by omega)
    rw [e2] at e1
    have e3 : (((U / 2 : Nat) : Int)).tdiv 5 = (q : Int) := by rw [hq]; exact tenth' U
    have hqr : U = 10 * q + r := by omega
    have hr9 : r < 10 := by omega
    have hq63 : q < 9223372036854775808 := by omega
    have e4 : wrap64 (q : Int) = q := wof _ _ 0 (by omega) (by omega) (by omega)
    have e6 : wrap64 (n - wrap64 (10 * (q : Int))) = (r : Int) := rest' n U q r hU hqr hr9
    have hD1 := fun wx => rdig_any q hq63 wx
    have hD2 := fun wx => rdig_any r (Nat.lt_trans hr9 (by decide)) wx
    have z1 : (⟨(Lib.decDigits q).toArray⟩ : ByteArray).size ≤ 20 := dec_sz q hq63
    have z2 : (⟨(Lib.decDigits r).toArray⟩ : ByteArray).size ≤ 20 := dec_sz r (Nat.lt_trans hr9 (by decide))
    have HB := Lib.hid hB
    clear hU e2 hq hr hqr hr9 hq63 hB hSm
    generalize U / 2 = u2 at e1 e3
    generalize hX : (⟨(Lib.decDigits q).toArray⟩ : ByteArray) = X at hD1 z1
    generalize hY : (⟨(Lib.decDigits r).toArray⟩ : ByteArray) = Y at hD2 z2
    have HX := Lib.hid hX
    have HY := Lib.hid hY
    clear hX hY
    go_enter Tryz.func38, Tryz.ntmps38
    go_wp2_with (go_at_call 24; refine (hD1 _).mono ?_; rintro e w' ⟨rfl, hw'⟩; obtain rfl := hw'.symm; refine Hid.out ?_)
    refine Lib.hid ?_
    go_wp2_with (go_at_call 24; refine (hD2 _).mono ?_; rintro e w2 ⟨rfl, hw2⟩; obtain rfl := hw2.symm; refine Hid.out ?_)
    refine Lib.hid ?_
    go_wp2
    go_ret
    refine ⟨?_, rfl⟩
    exact congrArg (fun y => Ending.returned (Value.string y)) (ba_ext (by rw [ByteArray.data_append, Array.toList_append, ← HX.out, ← HY.out, HB.out]))

theorem min_dig : Lib.decDigits 9223372036854775808 = [57, 50, 50, 51, 51, 55, 50, 48, 51, 54, 56, 53, 52, 55, 55, 53, 56, 48, 56] := by
  simp [Lib.decDigits]

/-- Number -/
theorem rnum_any (n : Int) (h1 : -9223372036854775808 ≤ n) (h2 : n ≤ 9223372036854775807) (w : World) :
    Calls Tryz.prog 39 #[.int .i64 n] w fun e w' => e = .returned (.string ⟨(Lib.itoa n).toArray⟩) ∧ w' = w := by
  by_cases h0 : 0 ≤ n
  · obtain ⟨m, rfl⟩ : ∃ m : Nat, n = (m : Int) := ⟨n.toNat, by omega⟩
    have hD := fun wx => rdig_any m (by omega) wx
    have hd : decide ((0 : Int) ≤ m) = true := by rw [decide_eq_true_iff]; omega
    have hi : Lib.itoa (m : Int) = Lib.decDigits m := by unfold Lib.itoa; rw [if_neg (by omega)]; simp
    rw [hi]
    go_enter Tryz.func39, Tryz.ntmps39
    go_wp2_with (go_at_call 24; refine (hD _).mono ?_; rintro e w' ⟨rfl, rfl⟩)
    go_ret
    exact ⟨rfl, rfl⟩
  · have hd : decide ((0 : Int) ≤ n) = false := by rw [decide_eq_false_iff_not]; exact h0
    by_cases hm : n = -9223372036854775808
    · subst hm
      have hi : Lib.itoa (-9223372036854775808) = [45, 57, 50, 50, 51, 51, 55, 50, 48, 51, 54, 56, 53, 52, 55, 55, 53, 56, 48, 56] := by
        unfold Lib.itoa
        rw [if_pos (by decide), show (-9223372036854775808 : Int).natAbs = 9223372036854775808 from rfl, min_dig]
      rw [hi]
      go_enter Tryz.func39, Tryz.ntmps39
      go_wp2
      go_ret
      exact ⟨rfl, rfl⟩
    · obtain ⟨m, hmn⟩ : ∃ m : Nat, (m : Int) = -n := ⟨(-n).toNat, by omega⟩
      have e0 : (n == -9223372036854775808) = false := by rw [beq_eq_false_iff_ne]; exact hm
      have e1 : wrap64 (-n) = (m : Int) := wof _ _ 0 (by omega) (by omega) (by omega)
      have hi : Lib.itoa n = 45 :: Lib.decDigits m := by unfold Lib.itoa; rw [if_pos (by omega), show n.natAbs = m by omega]
      have hm63 : m < 9223372036854775808 := by omega
      rw [hi]
      have hD := fun wx => rdig_any m hm63 wx
      have z1 := dec_sz m hm63
      clear hmn hm
      generalize hX : (⟨(Lib.decDigits m).toArray⟩ : ByteArray) = X at hD z1
      have HX := Lib.hid hX
      clear hX
      go_enter Tryz.func39, Tryz.ntmps39
      go_wp2_with (go_at_call 24; refine (hD _).mono ?_; rintro e w' ⟨rfl, hw'⟩; obtain rfl := hw'.symm; refine Hid.out ?_)
      refine Lib.hid ?_
      go_wp2
      go_ret
      refine ⟨?_, rfl⟩
      exact congrArg (fun y => Ending.returned (Value.string y)) (ba_ext (by rw [ByteArray.data_append, Array.toList_append, ← HX.out]; rfl))

set_option maxHeartbeats 3200000 in
theorem rkind_any (k : Int) (h2 : 2 ≤ k) (h9 : k ≤ 9) (w : World) :
    Calls Tryz.prog 23 #[.int .i64 k] w fun e w' => e = .returned (.string ⟨(Lex.kindS k).toArray⟩) ∧ w.grownBy w' none := by
  rcases Lex.kinds_of k h2 h9 with rfl | rfl | rfl | rfl | rfl | rfl | rfl | rfl
  all_goals
    go_enter Tryz.func23, Tryz.ntmps23
    go_wp2
    go_ret
    exact ⟨rfl, World.grownBy_alloc w _ none⟩

end Go.Proofs.YtachmiajldeakaaGreatDoor
