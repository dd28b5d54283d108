/- The walk of the document's own Bin: it answers as bv.Bin's plain definition says, whatever the operation, the kind and the two numbers of 64 bits. -/
import Derived.Test.YtjlphploknhcfaaChecked
import Derived.Test.YtjlphploknhcfaaBvP
import Derived.Test.YtjlphploknhcfaaBvJ
namespace Go.Proofs.Ytjlphploknhcfaa
open Go.RowKit

theorem and_val {k a b : Int} (h1 : 1 ≤ k) (h2 : k ≤ 9) (ha : Bv.Val k a) (hb : Bv.Val k b) : Bv.val k (fun i => Bv.bt a i && Bv.bt b i) = Bv.binN 8 k a b := by
  obtain ⟨v, l⟩ := Bv.nAnd h1 h2 ha hb
  refine Bv.val_eq h1 h2 v fun i hi => ?_
  rw [l, Nat.testBit_and, Bv.low_bit _ (Bv.wn_le k), Bv.low_bit _ (Bv.wn_le k)]
  simp [hi]
theorem or_val {k a b : Int} (h1 : 1 ≤ k) (h2 : k ≤ 9) (ha : Bv.Val k a) (hb : Bv.Val k b) : Bv.val k (fun i => Bv.bt a i || Bv.bt b i) = Bv.binN 9 k a b := by
  obtain ⟨v, l⟩ := Bv.nOr h1 h2 ha hb
  refine Bv.val_eq h1 h2 v fun i hi => ?_
  rw [l, Nat.testBit_or, Bv.low_bit _ (Bv.wn_le k), Bv.low_bit _ (Bv.wn_le k)]
  simp [hi]
theorem xor_val {k a b : Int} (h1 : 1 ≤ k) (h2 : k ≤ 9) (ha : Bv.Val k a) (hb : Bv.Val k b) : Bv.val k (fun i => Bv.bt a i != Bv.bt b i) = Bv.binN 10 k a b := by
  obtain ⟨v, l⟩ := Bv.nXor h1 h2 ha hb
  refine Bv.val_eq h1 h2 v fun i hi => ?_
  rw [l, Nat.testBit_xor, Bv.low_bit _ (Bv.wn_le k), Bv.low_bit _ (Bv.wn_le k)]
  simp [hi]

theorem nonneg_u {k a : Int} (h6 : 6 ≤ k) (h8 : k ≤ 8) (ha : Bv.Val k a) : 0 ≤ a ∧ Bv.U a = a := by
  obtain ⟨h, i⟩ := ha
  unfold Bv.I64 at i
  rw [Bv.U_eq]
  have hc : k = 6 ∨ k = 7 ∨ k = 8 := by omega
  rcases hc with rfl | rfl | rfl
  · rw [Bv.wrp6] at h; omega
  · rw [Bv.wrp7] at h; omega
  · rw [Bv.wrp8] at h; omega

theorem below_val (k a b : Int) (h9 : k ≤ 9) (ha : Bv.Val k a) (hb : Bv.Val k b) (w : World) :
    Calls Try.prog 37 #[.int .i64 k, .int .i64 a, .int .i64 b] w fun e w' => e = .returned (.bool (Bv.lss k a b)) ∧ w' = w := by
  by_cases h : k = 9
  · subst h; exact below9_any a b ha.2 hb.2 w
  · exact below_any k a b (by omega) (fun h6 => ⟨(nonneg_u h6 (by omega) ha).1, (nonneg_u h6 (by omega) hb).1⟩) ha.2 hb.2 w

theorem div_rest {k a b : Int} (h1 : 2 ≤ k) (h8 : k ≤ 8) (ha : Bv.Val k a) (hb : Bv.Val k b) (h0 : ¬ b = 0) :
    Bv.binN 6 k a b = Bv.wrp k (wrap64 (a.tdiv b)) ∧ Bv.binN 7 k a b = Bv.wrp k (a.tmod b) := by
  rw [Bv.nDiv h1 (by omega) ha hb, Bv.nMod h1 (by omega) ha hb]
  by_cases h6 : 6 ≤ k
  · obtain ⟨d1, d2, _, _, _⟩ := Bv.div_u h6 (by omega) ha hb h0
    obtain ⟨a0, ua⟩ := nonneg_u h6 h8 ha
    obtain ⟨b0, ub⟩ := nonneg_u h6 h8 hb
    rw [d1, d2, ua, ub, Int.tdiv_eq_ediv_of_nonneg a0, Int.tmod_eq_emod_of_nonneg a0]
    refine ⟨rfl, ?_⟩
    have m1 := Int.emod_nonneg a h0
    have m2 := Int.emod_lt_of_pos a (b := b) (by omega)
    have ib := hb.2
    exact Bv.W_wrp k _ (by unfold Bv.I64 at *; omega)
  · have e1 : Bv.vdiv k a b = wrap64 (a.tdiv b) := by simp [Bv.vdiv, h0, h6]
    have e2 : Bv.vmod k a b = a.tmod b := by simp [Bv.vmod, h0, h6]
    rw [e1, e2]
    exact ⟨rfl, rfl⟩

theorem div_m1 {k a : Int} (h1 : 2 ≤ k) (h8 : k ≤ 8) (ha : Bv.Val k a) (hb : Bv.Val k (-1)) :
    Bv.binN 6 k a (-1) = Bv.wrp k (wrap64 (-a)) ∧ Bv.binN 7 k a (-1) = Bv.wrp k 0 := by
  obtain ⟨e1, e2⟩ := div_rest h1 h8 ha hb (by decide)
  rw [e1, e2]
  have t1 : a.tdiv (-1) = -a := by rw [Int.tdiv_neg, Int.tdiv_one]
  have t2 : a.tmod (-1) = 0 := by rw [Int.tmod_neg, Int.tmod_one]
  rw [t1, t2]
  exact ⟨rfl, rfl⟩

theorem div_9 {a b : Int} (ha : Bv.Val 9 a) (hb : Bv.Val 9 b) (h0 : ¬ b = 0) :
    Bv.binN 6 9 a b = Bv.wrp 9 (wrap64 ((Bv.low 64 a / Bv.low 64 b : Nat) : Int)) ∧ Bv.binN 7 9 a b = Bv.wrp 9 (wrap64 ((Bv.low 64 a % Bv.low 64 b : Nat) : Int)) ∧ 0 < Bv.low 64 b := by
  rw [Bv.nDiv (by decide) (by decide) ha hb, Bv.nMod (by decide) (by decide) ha hb]
  obtain ⟨d1, d2, d3, _, _⟩ := Bv.div_u (by decide) (by decide) ha hb h0
  rw [Bv.U_low] at d3
  rw [d1, d2, Bv.U_low, Bv.U_low]
  refine ⟨?_, ?_, by omega⟩
  · rw [← Int.natCast_ediv]; rfl
  · rw [← Int.natCast_emod]; rfl

set_option maxRecDepth 100000 in
set_option maxHeartbeats 2000000 in
theorem rb3 (k a b : Int) (h1 : 2 ≤ k) (h2 : k ≤ 9) (va : Bv.Val k a) (vb : Bv.Val k b) (w : World) :
    Calls Try.prog 20 #[.int .i64 3, .int .i64 k, .int .i64 a, .int .i64 b] w fun e w' => e = .returned (.tuple #[.int .i64 (Bv.binN 3 k a b), .int .i64 (Bv.binK 3 k a b), .bool (Bv.binB 3 k a b)]) ∧ Below w.heap.size w w' := by
  have ia := Bv.isv_val (by omega) h2 va
  have ib := Bv.isv_val (by omega) h2 vb
  obtain ⟨eB, eK, _⟩ := Bv.bin_num 3 k a b h1 h2 (by omega) (by omega) (by omega) va vb
  have eK2 : Bv.toK 3 k = k := Bv.toK_small _ _ (by omega)
  have eN : Bv.binN 3 k a b = Bv.wrp k (wrap64 (a + b)) := Bv.nAdd h1 h2 va vb
  rw [eB, eK, eK2, eN]
  have HK : Hid (1 ≤ k ∧ k ≤ 9) := ⟨by omega, h2⟩
  have hk1 : (k == 1) = false := by rw [beq_eq_false_iff_ne]; omega
  clear eB eK eK2 eN h1 h2
  go_enter Try.func20, Try.ntmps20
  go_wp2_with (first | (go_at_call 13; refine (ris_any _ _ _).mono ?_; rintro e w' ⟨rfl, hw⟩; subst hw) | (go_at_call 11; refine (rwrap_any _ _ _).mono ?_; rintro e w' ⟨rfl, hw⟩; subst hw))
  go_ret3
  exact ⟨rfl, Below.refl _ _⟩

set_option maxRecDepth 100000 in
set_option maxHeartbeats 2000000 in
theorem rb4 (k a b : Int) (h1 : 2 ≤ k) (h2 : k ≤ 9) (va : Bv.Val k a) (vb : Bv.Val k b) (w : World) :
    Calls Try.prog 20 #[.int .i64 4, .int .i64 k, .int .i64 a, .int .i64 b] w fun e w' => e = .returned (.tuple #[.int .i64 (Bv.binN 4 k a b), .int .i64 (Bv.binK 4 k a b), .bool (Bv.binB 4 k a b)]) ∧ Below w.heap.size w w' := by
  have ia := Bv.isv_val (by omega) h2 va
  have ib := Bv.isv_val (by omega) h2 vb
  obtain ⟨eB, eK, _⟩ := Bv.bin_num 4 k a b h1 h2 (by omega) (by omega) (by omega) va vb
  have eK2 : Bv.toK 4 k = k := Bv.toK_small _ _ (by omega)
  have eN : Bv.binN 4 k a b = Bv.wrp k (wrap64 (a - b)) := Bv.nSub h1 h2 va vb
  rw [eB, eK, eK2, eN]
  have HK : Hid (1 ≤ k ∧ k ≤ 9) := ⟨by omega, h2⟩
  have hk1 : (k == 1) = false := by rw [beq_eq_false_iff_ne]; omega
  clear eB eK eK2 eN h1 h2
  go_enter Try.func20, Try.ntmps20
  go_wp2_with (first | (go_at_call 13; refine (ris_any _ _ _).mono ?_; rintro e w' ⟨rfl, hw⟩; subst hw) | (go_at_call 11; refine (rwrap_any _ _ _).mono ?_; rintro e w' ⟨rfl, hw⟩; subst hw))
  go_ret3
  exact ⟨rfl, Below.refl _ _⟩

set_option maxRecDepth 100000 in
set_option maxHeartbeats 2000000 in
theorem rb5 (k a b : Int) (h1 : 2 ≤ k) (h2 : k ≤ 9) (va : Bv.Val k a) (vb : Bv.Val k b) (w : World) :
    Calls Try.prog 20 #[.int .i64 5, .int .i64 k, .int .i64 a, .int .i64 b] w fun e w' => e = .returned (.tuple #[.int .i64 (Bv.binN 5 k a b), .int .i64 (Bv.binK 5 k a b), .bool (Bv.binB 5 k a b)]) ∧ Below w.heap.size w w' := by
  have ia := Bv.isv_val (by omega) h2 va
  have ib := Bv.isv_val (by omega) h2 vb
  obtain ⟨eB, eK, _⟩ := Bv.bin_num 5 k a b h1 h2 (by omega) (by omega) (by omega) va vb
  have eK2 : Bv.toK 5 k = k := Bv.toK_small _ _ (by omega)
  have eN : Bv.binN 5 k a b = Bv.wrp k (wrap64 (a * b)) := Bv.nMul h1 h2 va vb
  rw [eB, eK, eK2, eN]
  have HK : Hid (1 ≤ k ∧ k ≤ 9) := ⟨by omega, h2⟩
  have hk1 : (k == 1) = false := by rw [beq_eq_false_iff_ne]; omega
  clear eB eK eK2 eN h1 h2
  go_enter Try.func20, Try.ntmps20
  go_wp2_with (first | (go_at_call 13; refine (ris_any _ _ _).mono ?_; rintro e w' ⟨rfl, hw⟩; subst hw) | (go_at_call 11; refine (rwrap_any _ _ _).mono ?_; rintro e w' ⟨rfl, hw⟩; subst hw))
  go_ret3
  exact ⟨rfl, Below.refl _ _⟩

set_option maxRecDepth 100000 in
set_option maxHeartbeats 2000000 in
theorem rb6z (k a b : Int) (h1 : 2 ≤ k) (h2 : k ≤ 9) (va : Bv.Val k a) (vb : Bv.Val k b) (h0 : b = 0) (w : World) :
    Calls Try.prog 20 #[.int .i64 6, .int .i64 k, .int .i64 a, .int .i64 b] w fun e w' => e = .returned (.tuple #[.int .i64 (Bv.binN 6 k a b), .int .i64 (Bv.binK 6 k a b), .bool (Bv.binB 6 k a b)]) ∧ Below w.heap.size w w' := by
  have ia := Bv.isv_val (by omega) h2 va
  have ib := Bv.isv_val (by omega) h2 vb
  obtain ⟨eB, eK, _⟩ := Bv.bin_num 6 k a b h1 h2 (by omega) (by omega) (by omega) va vb
  have eK2 : Bv.toK 6 k = k := Bv.toK_small _ _ (by omega)
  have hb0 : (b == 0) = true := by rw [h0]; rfl
  have eN : Bv.binN 6 k a b = Bv.wrp k 0 := by subst h0; rw [(Bv.div_zero k a h1 h2 va vb).1, (Bv.val_zero k (by omega) h2).1]
  rw [eB, eK, eK2, eN]
  have HK : Hid (1 ≤ k ∧ k ≤ 9) := ⟨by omega, h2⟩
  have hk1 : (k == 1) = false := by rw [beq_eq_false_iff_ne]; omega
  clear eB eK eK2 eN h1 h2 h0
  go_enter Try.func20, Try.ntmps20
  go_wp2_with (first | (go_at_call 13; refine (ris_any _ _ _).mono ?_; rintro e w' ⟨rfl, hw⟩; subst hw) | (go_at_call 11; refine (rwrap_any _ _ _).mono ?_; rintro e w' ⟨rfl, hw⟩; subst hw))
  go_ret3
  exact ⟨rfl, Below.refl _ _⟩

set_option maxRecDepth 100000 in
set_option maxHeartbeats 2000000 in
theorem rb6m (k a b : Int) (h1 : 2 ≤ k) (h2 : k ≤ 9) (va : Bv.Val k a) (vb : Bv.Val k b) (hb : b = -1) (h8 : k ≤ 8) (w : World) :
    Calls Try.prog 20 #[.int .i64 6, .int .i64 k, .int .i64 a, .int .i64 b] w fun e w' => e = .returned (.tuple #[.int .i64 (Bv.binN 6 k a b), .int .i64 (Bv.binK 6 k a b), .bool (Bv.binB 6 k a b)]) ∧ Below w.heap.size w w' := by
  have ia := Bv.isv_val (by omega) h2 va
  have ib := Bv.isv_val (by omega) h2 vb
  obtain ⟨eB, eK, _⟩ := Bv.bin_num 6 k a b h1 h2 (by omega) (by omega) (by omega) va vb
  have eK2 : Bv.toK 6 k = k := Bv.toK_small _ _ (by omega)
  have hb0 : (b == 0) = false := by rw [hb]; rfl
  have hb1 : (b == -1) = true := by rw [hb]; rfl
  have hk9 : (k == 9) = false := by rw [beq_eq_false_iff_ne]; omega
  have eN : Bv.binN 6 k a b = Bv.wrp k (wrap64 (-a)) := by subst hb; exact (div_m1 h1 h8 va vb).1
  rw [eB, eK, eK2, eN]
  have HK : Hid (1 ≤ k ∧ k ≤ 9) := ⟨by omega, h2⟩
  have hk1 : (k == 1) = false := by rw [beq_eq_false_iff_ne]; omega
  clear eB eK eK2 eN h1 h2 hb
  go_enter Try.func20, Try.ntmps20
  go_wp2_with (first | (go_at_call 13; refine (ris_any _ _ _).mono ?_; rintro e w' ⟨rfl, hw⟩; subst hw) | (go_at_call 11; refine (rwrap_any _ _ _).mono ?_; rintro e w' ⟨rfl, hw⟩; subst hw))
  go_ret3
  exact ⟨rfl, Below.refl _ _⟩

set_option maxRecDepth 100000 in
set_option maxHeartbeats 2000000 in
theorem rb6d (k a b : Int) (h1 : 2 ≤ k) (h2 : k ≤ 9) (va : Bv.Val k a) (vb : Bv.Val k b) (h0 : ¬ b = 0) (hb : ¬ b = -1) (h8 : k ≤ 8) (w : World) :
    Calls Try.prog 20 #[.int .i64 6, .int .i64 k, .int .i64 a, .int .i64 b] w fun e w' => e = .returned (.tuple #[.int .i64 (Bv.binN 6 k a b), .int .i64 (Bv.binK 6 k a b), .bool (Bv.binB 6 k a b)]) ∧ Below w.heap.size w w' := by
  have ia := Bv.isv_val (by omega) h2 va
  have ib := Bv.isv_val (by omega) h2 vb
  obtain ⟨eB, eK, _⟩ := Bv.bin_num 6 k a b h1 h2 (by omega) (by omega) (by omega) va vb
  have eK2 : Bv.toK 6 k = k := Bv.toK_small _ _ (by omega)
  have hk9 : (k == 9) = false := by rw [beq_eq_false_iff_ne]; omega
  have hb0 : (b == 0) = false := by rw [beq_eq_false_iff_ne]; omega
  have hb1 : (b == -1) = false := by rw [beq_eq_false_iff_ne]; omega
  have eN : Bv.binN 6 k a b = Bv.wrp k (wrap64 (a.tdiv b)) := (div_rest h1 h8 va vb h0).1
  rw [eB, eK, eK2, eN]
  have HK : Hid (1 ≤ k ∧ k ≤ 9) := ⟨by omega, h2⟩
  have hk1 : (k == 1) = false := by rw [beq_eq_false_iff_ne]; omega
  clear eB eK eK2 eN h1 h2
  go_enter Try.func20, Try.ntmps20
  go_wp2_with (first | (go_at_call 13; refine (ris_any _ _ _).mono ?_; rintro e w' ⟨rfl, hw⟩; subst hw) | (go_at_call 11; refine (rwrap_any _ _ _).mono ?_; rintro e w' ⟨rfl, hw⟩; subst hw))
  go_ret3
  exact ⟨rfl, Below.refl _ _⟩

set_option maxRecDepth 100000 in
set_option maxHeartbeats 2000000 in
theorem rb6u (k a b : Int) (h1 : 2 ≤ k) (h2 : k ≤ 9) (va : Bv.Val k a) (vb : Bv.Val k b) (h0 : ¬ b = 0) (h9 : k = 9) (w : World) :
    Calls Try.prog 20 #[.int .i64 6, .int .i64 k, .int .i64 a, .int .i64 b] w fun e w' => e = .returned (.tuple #[.int .i64 (Bv.binN 6 k a b), .int .i64 (Bv.binK 6 k a b), .bool (Bv.binB 6 k a b)]) ∧ Below w.heap.size w w' := by
  have ia := Bv.isv_val (by omega) h2 va
  have ib := Bv.isv_val (by omega) h2 vb
  obtain ⟨eB, eK, _⟩ := Bv.bin_num 6 k a b h1 h2 (by omega) (by omega) (by omega) va vb
  have eK2 : Bv.toK 6 k = k := Bv.toK_small _ _ (by omega)
  have hb0 : (b == 0) = false := by rw [beq_eq_false_iff_ne]; omega
  have hlow : 0 < Bv.low 64 b := by subst h9; exact (div_9 va vb h0).2.2
  have i64b := vb.2
  have hk9 : (k == 9) = true := by rw [beq_iff_eq]; exact h9
  have eN : Bv.binN 6 k a b = Bv.wrp k (wrap64 ((Bv.low 64 a / Bv.low 64 b : Nat) : Int)) := by subst h9; exact (div_9 va vb h0).1
  rw [eB, eK, eK2, eN]
  have HK : Hid (1 ≤ k ∧ k ≤ 9) := ⟨by omega, h2⟩
  have hk1 : (k == 1) = false := by rw [beq_eq_false_iff_ne]; omega
  clear eB eK eK2 eN h1 h2 h9
  go_enter Try.func20, Try.ntmps20
  go_wp2_with (first | (go_at_call 13; refine (ris_any _ _ _).mono ?_; rintro e w' ⟨rfl, hw⟩; subst hw) | (go_at_call 11; refine (rwrap_any _ _ _).mono ?_; rintro e w' ⟨rfl, hw⟩; subst hw) | (go_at_call 35; refine (divide_any _ _ (by assumption) (by assumption) _).mono ?_; rintro e w' ⟨rfl, hw⟩; subst hw))
  go_ret3
  exact ⟨rfl, Below.refl _ _⟩

set_option maxRecDepth 100000 in
set_option maxHeartbeats 2000000 in
theorem rb7z (k a b : Int) (h1 : 2 ≤ k) (h2 : k ≤ 9) (va : Bv.Val k a) (vb : Bv.Val k b) (h0 : b = 0) (w : World) :
    Calls Try.prog 20 #[.int .i64 7, .int .i64 k, .int .i64 a, .int .i64 b] w fun e w' => e = .returned (.tuple #[.int .i64 (Bv.binN 7 k a b), .int .i64 (Bv.binK 7 k a b), .bool (Bv.binB 7 k a b)]) ∧ Below w.heap.size w w' := by
  have ia := Bv.isv_val (by omega) h2 va
  have ib := Bv.isv_val (by omega) h2 vb
  obtain ⟨eB, eK, _⟩ := Bv.bin_num 7 k a b h1 h2 (by omega) (by omega) (by omega) va vb
  have eK2 : Bv.toK 7 k = k := Bv.toK_small _ _ (by omega)
  have hb0 : (b == 0) = true := by rw [h0]; rfl
  have eN : Bv.binN 7 k a b = Bv.wrp k 0 := by subst h0; rw [(Bv.div_zero k a h1 h2 va vb).2, (Bv.val_zero k (by omega) h2).1]
  rw [eB, eK, eK2, eN]
  have HK : Hid (1 ≤ k ∧ k ≤ 9) := ⟨by omega, h2⟩
  have hk1 : (k == 1) = false := by rw [beq_eq_false_iff_ne]; omega
  clear eB eK eK2 eN h1 h2 h0
  go_enter Try.func20, Try.ntmps20
  go_wp2_with (first | (go_at_call 13; refine (ris_any _ _ _).mono ?_; rintro e w' ⟨rfl, hw⟩; subst hw) | (go_at_call 11; refine (rwrap_any _ _ _).mono ?_; rintro e w' ⟨rfl, hw⟩; subst hw))
  go_ret3
  exact ⟨rfl, Below.refl _ _⟩

set_option maxRecDepth 100000 in
set_option maxHeartbeats 2000000 in
theorem rb7m (k a b : Int) (h1 : 2 ≤ k) (h2 : k ≤ 9) (va : Bv.Val k a) (vb : Bv.Val k b) (hb : b = -1) (h8 : k ≤ 8) (w : World) :
    Calls Try.prog 20 #[.int .i64 7, .int .i64 k, .int .i64 a, .int .i64 b] w fun e w' => e = .returned (.tuple #[.int .i64 (Bv.binN 7 k a b), .int .i64 (Bv.binK 7 k a b), .bool (Bv.binB 7 k a b)]) ∧ Below w.heap.size w w' := by
  have ia := Bv.isv_val (by omega) h2 va
  have ib := Bv.isv_val (by omega) h2 vb
  obtain ⟨eB, eK, _⟩ := Bv.bin_num 7 k a b h1 h2 (by omega) (by omega) (by omega) va vb
  have eK2 : Bv.toK 7 k = k := Bv.toK_small _ _ (by omega)
  have hb0 : (b == 0) = false := by rw [hb]; rfl
  have hb1 : (b == -1) = true := by rw [hb]; rfl
  have hk9 : (k == 9) = false := by rw [beq_eq_false_iff_ne]; omega
  have eN : Bv.binN 7 k a b = Bv.wrp k 0 := by subst hb; exact (div_m1 h1 h8 va vb).2
  rw [eB, eK, eK2, eN]
  have HK : Hid (1 ≤ k ∧ k ≤ 9) := ⟨by omega, h2⟩
  have hk1 : (k == 1) = false := by rw [beq_eq_false_iff_ne]; omega
  clear eB eK eK2 eN h1 h2 hb
  go_enter Try.func20, Try.ntmps20
  go_wp2_with (first | (go_at_call 13; refine (ris_any _ _ _).mono ?_; rintro e w' ⟨rfl, hw⟩; subst hw) | (go_at_call 11; refine (rwrap_any _ _ _).mono ?_; rintro e w' ⟨rfl, hw⟩; subst hw))
  go_ret3
  exact ⟨rfl, Below.refl _ _⟩

set_option maxRecDepth 100000 in
set_option maxHeartbeats 2000000 in
theorem rb7d (k a b : Int) (h1 : 2 ≤ k) (h2 : k ≤ 9) (va : Bv.Val k a) (vb : Bv.Val k b) (h0 : ¬ b = 0) (hb : ¬ b = -1) (h8 : k ≤ 8) (w : World) :
    Calls Try.prog 20 #[.int .i64 7, .int .i64 k, .int .i64 a, .int .i64 b] w fun e w' => e = .returned (.tuple #[.int .i64 (Bv.binN 7 k a b), .int .i64 (Bv.binK 7 k a b), .bool (Bv.binB 7 k a b)]) ∧ Below w.heap.size w w' := by
  have ia := Bv.isv_val (by omega) h2 va
  have ib := Bv.isv_val (by omega) h2 vb
  obtain ⟨eB, eK, _⟩ := Bv.bin_num 7 k a b h1 h2 (by omega) (by omega) (by omega) va vb
  have eK2 : Bv.toK 7 k = k := Bv.toK_small _ _ (by omega)
  have hk9 : (k == 9) = false := by rw [beq_eq_false_iff_ne]; omega
  have hb0 : (b == 0) = false := by rw [beq_eq_false_iff_ne]; omega
  have hb1 : (b == -1) = false := by rw [beq_eq_false_iff_ne]; omega
  have eN : Bv.binN 7 k a b = Bv.wrp k (a.tmod b) := (div_rest h1 h8 va vb h0).2
  rw [eB, eK, eK2, eN]
  have HK : Hid (1 ≤ k ∧ k ≤ 9) := ⟨by omega, h2⟩
  have hk1 : (k == 1) = false := by rw [beq_eq_false_iff_ne]; omega
  clear eB eK eK2 eN h1 h2
  go_enter Try.func20, Try.ntmps20
  go_wp2_with (first | (go_at_call 13; refine (ris_any _ _ _).mono ?_; rintro e w' ⟨rfl, hw⟩; subst hw) | (go_at_call 11; refine (rwrap_any _ _ _).mono ?_; rintro e w' ⟨rfl, hw⟩; subst hw))
  go_ret3
  exact ⟨rfl, Below.refl _ _⟩

set_option maxRecDepth 100000 in
set_option maxHeartbeats 2000000 in
theorem rb7u (k a b : Int) (h1 : 2 ≤ k) (h2 : k ≤ 9) (va : Bv.Val k a) (vb : Bv.Val k b) (h0 : ¬ b = 0) (h9 : k = 9) (w : World) :
    Calls Try.prog 20 #[.int .i64 7, .int .i64 k, .int .i64 a, .int .i64 b] w fun e w' => e = .returned (.tuple #[.int .i64 (Bv.binN 7 k a b), .int .i64 (Bv.binK 7 k a b), .bool (Bv.binB 7 k a b)]) ∧ Below w.heap.size w w' := by
  have ia := Bv.isv_val (by omega) h2 va
  have ib := Bv.isv_val (by omega) h2 vb
  obtain ⟨eB, eK, _⟩ := Bv.bin_num 7 k a b h1 h2 (by omega) (by omega) (by omega) va vb
  have eK2 : Bv.toK 7 k = k := Bv.toK_small _ _ (by omega)
  have hb0 : (b == 0) = false := by rw [beq_eq_false_iff_ne]; omega
  have hlow : 0 < Bv.low 64 b := by subst h9; exact (div_9 va vb h0).2.2
  have i64b := vb.2
  have hk9 : (k == 9) = true := by rw [beq_iff_eq]; exact h9
  have eN : Bv.binN 7 k a b = Bv.wrp k (wrap64 ((Bv.low 64 a % Bv.low 64 b : Nat) : Int)) := by subst h9; exact (div_9 va vb h0).2.1
  rw [eB, eK, eK2, eN]
  have HK : Hid (1 ≤ k ∧ k ≤ 9) := ⟨by omega, h2⟩
  have hk1 : (k == 1) = false := by rw [beq_eq_false_iff_ne]; omega
  clear eB eK eK2 eN h1 h2 h9
  go_enter Try.func20, Try.ntmps20
  go_wp2_with (first | (go_at_call 13; refine (ris_any _ _ _).mono ?_; rintro e w' ⟨rfl, hw⟩; subst hw) | (go_at_call 11; refine (rwrap_any _ _ _).mono ?_; rintro e w' ⟨rfl, hw⟩; subst hw) | (go_at_call 35; refine (divide_any _ _ (by assumption) (by assumption) _).mono ?_; rintro e w' ⟨rfl, hw⟩; subst hw))
  go_ret3
  exact ⟨rfl, Below.refl _ _⟩

set_option maxRecDepth 100000 in
set_option maxHeartbeats 2000000 in
theorem rb8 (k a b : Int) (h1 : 2 ≤ k) (h2 : k ≤ 9) (va : Bv.Val k a) (vb : Bv.Val k b) (w : World) :
    Calls Try.prog 20 #[.int .i64 8, .int .i64 k, .int .i64 a, .int .i64 b] w fun e w' => e = .returned (.tuple #[.int .i64 (Bv.binN 8 k a b), .int .i64 (Bv.binK 8 k a b), .bool (Bv.binB 8 k a b)]) ∧ Below w.heap.size w w' := by
  have ia := Bv.isv_val (by omega) h2 va
  have ib := Bv.isv_val (by omega) h2 vb
  obtain ⟨eB, eK, _⟩ := Bv.bin_num 8 k a b h1 h2 (by omega) (by omega) (by omega) va vb
  have eK2 : Bv.toK 8 k = k := Bv.toK_small _ _ (by omega)
  have eN : Bv.binN 8 k a b = Bv.val k (fun i => Bv.bt a i && Bv.bt b i) := (and_val (by omega) h2 va vb).symm
  rw [eB, eK, eK2, eN]
  have HK : Hid (1 ≤ k ∧ k ≤ 9) := ⟨by omega, h2⟩
  have hk1 : (k == 1) = false := by rw [beq_eq_false_iff_ne]; omega
  clear eB eK eK2 eN h1 h2
  go_enter Try.func20, Try.ntmps20
  go_wp2_with (first | (go_at_call 13; refine (ris_any _ _ _).mono ?_; rintro e w' ⟨rfl, hw⟩; subst hw) | (go_at_call 33; refine (rand_any _ _ _ HK.out.1 HK.out.2 _).mono ?_; rintro e w2 ⟨rfl, hB⟩))
  go_ret3
  exact ⟨rfl, hB⟩

set_option maxRecDepth 100000 in
set_option maxHeartbeats 2000000 in
theorem rb9 (k a b : Int) (h1 : 2 ≤ k) (h2 : k ≤ 9) (va : Bv.Val k a) (vb : Bv.Val k b) (w : World) :
    Calls Try.prog 20 #[.int .i64 9, .int .i64 k, .int .i64 a, .int .i64 b] w fun e w' => e = .returned (.tuple #[.int .i64 (Bv.binN 9 k a b), .int .i64 (Bv.binK 9 k a b), .bool (Bv.binB 9 k a b)]) ∧ Below w.heap.size w w' := by
  have ia := Bv.isv_val (by omega) h2 va
  have ib := Bv.isv_val (by omega) h2 vb
  obtain ⟨eB, eK, _⟩ := Bv.bin_num 9 k a b h1 h2 (by omega) (by omega) (by omega) va vb
  have eK2 : Bv.toK 9 k = k := Bv.toK_small _ _ (by omega)
  have eN : Bv.binN 9 k a b = Bv.val k (fun i => Bv.bt a i || Bv.bt b i) := (or_val (by omega) h2 va vb).symm
  rw [eB, eK, eK2, eN]
  have HK : Hid (1 ≤ k ∧ k ≤ 9) := ⟨by omega, h2⟩
  have hk1 : (k == 1) = false := by rw [beq_eq_false_iff_ne]; omega
  clear eB eK eK2 eN h1 h2
  go_enter Try.func20, Try.ntmps20
  go_wp2_with (first | (go_at_call 13; refine (ris_any _ _ _).mono ?_; rintro e w' ⟨rfl, hw⟩; subst hw) | (go_at_call 33; refine (ror_any _ _ _ HK.out.1 HK.out.2 _).mono ?_; rintro e w2 ⟨rfl, hB⟩))
  go_ret3
  exact ⟨rfl, hB⟩

set_option maxRecDepth 100000 in
set_option maxHeartbeats 2000000 in
theorem rb10 (k a b : Int) (h1 : 2 ≤ k) (h2 : k ≤ 9) (va : Bv.Val k a) (vb : Bv.Val k b) (w : World) :
    Calls Try.prog 20 #[.int .i64 10, .int .i64 k, .int .i64 a, .int .i64 b] w fun e w' => e = .returned (.tuple #[.int .i64 (Bv.binN 10 k a b), .int .i64 (Bv.binK 10 k a b), .bool (Bv.binB 10 k a b)]) ∧ Below w.heap.size w w' := by
  have ia := Bv.isv_val (by omega) h2 va
  have ib := Bv.isv_val (by omega) h2 vb
  obtain ⟨eB, eK, _⟩ := Bv.bin_num 10 k a b h1 h2 (by omega) (by omega) (by omega) va vb
  have eK2 : Bv.toK 10 k = k := Bv.toK_small _ _ (by omega)
  have eN : Bv.binN 10 k a b = Bv.val k (fun i => Bv.bt a i != Bv.bt b i) := (xor_val (by omega) h2 va vb).symm
  rw [eB, eK, eK2, eN]
  have HK : Hid (1 ≤ k ∧ k ≤ 9) := ⟨by omega, h2⟩
  have hk1 : (k == 1) = false := by rw [beq_eq_false_iff_ne]; omega
  clear eB eK eK2 eN h1 h2
  go_enter Try.func20, Try.ntmps20
  go_wp2_with (first | (go_at_call 13; refine (ris_any _ _ _).mono ?_; rintro e w' ⟨rfl, hw⟩; subst hw) | (go_at_call 33; refine (rxor_any _ _ _ HK.out.1 HK.out.2 _).mono ?_; rintro e w2 ⟨rfl, hB⟩))
  go_ret3
  exact ⟨rfl, hB⟩

set_option maxRecDepth 100000 in
set_option maxHeartbeats 2000000 in
theorem rb12 (k a b : Int) (h1 : 2 ≤ k) (h2 : k ≤ 9) (va : Bv.Val k a) (vb : Bv.Val k b) (w : World) :
    Calls Try.prog 20 #[.int .i64 12, .int .i64 k, .int .i64 a, .int .i64 b] w fun e w' => e = .returned (.tuple #[.int .i64 (Bv.binN 12 k a b), .int .i64 (Bv.binK 12 k a b), .bool (Bv.binB 12 k a b)]) ∧ Below w.heap.size w w' := by
  have ia := Bv.isv_val (by omega) h2 va
  have ib := Bv.isv_val (by omega) h2 vb
  obtain ⟨eB, eK, _⟩ := Bv.bin_num 12 k a b h1 h2 (by omega) (by omega) (by omega) va vb
  have eK2 : Bv.toK 12 k = k := Bv.toK_small _ _ (by omega)
  have eN : Bv.binN 12 k a b = Bv.val k (Bv.mvf 12 (Bv.wn k) a false (Bv.low (Bv.wn k) b)) := (Bv.shl_val h1 h2 va vb).symm
  rw [eB, eK, eK2, eN]
  have HK : Hid (1 ≤ k ∧ k ≤ 9) := ⟨by omega, h2⟩
  have hk1 : (k == 1) = false := by rw [beq_eq_false_iff_ne]; omega
  clear eB eK eK2 eN h1 h2
  go_enter Try.func20, Try.ntmps20
  go_wp2_with (first | (go_at_call 13; refine (ris_any _ _ _).mono ?_; rintro e w' ⟨rfl, hw⟩; subst hw) | (go_at_call 36; refine (moved12 _ _ _ HK.out.1 HK.out.2 _).mono ?_; rintro e w2 ⟨rfl, hB⟩))
  go_ret3
  exact ⟨rfl, hB⟩

set_option maxRecDepth 100000 in
set_option maxHeartbeats 2000000 in
theorem rb13n (k a b : Int) (h1 : 2 ≤ k) (h2 : k ≤ 9) (va : Bv.Val k a) (vb : Bv.Val k b) (h5 : k ≤ 5) (hneg : a < 0) (w : World) :
    Calls Try.prog 20 #[.int .i64 13, .int .i64 k, .int .i64 a, .int .i64 b] w fun e w' => e = .returned (.tuple #[.int .i64 (Bv.binN 13 k a b), .int .i64 (Bv.binK 13 k a b), .bool (Bv.binB 13 k a b)]) ∧ Below w.heap.size w w' := by
  have ia := Bv.isv_val (by omega) h2 va
  have ib := Bv.isv_val (by omega) h2 vb
  obtain ⟨eB, eK, _⟩ := Bv.bin_num 13 k a b h1 h2 (by omega) (by omega) (by omega) va vb
  have eK2 : Bv.toK 13 k = k := Bv.toK_small _ _ (by omega)
  have hf : decide (k ≤ 5 ∧ a < 0) = true := by rw [decide_eq_true_eq]; omega
  have HH : Hid (k ≤ 5 ∧ 2 ≤ k ∧ a < 0) := ⟨h5, h1, hneg⟩
  have eN : Bv.binN 13 k a b = Bv.val k (Bv.mvf 13 (Bv.wn k) a true (Bv.low (Bv.wn k) b)) := by rw [← Bv.shr_val h1 h2 va vb, hf]
  rw [eB, eK, eK2, eN]
  have HK : Hid (1 ≤ k ∧ k ≤ 9) := ⟨by omega, h2⟩
  have hk1 : (k == 1) = false := by rw [beq_eq_false_iff_ne]; omega
  clear eB eK eK2 eN h1 h2 hf
  go_enter Try.func20, Try.ntmps20
  go_wp2_with (first | (go_at_call 13; refine (ris_any _ _ _).mono ?_; rintro e w' ⟨rfl, hw⟩; subst hw) | (go_at_call 36; refine (moved13n _ _ _ HK.out.1 HK.out.2 HH.out.1 HH.out.2.1 HH.out.2.2 _).mono ?_; rintro e w2 ⟨rfl, hB⟩))
  go_ret3
  exact ⟨rfl, hB⟩

set_option maxRecDepth 100000 in
set_option maxHeartbeats 2000000 in
theorem rb13p (k a b : Int) (h1 : 2 ≤ k) (h2 : k ≤ 9) (va : Bv.Val k a) (vb : Bv.Val k b) (h5 : k ≤ 5) (hneg : ¬ a < 0) (w : World) :
    Calls Try.prog 20 #[.int .i64 13, .int .i64 k, .int .i64 a, .int .i64 b] w fun e w' => e = .returned (.tuple #[.int .i64 (Bv.binN 13 k a b), .int .i64 (Bv.binK 13 k a b), .bool (Bv.binB 13 k a b)]) ∧ Below w.heap.size w w' := by
  have ia := Bv.isv_val (by omega) h2 va
  have ib := Bv.isv_val (by omega) h2 vb
  obtain ⟨eB, eK, _⟩ := Bv.bin_num 13 k a b h1 h2 (by omega) (by omega) (by omega) va vb
  have eK2 : Bv.toK 13 k = k := Bv.toK_small _ _ (by omega)
  have hf : decide (k ≤ 5 ∧ a < 0) = false := by rw [decide_eq_false_iff_not]; omega
  have HH : Hid (k ≤ 5 ∧ 2 ≤ k ∧ ¬ a < 0) := ⟨h5, h1, hneg⟩
  have eN : Bv.binN 13 k a b = Bv.val k (Bv.mvf 13 (Bv.wn k) a false (Bv.low (Bv.wn k) b)) := by rw [← Bv.shr_val h1 h2 va vb, hf]
  rw [eB, eK, eK2, eN]
  have HK : Hid (1 ≤ k ∧ k ≤ 9) := ⟨by omega, h2⟩
  have hk1 : (k == 1) = false := by rw [beq_eq_false_iff_ne]; omega
  clear eB eK eK2 eN h1 h2 hf
  go_enter Try.func20, Try.ntmps20
  go_wp2_with (first | (go_at_call 13; refine (ris_any _ _ _).mono ?_; rintro e w' ⟨rfl, hw⟩; subst hw) | (go_at_call 36; refine (moved13p _ _ _ HK.out.1 HK.out.2 HH.out.1 HH.out.2.1 (by have := HH.out.2.2; omega) _).mono ?_; rintro e w2 ⟨rfl, hB⟩))
  go_ret3
  exact ⟨rfl, hB⟩

set_option maxRecDepth 100000 in
set_option maxHeartbeats 2000000 in
theorem rb13u (k a b : Int) (h1 : 2 ≤ k) (h2 : k ≤ 9) (va : Bv.Val k a) (vb : Bv.Val k b) (h5 : 6 ≤ k) (w : World) :
    Calls Try.prog 20 #[.int .i64 13, .int .i64 k, .int .i64 a, .int .i64 b] w fun e w' => e = .returned (.tuple #[.int .i64 (Bv.binN 13 k a b), .int .i64 (Bv.binK 13 k a b), .bool (Bv.binB 13 k a b)]) ∧ Below w.heap.size w w' := by
  have ia := Bv.isv_val (by omega) h2 va
  have ib := Bv.isv_val (by omega) h2 vb
  obtain ⟨eB, eK, _⟩ := Bv.bin_num 13 k a b h1 h2 (by omega) (by omega) (by omega) va vb
  have eK2 : Bv.toK 13 k = k := Bv.toK_small _ _ (by omega)
  have HH : Hid (6 ≤ k) := h5
  have hf : decide (k ≤ 5 ∧ a < 0) = false := by rw [decide_eq_false_iff_not]; omega
  have eN : Bv.binN 13 k a b = Bv.val k (Bv.mvf 13 (Bv.wn k) a false (Bv.low (Bv.wn k) b)) := by rw [← Bv.shr_val h1 h2 va vb, hf]
  rw [eB, eK, eK2, eN]
  have HK : Hid (1 ≤ k ∧ k ≤ 9) := ⟨by omega, h2⟩
  have hk1 : (k == 1) = false := by rw [beq_eq_false_iff_ne]; omega
  clear eB eK eK2 eN h1 h2 hf
  go_enter Try.func20, Try.ntmps20
  go_wp2_with (first | (go_at_call 13; refine (ris_any _ _ _).mono ?_; rintro e w' ⟨rfl, hw⟩; subst hw) | (go_at_call 36; refine (moved13u _ _ _ HK.out.1 HK.out.2 HH.out _).mono ?_; rintro e w2 ⟨rfl, hB⟩))
  go_ret3
  exact ⟨rfl, hB⟩

set_option maxRecDepth 100000 in
set_option maxHeartbeats 2000000 in
theorem rb14 (k a b : Int) (h1 : 2 ≤ k) (h2 : k ≤ 9) (va : Bv.Val k a) (vb : Bv.Val k b) (w : World) :
    Calls Try.prog 20 #[.int .i64 14, .int .i64 k, .int .i64 a, .int .i64 b] w fun e w' => e = .returned (.tuple #[.int .i64 (Bv.binN 14 k a b), .int .i64 (Bv.binK 14 k a b), .bool (Bv.binB 14 k a b)]) ∧ Below w.heap.size w w' := by
  have ia := Bv.isv_val (by omega) h2 va
  have ib := Bv.isv_val (by omega) h2 vb
  obtain ⟨eB, eK, _⟩ := Bv.bin_num 14 k a b h1 h2 (by omega) (by omega) (by omega) va vb
  have eK2 : Bv.toK 14 k = 1 := Bv.toK_test _ _ (by omega)
  have eN : Bv.binN 14 k a b = Bv.one (a == b) := Bv.nEq h1 h2 va vb
  rw [eB, eK, eK2, eN]
  have HK : Hid (1 ≤ k ∧ k ≤ 9) := ⟨by omega, h2⟩
  have hk1 : (k == 1) = false := by rw [beq_eq_false_iff_ne]; omega
  clear eB eK eK2 eN h1 h2
  go_enter Try.func20, Try.ntmps20
  go_wp2_with (first | (go_at_call 13; refine (ris_any _ _ _).mono ?_; rintro e w' ⟨rfl, hw⟩; subst hw) | (go_at_call 34; refine (truth_any _ _).mono ?_; rintro e w' ⟨rfl, hw⟩; subst hw))
  go_ret3
  exact ⟨rfl, Below.refl _ _⟩

set_option maxRecDepth 100000 in
set_option maxHeartbeats 2000000 in
theorem rb15 (k a b : Int) (h1 : 2 ≤ k) (h2 : k ≤ 9) (va : Bv.Val k a) (vb : Bv.Val k b) (w : World) :
    Calls Try.prog 20 #[.int .i64 15, .int .i64 k, .int .i64 a, .int .i64 b] w fun e w' => e = .returned (.tuple #[.int .i64 (Bv.binN 15 k a b), .int .i64 (Bv.binK 15 k a b), .bool (Bv.binB 15 k a b)]) ∧ Below w.heap.size w w' := by
  have ia := Bv.isv_val (by omega) h2 va
  have ib := Bv.isv_val (by omega) h2 vb
  obtain ⟨eB, eK, _⟩ := Bv.bin_num 15 k a b h1 h2 (by omega) (by omega) (by omega) va vb
  have eK2 : Bv.toK 15 k = 1 := Bv.toK_test _ _ (by omega)
  have eN : Bv.binN 15 k a b = Bv.one (a != b) := Bv.nNe h1 h2 va vb
  rw [eB, eK, eK2, eN]
  have HK : Hid (1 ≤ k ∧ k ≤ 9) := ⟨by omega, h2⟩
  have hk1 : (k == 1) = false := by rw [beq_eq_false_iff_ne]; omega
  clear eB eK eK2 eN h1 h2
  go_enter Try.func20, Try.ntmps20
  go_wp2_with (first | (go_at_call 13; refine (ris_any _ _ _).mono ?_; rintro e w' ⟨rfl, hw⟩; subst hw) | (go_at_call 34; refine (truth_any _ _).mono ?_; rintro e w' ⟨rfl, hw⟩; subst hw))
  go_ret3
  exact ⟨rfl, Below.refl _ _⟩

set_option maxRecDepth 100000 in
set_option maxHeartbeats 2000000 in
theorem rb16 (k a b : Int) (h1 : 2 ≤ k) (h2 : k ≤ 9) (va : Bv.Val k a) (vb : Bv.Val k b) (w : World) :
    Calls Try.prog 20 #[.int .i64 16, .int .i64 k, .int .i64 a, .int .i64 b] w fun e w' => e = .returned (.tuple #[.int .i64 (Bv.binN 16 k a b), .int .i64 (Bv.binK 16 k a b), .bool (Bv.binB 16 k a b)]) ∧ Below w.heap.size w w' := by
  have ia := Bv.isv_val (by omega) h2 va
  have ib := Bv.isv_val (by omega) h2 vb
  obtain ⟨eB, eK, _⟩ := Bv.bin_num 16 k a b h1 h2 (by omega) (by omega) (by omega) va vb
  have eK2 : Bv.toK 16 k = 1 := Bv.toK_test _ _ (by omega)
  have eN : Bv.binN 16 k a b = Bv.one (Bv.lss k a b) := Bv.nLt h1 h2 va vb
  rw [eB, eK, eK2, eN]
  have HK : Hid (1 ≤ k ∧ k ≤ 9) := ⟨by omega, h2⟩
  have hk1 : (k == 1) = false := by rw [beq_eq_false_iff_ne]; omega
  clear eB eK eK2 eN h1 h2
  go_enter Try.func20, Try.ntmps20
  go_wp2_with (first | (go_at_call 13; refine (ris_any _ _ _).mono ?_; rintro e w' ⟨rfl, hw⟩; subst hw) | (go_at_call 34; refine (truth_any _ _).mono ?_; rintro e w' ⟨rfl, hw⟩; subst hw) | (go_at_call 37; refine (below_val _ _ _ HK.out.2 (by assumption) (by assumption) _).mono ?_; rintro e w' ⟨rfl, hw⟩; subst hw))
  go_ret3
  exact ⟨rfl, Below.refl _ _⟩

set_option maxRecDepth 100000 in
set_option maxHeartbeats 2000000 in
theorem rb17 (k a b : Int) (h1 : 2 ≤ k) (h2 : k ≤ 9) (va : Bv.Val k a) (vb : Bv.Val k b) (w : World) :
    Calls Try.prog 20 #[.int .i64 17, .int .i64 k, .int .i64 a, .int .i64 b] w fun e w' => e = .returned (.tuple #[.int .i64 (Bv.binN 17 k a b), .int .i64 (Bv.binK 17 k a b), .bool (Bv.binB 17 k a b)]) ∧ Below w.heap.size w w' := by
  have ia := Bv.isv_val (by omega) h2 va
  have ib := Bv.isv_val (by omega) h2 vb
  obtain ⟨eB, eK, _⟩ := Bv.bin_num 17 k a b h1 h2 (by omega) (by omega) (by omega) va vb
  have eK2 : Bv.toK 17 k = 1 := Bv.toK_test _ _ (by omega)
  have eN : Bv.binN 17 k a b = Bv.one (!Bv.lss k b a) := Bv.nLe h1 h2 va vb
  rw [eB, eK, eK2, eN]
  have HK : Hid (1 ≤ k ∧ k ≤ 9) := ⟨by omega, h2⟩
  have hk1 : (k == 1) = false := by rw [beq_eq_false_iff_ne]; omega
  clear eB eK eK2 eN h1 h2
  go_enter Try.func20, Try.ntmps20
  go_wp2_with (first | (go_at_call 13; refine (ris_any _ _ _).mono ?_; rintro e w' ⟨rfl, hw⟩; subst hw) | (go_at_call 34; refine (truth_any _ _).mono ?_; rintro e w' ⟨rfl, hw⟩; subst hw) | (go_at_call 37; refine (below_val _ _ _ HK.out.2 (by assumption) (by assumption) _).mono ?_; rintro e w' ⟨rfl, hw⟩; subst hw))
  go_ret3
  exact ⟨rfl, Below.refl _ _⟩

set_option maxRecDepth 100000 in
set_option maxHeartbeats 2000000 in
theorem rb18 (k a b : Int) (h1 : 2 ≤ k) (h2 : k ≤ 9) (va : Bv.Val k a) (vb : Bv.Val k b) (w : World) :
    Calls Try.prog 20 #[.int .i64 18, .int .i64 k, .int .i64 a, .int .i64 b] w fun e w' => e = .returned (.tuple #[.int .i64 (Bv.binN 18 k a b), .int .i64 (Bv.binK 18 k a b), .bool (Bv.binB 18 k a b)]) ∧ Below w.heap.size w w' := by
  have ia := Bv.isv_val (by omega) h2 va
  have ib := Bv.isv_val (by omega) h2 vb
  obtain ⟨eB, eK, _⟩ := Bv.bin_num 18 k a b h1 h2 (by omega) (by omega) (by omega) va vb
  have eK2 : Bv.toK 18 k = 1 := Bv.toK_test _ _ (by omega)
  have eN : Bv.binN 18 k a b = Bv.one (Bv.lss k b a) := Bv.nGt h1 h2 va vb
  rw [eB, eK, eK2, eN]
  have HK : Hid (1 ≤ k ∧ k ≤ 9) := ⟨by omega, h2⟩
  have hk1 : (k == 1) = false := by rw [beq_eq_false_iff_ne]; omega
  clear eB eK eK2 eN h1 h2
  go_enter Try.func20, Try.ntmps20
  go_wp2_with (first | (go_at_call 13; refine (ris_any _ _ _).mono ?_; rintro e w' ⟨rfl, hw⟩; subst hw) | (go_at_call 34; refine (truth_any _ _).mono ?_; rintro e w' ⟨rfl, hw⟩; subst hw) | (go_at_call 37; refine (below_val _ _ _ HK.out.2 (by assumption) (by assumption) _).mono ?_; rintro e w' ⟨rfl, hw⟩; subst hw))
  go_ret3
  exact ⟨rfl, Below.refl _ _⟩

set_option maxRecDepth 100000 in
set_option maxHeartbeats 2000000 in
theorem rb19 (k a b : Int) (h1 : 2 ≤ k) (h2 : k ≤ 9) (va : Bv.Val k a) (vb : Bv.Val k b) (w : World) :
    Calls Try.prog 20 #[.int .i64 19, .int .i64 k, .int .i64 a, .int .i64 b] w fun e w' => e = .returned (.tuple #[.int .i64 (Bv.binN 19 k a b), .int .i64 (Bv.binK 19 k a b), .bool (Bv.binB 19 k a b)]) ∧ Below w.heap.size w w' := by
  have ia := Bv.isv_val (by omega) h2 va
  have ib := Bv.isv_val (by omega) h2 vb
  obtain ⟨eB, eK, _⟩ := Bv.bin_num 19 k a b h1 h2 (by omega) (by omega) (by omega) va vb
  have eK2 : Bv.toK 19 k = 1 := Bv.toK_test _ _ (by omega)
  have eN : Bv.binN 19 k a b = Bv.one (!Bv.lss k a b) := Bv.nGe h1 h2 va vb
  rw [eB, eK, eK2, eN]
  have HK : Hid (1 ≤ k ∧ k ≤ 9) := ⟨by omega, h2⟩
  have hk1 : (k == 1) = false := by rw [beq_eq_false_iff_ne]; omega
  clear eB eK eK2 eN h1 h2
  go_enter Try.func20, Try.ntmps20
  go_wp2_with (first | (go_at_call 13; refine (ris_any _ _ _).mono ?_; rintro e w' ⟨rfl, hw⟩; subst hw) | (go_at_call 34; refine (truth_any _ _).mono ?_; rintro e w' ⟨rfl, hw⟩; subst hw) | (go_at_call 37; refine (below_val _ _ _ HK.out.2 (by assumption) (by assumption) _).mono ?_; rintro e w' ⟨rfl, hw⟩; subst hw))
  go_ret3
  exact ⟨rfl, Below.refl _ _⟩
end Go.Proofs.Ytjlphploknhcfaa
