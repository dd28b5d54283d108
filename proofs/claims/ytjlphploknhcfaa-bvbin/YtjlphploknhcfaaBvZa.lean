/- The walk of the document's own Bin, gathered: it answers as bv.Bin's plain definition says, whatever the operation, the kind and the two numbers of 64 bits. -/
import Derived.Test.YtjlphploknhcfaaChecked
import Derived.Test.YtjlphploknhcfaaBvZ
namespace Go.Proofs.Ytjlphploknhcfaa
open Go.RowKit

theorem val1 {a : Int} (va : Bv.Val 1 a) : a = 0 ∨ a = 1 := by
  have h := va.1
  rw [Bv.wrp1] at h
  omega
theorem binB1 {op a b : Int} (o : op = 8 ∨ op = 9 ∨ op = 10 ∨ op = 11 ∨ op = 14 ∨ op = 15) (va : Bv.Val 1 a) (vb : Bv.Val 1 b) : Bv.binB op 1 a b = true := by
  have ia := Bv.isv_val (by decide) (by decide) va
  have ib := Bv.isv_val (by decide) (by decide) vb
  unfold Bv.binB Bv.allv
  have ht : Bv.tks (Bv.ofB op) 1 = true := by rcases o with rfl | rfl | rfl | rfl | rfl | rfl <;> kernel_rfl
  rw [ht]
  simp [ia, ib]
theorem binK1 {op a b : Int} (h : Bv.binB op 1 a b = true) : Bv.binK op 1 a b = 1 := by
  unfold Bv.binK Bv.toK
  rw [h]
  simp

set_option maxRecDepth 100000 in
set_option maxHeartbeats 2000000 in
theorem rbo8 (a b : Int) (va : Bv.Val 1 a) (vb : Bv.Val 1 b) (w : World) :
    Calls Try.prog 20 #[.int .i64 8, .int .i64 1, .int .i64 a, .int .i64 b] w fun e w' => e = .returned (.tuple #[.int .i64 (Bv.binN 8 1 a b), .int .i64 (Bv.binK 8 1 a b), .bool (Bv.binB 8 1 a b)]) ∧ Below w.heap.size w w' := by
  have ia := Bv.isv_val (by decide) (by decide) va
  have ib := Bv.isv_val (by decide) (by decide) vb
  have eB : Bv.binB 8 1 a b = true := binB1 (by omega) va vb
  have eK := binK1 eB
  have eN : Bv.binN 8 1 a b = Bv.val 1 (fun i => Bv.bt a i && Bv.bt b i) := (and_val (by decide) (by decide) va vb).symm
  rw [eB, eK, eN]
  have HK : Hid ((1 : Int) ≤ 1 ∧ (1 : Int) ≤ 9) := ⟨by decide, by decide⟩
  clear eB eK eN va vb
  go_enter Try.func20, Try.ntmps20
  go_wp2_with (first | (go_at_call 13; refine (ris_any _ _ _).mono ?_; rintro e w' ⟨rfl, hw⟩; subst hw) | (go_at_call 33; refine (rand_any _ _ _ HK.out.1 HK.out.2 _).mono ?_; rintro e w2 ⟨rfl, hB⟩))
  go_ret3
  exact ⟨rfl, hB⟩

set_option maxRecDepth 100000 in
set_option maxHeartbeats 2000000 in
theorem rbo9 (a b : Int) (va : Bv.Val 1 a) (vb : Bv.Val 1 b) (w : World) :
    Calls Try.prog 20 #[.int .i64 9, .int .i64 1, .int .i64 a, .int .i64 b] w fun e w' => e = .returned (.tuple #[.int .i64 (Bv.binN 9 1 a b), .int .i64 (Bv.binK 9 1 a b), .bool (Bv.binB 9 1 a b)]) ∧ Below w.heap.size w w' := by
  have ia := Bv.isv_val (by decide) (by decide) va
  have ib := Bv.isv_val (by decide) (by decide) vb
  have eB : Bv.binB 9 1 a b = true := binB1 (by omega) va vb
  have eK := binK1 eB
  have eN : Bv.binN 9 1 a b = Bv.val 1 (fun i => Bv.bt a i || Bv.bt b i) := (or_val (by decide) (by decide) va vb).symm
  rw [eB, eK, eN]
  have HK : Hid ((1 : Int) ≤ 1 ∧ (1 : Int) ≤ 9) := ⟨by decide, by decide⟩
  clear eB eK eN va vb
  go_enter Try.func20, Try.ntmps20
  go_wp2_with (first | (go_at_call 13; refine (ris_any _ _ _).mono ?_; rintro e w' ⟨rfl, hw⟩; subst hw) | (go_at_call 33; refine (ror_any _ _ _ HK.out.1 HK.out.2 _).mono ?_; rintro e w2 ⟨rfl, hB⟩))
  go_ret3
  exact ⟨rfl, hB⟩

set_option maxRecDepth 100000 in
set_option maxHeartbeats 2000000 in
theorem rbo10 (a b : Int) (va : Bv.Val 1 a) (vb : Bv.Val 1 b) (w : World) :
    Calls Try.prog 20 #[.int .i64 10, .int .i64 1, .int .i64 a, .int .i64 b] w fun e w' => e = .returned (.tuple #[.int .i64 (Bv.binN 10 1 a b), .int .i64 (Bv.binK 10 1 a b), .bool (Bv.binB 10 1 a b)]) ∧ Below w.heap.size w w' := by
  have ia := Bv.isv_val (by decide) (by decide) va
  have ib := Bv.isv_val (by decide) (by decide) vb
  have eB : Bv.binB 10 1 a b = true := binB1 (by omega) va vb
  have eK := binK1 eB
  have eN : Bv.binN 10 1 a b = Bv.val 1 (fun i => Bv.bt a i != Bv.bt b i) := (xor_val (by decide) (by decide) va vb).symm
  rw [eB, eK, eN]
  have HK : Hid ((1 : Int) ≤ 1 ∧ (1 : Int) ≤ 9) := ⟨by decide, by decide⟩
  clear eB eK eN va vb
  go_enter Try.func20, Try.ntmps20
  go_wp2_with (first | (go_at_call 13; refine (ris_any _ _ _).mono ?_; rintro e w' ⟨rfl, hw⟩; subst hw) | (go_at_call 33; refine (rxor_any _ _ _ HK.out.1 HK.out.2 _).mono ?_; rintro e w2 ⟨rfl, hB⟩))
  go_ret3
  exact ⟨rfl, hB⟩

set_option maxRecDepth 100000 in
set_option maxHeartbeats 2000000 in
theorem rbo14 (a b : Int) (va : Bv.Val 1 a) (vb : Bv.Val 1 b) (w : World) :
    Calls Try.prog 20 #[.int .i64 14, .int .i64 1, .int .i64 a, .int .i64 b] w fun e w' => e = .returned (.tuple #[.int .i64 (Bv.binN 14 1 a b), .int .i64 (Bv.binK 14 1 a b), .bool (Bv.binB 14 1 a b)]) ∧ Below w.heap.size w w' := by
  have ia := Bv.isv_val (by decide) (by decide) va
  have ib := Bv.isv_val (by decide) (by decide) vb
  have eB : Bv.binB 14 1 a b = true := binB1 (by omega) va vb
  have eK := binK1 eB
  have eN : Bv.binN 14 1 a b = Bv.one (a == b) := by unfold Bv.binN; rw [eB]; exact Bv.wrp_one _
  rw [eB, eK, eN]
  have HK : Hid ((1 : Int) ≤ 1 ∧ (1 : Int) ≤ 9) := ⟨by decide, by decide⟩
  clear eB eK eN va vb
  go_enter Try.func20, Try.ntmps20
  go_wp2_with (first | (go_at_call 13; refine (ris_any _ _ _).mono ?_; rintro e w' ⟨rfl, hw⟩; subst hw) | (go_at_call 34; refine (truth_any _ _).mono ?_; rintro e w' ⟨rfl, hw⟩; subst hw))
  go_ret3
  exact ⟨rfl, Below.refl _ _⟩

set_option maxRecDepth 100000 in
set_option maxHeartbeats 2000000 in
theorem rbo15 (a b : Int) (va : Bv.Val 1 a) (vb : Bv.Val 1 b) (w : World) :
    Calls Try.prog 20 #[.int .i64 15, .int .i64 1, .int .i64 a, .int .i64 b] w fun e w' => e = .returned (.tuple #[.int .i64 (Bv.binN 15 1 a b), .int .i64 (Bv.binK 15 1 a b), .bool (Bv.binB 15 1 a b)]) ∧ Below w.heap.size w w' := by
  have ia := Bv.isv_val (by decide) (by decide) va
  have ib := Bv.isv_val (by decide) (by decide) vb
  have eB : Bv.binB 15 1 a b = true := binB1 (by omega) va vb
  have eK := binK1 eB
  have eN : Bv.binN 15 1 a b = Bv.one (a != b) := by unfold Bv.binN; rw [eB]; exact Bv.wrp_one _
  rw [eB, eK, eN]
  have HK : Hid ((1 : Int) ≤ 1 ∧ (1 : Int) ≤ 9) := ⟨by decide, by decide⟩
  clear eB eK eN va vb
  go_enter Try.func20, Try.ntmps20
  go_wp2_with (first | (go_at_call 13; refine (ris_any _ _ _).mono ?_; rintro e w' ⟨rfl, hw⟩; subst hw) | (go_at_call 34; refine (truth_any _ _).mono ?_; rintro e w' ⟨rfl, hw⟩; subst hw))
  go_ret3
  exact ⟨rfl, Below.refl _ _⟩

set_option maxRecDepth 100000 in
set_option maxHeartbeats 4000000 in
theorem rbo11 (a b : Int) (va : Bv.Val 1 a) (vb : Bv.Val 1 b) (w : World) :
    Calls Try.prog 20 #[.int .i64 11, .int .i64 1, .int .i64 a, .int .i64 b] w fun e w' => e = .returned (.tuple #[.int .i64 (Bv.binN 11 1 a b), .int .i64 (Bv.binK 11 1 a b), .bool (Bv.binB 11 1 a b)]) ∧ Below w.heap.size w w' := by
  have ia := Bv.isv_val (by decide) (by decide) va
  have ib := Bv.isv_val (by decide) (by decide) vb
  have eB : Bv.binB 11 1 a b = true := binB1 (by omega) va vb
  have eK := binK1 eB
  rw [eB, eK]
  clear eB eK
  rcases val1 va with rfl | rfl
  all_goals rcases val1 vb with rfl | rfl
  · have eN : Bv.binN 11 1 0 0 = Bv.one true := by kernel_rfl
    rw [eN]
    clear eN va vb
    go_enter Try.func20, Try.ntmps20
    go_wp2_with (first | (go_at_call 13; refine (ris_any _ _ _).mono ?_; rintro e w' ⟨rfl, hw⟩; subst hw) | (go_at_call 34; refine (truth_any _ _).mono ?_; rintro e w' ⟨rfl, hw⟩; subst hw))
    go_ret3
    exact ⟨rfl, Below.refl _ _⟩
  · have eN : Bv.binN 11 1 0 1 = Bv.one true := by kernel_rfl
    rw [eN]
    clear eN va vb
    go_enter Try.func20, Try.ntmps20
    go_wp2_with (first | (go_at_call 13; refine (ris_any _ _ _).mono ?_; rintro e w' ⟨rfl, hw⟩; subst hw) | (go_at_call 34; refine (truth_any _ _).mono ?_; rintro e w' ⟨rfl, hw⟩; subst hw))
    go_ret3
    exact ⟨rfl, Below.refl _ _⟩
  · have eN : Bv.binN 11 1 1 0 = Bv.one false := by kernel_rfl
    rw [eN]
    clear eN va vb
    go_enter Try.func20, Try.ntmps20
    go_wp2_with (first | (go_at_call 13; refine (ris_any _ _ _).mono ?_; rintro e w' ⟨rfl, hw⟩; subst hw) | (go_at_call 34; refine (truth_any _ _).mono ?_; rintro e w' ⟨rfl, hw⟩; subst hw))
    go_ret3
    exact ⟨rfl, Below.refl _ _⟩
  · have eN : Bv.binN 11 1 1 1 = Bv.one true := by kernel_rfl
    rw [eN]
    clear eN va vb
    go_enter Try.func20, Try.ntmps20
    go_wp2_with (first | (go_at_call 13; refine (ris_any _ _ _).mono ?_; rintro e w' ⟨rfl, hw⟩; subst hw) | (go_at_call 34; refine (truth_any _ _).mono ?_; rintro e w' ⟨rfl, hw⟩; subst hw))
    go_ret3
    exact ⟨rfl, Below.refl _ _⟩

set_option maxRecDepth 100000 in
set_option maxHeartbeats 4000000 in
theorem rb_noval (op k a b : Int) (h : (Bv.isv k a && Bv.isv k b) = false) (w : World) :
    Calls Try.prog 20 #[.int .i64 op, .int .i64 k, .int .i64 a, .int .i64 b] w fun e w' => e = .returned (.tuple #[.int .i64 0, .int .i64 0, .bool false]) ∧ Below w.heap.size w w' := by
  cases ha : Bv.isv k a with
  | false =>
    clear h
    go_enter Try.func20, Try.ntmps20
    go_wp2_with (first | (go_at_call 13; refine (ris_any _ _ _).mono ?_; rintro e w' ⟨rfl, hw⟩; subst hw))
    go_ret3
    exact ⟨rfl, Below.refl _ _⟩
  | true =>
    have hb : Bv.isv k b = false := by rw [ha] at h; simpa using h
    clear h
    go_enter Try.func20, Try.ntmps20
    go_wp2_with (first | (go_at_call 13; refine (ris_any _ _ _).mono ?_; rintro e w' ⟨rfl, hw⟩; subst hw))
    go_ret3
    exact ⟨rfl, Below.refl _ _⟩

set_option maxRecDepth 100000 in
set_option maxHeartbeats 4000000 in
theorem rb_none1 (op a b : Int) (ia : Bv.isv 1 a = true) (ib : Bv.isv 1 b = true) (o : op < 8 ∨ op = 12 ∨ op = 13 ∨ 15 < op) (w : World) :
    Calls Try.prog 20 #[.int .i64 op, .int .i64 1, .int .i64 a, .int .i64 b] w fun e w' => e = .returned (.tuple #[.int .i64 0, .int .i64 0, .bool false]) ∧ Below w.heap.size w w' := by
  have o8 : (op == 8) = false := by rw [beq_eq_false_iff_ne]; omega
  have o9 : (op == 9) = false := by rw [beq_eq_false_iff_ne]; omega
  have o10 : (op == 10) = false := by rw [beq_eq_false_iff_ne]; omega
  have o11 : (op == 11) = false := by rw [beq_eq_false_iff_ne]; omega
  have o14 : (op == 14) = false := by rw [beq_eq_false_iff_ne]; omega
  have o15 : (op == 15) = false := by rw [beq_eq_false_iff_ne]; omega
  clear o
  go_enter Try.func20, Try.ntmps20
  go_wp2_with (first | (go_at_call 13; refine (ris_any _ _ _).mono ?_; rintro e w' ⟨rfl, hw⟩; subst hw))
  go_ret3
  exact ⟨rfl, Below.refl _ _⟩

set_option maxRecDepth 100000 in
set_option maxHeartbeats 4000000 in
theorem rb_none (op k a b : Int) (hk : ¬ k = 1) (ia : Bv.isv k a = true) (ib : Bv.isv k b = true) (o : op < 3 ∨ op = 11 ∨ 19 < op) (w : World) :
    Calls Try.prog 20 #[.int .i64 op, .int .i64 k, .int .i64 a, .int .i64 b] w fun e w' => e = .returned (.tuple #[.int .i64 0, .int .i64 0, .bool false]) ∧ Below w.heap.size w w' := by
  have o3 : (op == 3) = false := by rw [beq_eq_false_iff_ne]; omega
  have o4 : (op == 4) = false := by rw [beq_eq_false_iff_ne]; omega
  have o5 : (op == 5) = false := by rw [beq_eq_false_iff_ne]; omega
  have o6 : (op == 6) = false := by rw [beq_eq_false_iff_ne]; omega
  have o7 : (op == 7) = false := by rw [beq_eq_false_iff_ne]; omega
  have o8 : (op == 8) = false := by rw [beq_eq_false_iff_ne]; omega
  have o9 : (op == 9) = false := by rw [beq_eq_false_iff_ne]; omega
  have o10 : (op == 10) = false := by rw [beq_eq_false_iff_ne]; omega
  have o12 : (op == 12) = false := by rw [beq_eq_false_iff_ne]; omega
  have o13 : (op == 13) = false := by rw [beq_eq_false_iff_ne]; omega
  have o14 : (op == 14) = false := by rw [beq_eq_false_iff_ne]; omega
  have o15 : (op == 15) = false := by rw [beq_eq_false_iff_ne]; omega
  have o16 : (op == 16) = false := by rw [beq_eq_false_iff_ne]; omega
  have o17 : (op == 17) = false := by rw [beq_eq_false_iff_ne]; omega
  have o18 : (op == 18) = false := by rw [beq_eq_false_iff_ne]; omega
  have o19 : (op == 19) = false := by rw [beq_eq_false_iff_ne]; omega
  have hk1 : (k == 1) = false := by rw [beq_eq_false_iff_ne]; omega
  clear o hk
  go_enter Try.func20, Try.ntmps20
  go_wp2_with (first | (go_at_call 13; refine (ris_any _ _ _).mono ?_; rintro e w' ⟨rfl, hw⟩; subst hw))
  go_ret3
  exact ⟨rfl, Below.refl _ _⟩

theorem rbin_any (op k a b : Int) (i1 : Bv.I64 a) (i2 : Bv.I64 b) (w : World) :
    Calls Try.prog 20 #[.int .i64 op, .int .i64 k, .int .i64 a, .int .i64 b] w fun e w' => e = .returned (.tuple #[.int .i64 (Bv.binN op k a b), .int .i64 (Bv.binK op k a b), .bool (Bv.binB op k a b)]) ∧ Below w.heap.size w w' := by
  have zero : Bv.binB op k a b = false → Bv.binN op k a b = 0 ∧ Bv.binK op k a b = 0 := fun e => ⟨by simp [Bv.binN, e], by simp [Bv.binK, e]⟩
  cases hv : (Bv.isv k a && Bv.isv k b) with
  | false =>
    have e : Bv.binB op k a b = false := by
      unfold Bv.binB Bv.allv
      simp only [List.all_cons, List.all_nil, Bool.and_true, hv, Bool.and_false]
    rw [e, (zero e).1, (zero e).2]
    exact rb_noval op k a b hv w
  | true =>
    have hv2 : Bv.isv k a = true ∧ Bv.isv k b = true := by simpa using hv
    obtain ⟨ia, ib⟩ := hv2
    obtain ⟨⟨k1, k9⟩, va⟩ := isv_vals i1 ia
    obtain ⟨_, vb⟩ := isv_vals i2 ib
    by_cases hk : k = 1
    · subst hk
      by_cases ho : op < 8 ∨ op = 12 ∨ op = 13 ∨ 15 < op
      · have e : Bv.binB op 1 a b = false := by
          have e : Bv.ofB op = 2 ∨ Bv.ofB op = 0 := by
            unfold Bv.ofB
            rw [if_neg (by omega), if_neg (by omega)]
            split
            · exact Or.inl rfl
            · exact Or.inr rfl
          unfold Bv.binB
          rcases e with e | e <;> rw [e] <;> simp [Bv.tks]
        rw [e, (zero e).1, (zero e).2]
        exact rb_none1 op a b ia ib ho w
      · have hc : op = 8 ∨ op = 9 ∨ op = 10 ∨ op = 11 ∨ op = 14 ∨ op = 15 := by omega
        rcases hc with rfl | rfl | rfl | rfl | rfl | rfl
        · exact rbo8 a b va vb w
        · exact rbo9 a b va vb w
        · exact rbo10 a b va vb w
        · exact rbo11 a b va vb w
        · exact rbo14 a b va vb w
        · exact rbo15 a b va vb w
    · have h1 : 2 ≤ k := by omega
      by_cases ho : op < 3 ∨ op = 11 ∨ 19 < op
      · have e : Bv.binB op k a b = false := by
          unfold Bv.binB
          have ht : Bv.tks (Bv.ofB op) k = false := by
            rcases ho with ho | ho | ho
            · have e : Bv.ofB op = 0 := by unfold Bv.ofB; rw [if_neg (by omega), if_neg (by omega), if_neg (by omega)]
              rw [e]; simp [Bv.tks]
            · have e : Bv.ofB op = 1 := by subst ho; rfl
              rw [e]; simp [Bv.tks, hk]
            · have e : Bv.ofB op = 0 := by unfold Bv.ofB; rw [if_neg (by omega), if_neg (by omega), if_neg (by omega)]
              rw [e]; simp [Bv.tks]
          rw [ht]; rfl
        rw [e, (zero e).1, (zero e).2]
        exact rb_none op k a b hk ia ib ho w
      · have hc : op = 3 ∨ op = 4 ∨ op = 5 ∨ op = 6 ∨ op = 7 ∨ op = 8 ∨ op = 9 ∨ op = 10 ∨ op = 12 ∨ op = 13 ∨ op = 14 ∨ op = 15 ∨ op = 16 ∨ op = 17 ∨ op = 18 ∨ op = 19 := by omega
        rcases hc with rfl | rfl | rfl | rfl | rfl | rfl | rfl | rfl | rfl | rfl | rfl | rfl | rfl | rfl | rfl | rfl
        · exact rb3 k a b h1 k9 va vb w
        · exact rb4 k a b h1 k9 va vb w
        · exact rb5 k a b h1 k9 va vb w
        · by_cases h0 : b = 0
          · exact rb6z k a b h1 k9 va vb h0 w
          · by_cases h9 : k = 9
            · exact rb6u k a b h1 k9 va vb h0 h9 w
            · by_cases hm : b = -1
              · exact rb6m k a b h1 k9 va vb hm (by omega) w
              · exact rb6d k a b h1 k9 va vb h0 hm (by omega) w
        · by_cases h0 : b = 0
          · exact rb7z k a b h1 k9 va vb h0 w
          · by_cases h9 : k = 9
            · exact rb7u k a b h1 k9 va vb h0 h9 w
            · by_cases hm : b = -1
              · exact rb7m k a b h1 k9 va vb hm (by omega) w
              · exact rb7d k a b h1 k9 va vb h0 hm (by omega) w
        · exact rb8 k a b h1 k9 va vb w
        · exact rb9 k a b h1 k9 va vb w
        · exact rb10 k a b h1 k9 va vb w
        · exact rb12 k a b h1 k9 va vb w
        · by_cases h5 : k ≤ 5
          · by_cases hneg : a < 0
            · exact rb13n k a b h1 k9 va vb h5 hneg w
            · exact rb13p k a b h1 k9 va vb h5 hneg w
          · exact rb13u k a b h1 k9 va vb (by omega) w
        · exact rb14 k a b h1 k9 va vb w
        · exact rb15 k a b h1 k9 va vb w
        · exact rb16 k a b h1 k9 va vb w
        · exact rb17 k a b h1 k9 va vb w
        · exact rb18 k a b h1 k9 va vb w
        · exact rb19 k a b h1 k9 va vb w
end Go.Proofs.Ytjlphploknhcfaa
