/- The walk of the document's own divide: the quotient and the rest of two numbers of 64 bits without a sign (the divisor not nought). -/
import Derived.Test.YtjlphploknhcfaaChecked
import Derived.Test.YtjlphploknhcfaaBvI
namespace Go.Proofs.Ytjlphploknhcfaa
open Go.RowKit

set_option maxHeartbeats 4000000 in
theorem divide_any (a b : Int) (ib : Bv.I64 b) (hb : 0 < Bv.low 64 b) (w : World) :
    Calls Try.prog 35 #[.int .i64 a, .int .i64 b] w fun e w' => e = .returned (.tuple #[.int .i64 (wrap64 ((Bv.low 64 a / Bv.low 64 b : Nat) : Int)), .int .i64 (wrap64 ((Bv.low 64 a % Bv.low 64 b : Nat) : Int))]) ∧ w' = w := by
  have HS : Hid (∀ (t : Nat) (r q : Int), r = wrap64 ((Bv.low 64 a / 2 ^ (t + 1) % Bv.low 64 b : Nat) : Int) → q = wrap64 ((Bv.low 64 a / 2 ^ (t + 1) / Bv.low 64 b * 2 ^ (t + 1) : Nat) : Int) → _) := fun t r q => div_step a b t ib hb r q
  have hz : Bv.low 64 a / 2 ^ 64 = 0 := Nat.div_eq_of_lt (Bv.low_lt 64 a)
  have H0 : Hid ((0 : Int) = wrap64 ((Bv.low 64 a / 2 ^ 64 % Bv.low 64 b : Nat) : Int) ∧ (0 : Int) = wrap64 ((Bv.low 64 a / 2 ^ 64 / Bv.low 64 b * 2 ^ 64 : Nat) : Int)) := by
    rw [hz]
    constructor
    · rw [Nat.zero_mod]; kernel_rfl
    · rw [Nat.zero_div, Nat.zero_mul]; kernel_rfl
  clear hz hb
  go_enter Try.func35, Try.ntmps35
  go_wp2
  go_loop [6, 7, 8] (fun q r i => ∃ t : Nat, ∃ x y : Int, t ≤ 64 ∧ i = .int .i64 ((t : Int) - 1) ∧ q = .int .i64 x ∧ r = .int .i64 y ∧ Hid (y = wrap64 ((Bv.low 64 a / 2 ^ t % Bv.low 64 b : Nat) : Int) ∧ x = wrap64 ((Bv.low 64 a / 2 ^ t / Bv.low 64 b * 2 ^ t : Nat) : Int))) (fun _ _ i => (intOf i + 1).toNat)
  case atStart => exact ⟨64, 0, 0, by omega, rfl, rfl, rfl, H0⟩
  case round =>
    clear H0
    obtain ⟨t, x, y, ht, rfl, rfl, rfl, HX⟩ := hrel
    cases t with
    | zero =>
      have e : ((0 : Nat) : Int) - 1 = -1 := rfl
      rw [e]
      go_wp2
      go_ret2
      obtain ⟨hy, hx⟩ := HX.out
      exact ⟨by rw [hx, hy]; simp, rfl⟩
    | succ s =>
      have e : ((s + 1 : Nat) : Int) - 1 = (s : Int) := by omega
      rw [e]
      clear e
      obtain ⟨r1, er, i1, ht1, ht2⟩ := HS.out s y x HX.out.1 HX.out.2
      have HT : Hid _ := And.intro ht1 ht2
      clear ht1 ht2 HX
      have fin : ∀ x' y' : Int, y' = wrap64 ((Bv.low 64 a / 2 ^ s % Bv.low 64 b : Nat) : Int) → x' = wrap64 ((Bv.low 64 a / 2 ^ s / Bv.low 64 b * 2 ^ s : Nat) : Int) →
          (∃ t : Nat, ∃ x y : Int, t ≤ 64 ∧ Value.int .i64 ((s : Int) - 1) = .int .i64 ((t : Int) - 1) ∧ Value.int .i64 x' = .int .i64 x ∧ Value.int .i64 y' = .int .i64 y ∧ Hid (y = wrap64 ((Bv.low 64 a / 2 ^ t % Bv.low 64 b : Nat) : Int) ∧ x = wrap64 ((Bv.low 64 a / 2 ^ t / Bv.low 64 b * 2 ^ t : Nat) : Int))) ∧
            (intOf (.int .i64 ((s : Int) - 1)) + 1).toNat < (intOf (.int .i64 (s : Int)) + 1).toNat := fun x' y' h1 h2 =>
        ⟨⟨s, x', y', by omega, rfl, rfl, rfl, h1, h2⟩, by simp [intOf]⟩
      have HF : Hid _ := fin
      clear fin
      have h63s : (s = 63 ∧ ((s : Int) == 63) = true) ∨ (¬ s = 63 ∧ ((s : Int) == 63) = false) := by
        by_cases h : s = 63
        · exact Or.inl ⟨h, by rw [beq_iff_eq]; omega⟩
        · exact Or.inr ⟨h, by rw [beq_eq_false_iff_ne]; omega⟩
      by_cases hover : y < 0
      · have HA : Hid _ := HT.out.1 (Or.inl hover)
        clear HT
        rcases h63s with ⟨h63, h63'⟩ | ⟨h63, h63'⟩
        · have H63 : Hid (s = 63) := h63
          clear h63
          go_wp2_with (first | (go_at_call 41; refine (rbit_any _ _ (by omega) _).mono ?_; rintro e w2 ⟨rfl, hw⟩; subst hw) | (go_at_call 23; refine (rpower_any _ (by omega) _).mono ?_; rintro e w2 ⟨rfl, hw⟩; subst hw) | (go_at_call 37; refine (below9_any _ _ (by assumption) (by assumption) _).mono ?_; rintro e w2 ⟨rfl, hw⟩; subst hw))
          exact HF.out _ _ HA.out.1 (HA.out.2.2 H63.out)
        · go_wp2_with (first | (go_at_call 41; refine (rbit_any _ _ (by omega) _).mono ?_; rintro e w2 ⟨rfl, hw⟩; subst hw) | (go_at_call 23; refine (rpower_any _ (by omega) _).mono ?_; rintro e w2 ⟨rfl, hw⟩; subst hw) | (go_at_call 37; refine (below9_any _ _ (by assumption) (by assumption) _).mono ?_; rintro e w2 ⟨rfl, hw⟩; subst hw))
          exact HF.out _ _ HA.out.1 HA.out.2.1
      · cases hl : Bv.lss 9 r1 b with
        | false =>
          have HA : Hid _ := HT.out.1 (Or.inr hl)
          clear HT
          rcases h63s with ⟨h63, h63'⟩ | ⟨h63, h63'⟩
          · have H63 : Hid (s = 63) := h63
            clear h63
            go_wp2_with (first | (go_at_call 41; refine (rbit_any _ _ (by omega) _).mono ?_; rintro e w2 ⟨rfl, hw⟩; subst hw) | (go_at_call 23; refine (rpower_any _ (by omega) _).mono ?_; rintro e w2 ⟨rfl, hw⟩; subst hw) | (go_at_call 37; refine (below9_any _ _ (by assumption) (by assumption) _).mono ?_; rintro e w2 ⟨rfl, hw⟩; subst hw))
            exact HF.out _ _ HA.out.1 (HA.out.2.2 H63.out)
          · go_wp2_with (first | (go_at_call 41; refine (rbit_any _ _ (by omega) _).mono ?_; rintro e w2 ⟨rfl, hw⟩; subst hw) | (go_at_call 23; refine (rpower_any _ (by omega) _).mono ?_; rintro e w2 ⟨rfl, hw⟩; subst hw) | (go_at_call 37; refine (below9_any _ _ (by assumption) (by assumption) _).mono ?_; rintro e w2 ⟨rfl, hw⟩; subst hw))
            exact HF.out _ _ HA.out.1 HA.out.2.1
        | true =>
          have HA : Hid _ := HT.out.2 (by omega) hl
          clear HT h63s
          go_wp2_with (first | (go_at_call 41; refine (rbit_any _ _ (by omega) _).mono ?_; rintro e w2 ⟨rfl, hw⟩; subst hw) | (go_at_call 23; refine (rpower_any _ (by omega) _).mono ?_; rintro e w2 ⟨rfl, hw⟩; subst hw) | (go_at_call 37; refine (below9_any _ _ (by assumption) (by assumption) _).mono ?_; rintro e w2 ⟨rfl, hw⟩; subst hw))
          exact HF.out _ _ HA.out.1 HA.out.2
end Go.Proofs.Ytjlphploknhcfaa
