/- heap.down over rate's queue. (Written by mkrae.py.) -/
import Derived.Test.YtncbaeephnahjaaRaD
namespace Go.Proofs.Ytncbaeephnahjaa
open Go.RowKit Go.Maps Go.WideMaps Go.Shelf
open Rat (at_ swp)

theorem less_r {w : World} {b : Nat} {v : Value} {r rest : List Nat} (h : Qv w b v (r ++ rest)) (hn : (r ++ rest).length ≤ 1000) (i j : Nat) (hi : i < r.length) (hj : j < r.length) :
    Calls Try.prog 45 #[v, .int .i64 (i : Int), .int .i64 (j : Int)] w fun e w' => e = .returned (.bool (decide (at_ r i < at_ r j))) ∧ Qv w' b v (r ++ rest) ∧ Below b w w' := by
  have := less_q h hn i j (by simp; omega) (by simp; omega)
  rwa [Rat.at_app' hi, Rat.at_app' hj] at this
theorem swap_r {w : World} {b : Nat} {v : Value} {r rest : List Nat} (h : Qv w b v (r ++ rest)) (hn : (r ++ rest).length ≤ 1000) (i j : Nat) (hi : i < r.length) (hj : j < r.length) :
    Calls Try.prog 46 #[v, .int .i64 (i : Int), .int .i64 (j : Int)] w fun e w' => e = .returned (.tuple #[]) ∧ Qv w' b v (swp r i j ++ rest) ∧ Below b w w' := by
  have := swap_q h hn i j (by simp; omega) (by simp; omega)
  rwa [Rat.swp_app hi hj] at this

set_option maxHeartbeats 3200000 in
set_option maxRecDepth 20000 in
theorem down_any {w : World} {b : Nat} {v : Value} {r rest : List Nat} (h : Qv w b v (r ++ rest)) (n : Nat) (hrn : r.length = n) (hn : (r ++ rest).length ≤ 1000) (i0 : Nat) (hi0 : i0 ≤ 1000) (hd : Rat.Dn r i0) :
    Calls Try.prog 27 #[.iface 60 (.pointer (some ⟨b, 0, none⟩)), .int .i64 (i0 : Int), .int .i64 (n : Int)] w fun e w' => (∃ u, e = .returned u) ∧ ∃ r', r'.Perm r ∧ Rat.H r' ∧ Qv w' b v (r' ++ rest) ∧ Below b w w' := by
  have HH := Lib.hid h
  have HD := Lib.hid hd
  have HRN := Lib.hid hrn
  have hn1 : n ≤ 1000 := by simp at hn; omega
  clear h hd hrn
  go_enter Try.func27, Try.ntmps27
  go_wp2
  go_loopw [7] (fun iv wr => ∃ (k : Nat) (r' : List Nat), iv = .int .i64 (k : Int) ∧ k ≤ 1000 ∧ Hid (Rat.Dn r' k ∧ r'.Perm r ∧ Qv wr b v (r' ++ rest) ∧ Below b w wr)) (fun iv _ => 1001 - (intOf iv).toNat)
  case atStart => exact ⟨i0, r, rfl, hi0, Lib.hid ⟨HD.out, List.Perm.refl _, HH.out, Below.refl _ _⟩⟩
  case round =>
    obtain ⟨k, r1, rfl, hk, HG⟩ := hrel
    obtain ⟨hdn, hpm, hq1, hbl⟩ := HG.out
    have hl1 : r1.length = n := by rw [hpm.length_eq]; exact HRN.out
    have hla : (r1 ++ rest).length ≤ 1000 := by rw [List.length_append, hpm.length_eq, ← List.length_append]; exact hn
    clear HG
    by_cases hend : n ≤ 2 * k + 1
    · have hdone := Rat.dn_done hdn (fun k' h1 h2 h3 => by omega)
      have HF := Lib.hid (And.intro hdone (And.intro hpm (And.intro hq1 hbl)))
      clear hdone hpm hq1 hbl hdn
      go_wp2
      go_ret
      exact ⟨⟨_, rfl⟩, r1, HF.out.2.1, HF.out.1, HF.out.2.2.1, HF.out.2.2.2⟩
    · have hml := m_less wr b v hq1.1
      have HF := Lib.hid (And.intro hdn (And.intro hpm (And.intro hq1 hbl)))
      obtain ⟨j1, hj1⟩ : ∃ j, j = 2 * k + 1 := ⟨_, rfl⟩
      obtain ⟨j2, hj2⟩ : ∃ j, j = j1 + 1 := ⟨_, rfl⟩
      have e1 : 2 * (k : Int) + 1 = (j1 : Int) := by omega
      have e2 : (j1 : Int) + 1 = (j2 : Int) := by omega
      have n1 : ¬ n ≤ j1 := by omega
      have n2 : j1 < n := by omega
      have n0 : ¬ (j1 : Int) < 0 := by omega
      have HJ := Lib.hid (And.intro hj1 hj2)
      clear hj1 hj2 hdn hpm hbl
      by_cases hj : j2 < n
      · have hl0 := less_r hq1 hla j2 j1 (by omega) (by omega)
        clear hq1
        by_cases hc : at_ r1 j2 < at_ r1 j1
        · rw [decide_eq_true hc] at hl0
          have HC := Lib.hid hc
          clear hc
          go_wp2_with (go_at_call 45; refine hl0.mono ?_; clear hl0 hml; rintro e w2 ⟨rfl, hq2, hb2⟩; have hml := m_less w2 b v hq2.1; have HB2 := Lib.hid hb2; clear hb2; refine Hid.out ?_)
          have HM : Hid (∀ c, 0 < c → c < r1.length → (c - 1) / 2 = k → at_ r1 j2 ≤ at_ r1 c) := Lib.hid (fun c h1 h2 h3 => by
            have hc := HC.out
            have hj := HJ.out
            rcases (show c = j1 ∨ c = j2 by omega) with e | e <;> subst e <;> omega)
          have hl2 := less_r hq2 hla j2 k (by omega) (by omega)
          have HQ := Lib.hid hq2
          clear hq2
          by_cases hlt : at_ r1 j2 < at_ r1 k
          · rw [decide_eq_true hlt] at hl2
            have HLT := Lib.hid hlt
            clear hlt
            refine Lib.hid ?_
            go_wp2_with (first | (go_at_call 45; refine hl2.mono ?_; clear hl2 hml; rintro e w3 ⟨rfl, hq3, hb3⟩; have hms := m_swap w3 b v hq3.1; have HQ3 := Lib.hid (And.intro hq3 hb3); clear hq3 hb3) | (go_at_call 46; refine (swap_r HQ3.out.1 hla k j2 (by omega) (by omega)).mono ?_; rintro e w4 ⟨rfl, hq4, hb4⟩; have HQ4 := Lib.hid (And.intro hq4 hb4); clear hq4 hb4 hms))
            have hj := HJ.out
            refine ⟨⟨j2, swp r1 k j2, rfl, by omega, Lib.hid ⟨Rat.dn_step HF.out.1 (by omega) (by omega) (by omega) HM.out HLT.out, (Rat.swp_perm (by omega) (by omega)).trans HF.out.2.1, HQ4.out.1, ((HF.out.2.2.2.trans HB2.out).trans HQ3.out.2).trans HQ4.out.2⟩⟩, by simp [intOf]; omega⟩
          · rw [decide_eq_false hlt] at hl2
            have HLT := Lib.hid hlt
            clear hlt
            refine Lib.hid ?_
            go_wp2_with (go_at_call 45; refine hl2.mono ?_; clear hl2 hml; rintro e w3 ⟨rfl, hq3, hb3⟩)
            go_ret
            exact ⟨⟨_, rfl⟩, r1, HF.out.2.1, Rat.dn_done HF.out.1 (fun c h1 h2 h3 => by have h4 := HM.out c h1 h2 h3; have h5 := HLT.out; omega), hq3, (HF.out.2.2.2.trans HB2.out).trans hb3⟩
        · rw [decide_eq_false hc] at hl0
          have HC := Lib.hid hc
          clear hc
          go_wp2_with (go_at_call 45; refine hl0.mono ?_; clear hl0 hml; rintro e w2 ⟨rfl, hq2, hb2⟩; have hml := m_less w2 b v hq2.1; have HB2 := Lib.hid hb2; clear hb2; refine Hid.out ?_)
          have HM : Hid (∀ c, 0 < c → c < r1.length → (c - 1) / 2 = k → at_ r1 j1 ≤ at_ r1 c) := Lib.hid (fun c h1 h2 h3 => by
            have hc := HC.out
            have hj := HJ.out
            rcases (show c = j1 ∨ c = j2 by omega) with e | e <;> subst e <;> omega)
          have hl2 := less_r hq2 hla j1 k (by omega) (by omega)
          have HQ := Lib.hid hq2
          clear hq2
          by_cases hlt : at_ r1 j1 < at_ r1 k
          · rw [decide_eq_true hlt] at hl2
            have HLT := Lib.hid hlt
            clear hlt
            refine Lib.hid ?_
            go_wp2_with (first | (go_at_call 45; refine hl2.mono ?_; clear hl2 hml; rintro e w3 ⟨rfl, hq3, hb3⟩; have hms := m_swap w3 b v hq3.1; have HQ3 := Lib.hid (And.intro hq3 hb3); clear hq3 hb3) | (go_at_call 46; refine (swap_r HQ3.out.1 hla k j1 (by omega) (by omega)).mono ?_; rintro e w4 ⟨rfl, hq4, hb4⟩; have HQ4 := Lib.hid (And.intro hq4 hb4); clear hq4 hb4 hms))
            have hj := HJ.out
            refine ⟨⟨j1, swp r1 k j1, rfl, by omega, Lib.hid ⟨Rat.dn_step HF.out.1 (by omega) (by omega) (by omega) HM.out HLT.out, (Rat.swp_perm (by omega) (by omega)).trans HF.out.2.1, HQ4.out.1, ((HF.out.2.2.2.trans HB2.out).trans HQ3.out.2).trans HQ4.out.2⟩⟩, by simp [intOf]; omega⟩
          · rw [decide_eq_false hlt] at hl2
            have HLT := Lib.hid hlt
            clear hlt
            refine Lib.hid ?_
            go_wp2_with (go_at_call 45; refine hl2.mono ?_; clear hl2 hml; rintro e w3 ⟨rfl, hq3, hb3⟩)
            go_ret
            exact ⟨⟨_, rfl⟩, r1, HF.out.2.1, Rat.dn_done HF.out.1 (fun c h1 h2 h3 => by have h4 := HM.out c h1 h2 h3; have h5 := HLT.out; omega), hq3, (HF.out.2.2.2.trans HB2.out).trans hb3⟩
      · have HC := Lib.hid True.intro
        have n3 : n ≤ j2 := by omega
        have HM : Hid (∀ c, 0 < c → c < r1.length → (c - 1) / 2 = k → at_ r1 j1 ≤ at_ r1 c) := Lib.hid (fun c h1 h2 h3 => by
          have hc := HC.out
          have hj := HJ.out
          obtain e : c = j1 := by omega
          subst e; omega)
        have hl2 := less_r hq1 hla j1 k (by omega) (by omega)
        have HQ := Lib.hid hq1
        clear hq1
        by_cases hlt : at_ r1 j1 < at_ r1 k
        · rw [decide_eq_true hlt] at hl2
          have HLT := Lib.hid hlt
          clear hlt
          go_wp2_with (first | (go_at_call 45; refine hl2.mono ?_; clear hl2 hml; rintro e w3 ⟨rfl, hq3, hb3⟩; have hms := m_swap w3 b v hq3.1; have HQ3 := Lib.hid (And.intro hq3 hb3); clear hq3 hb3) | (go_at_call 46; refine (swap_r HQ3.out.1 hla k j1 (by omega) (by omega)).mono ?_; rintro e w4 ⟨rfl, hq4, hb4⟩; have HQ4 := Lib.hid (And.intro hq4 hb4); clear hq4 hb4 hms))
          have hj := HJ.out
          refine ⟨⟨j1, swp r1 k j1, rfl, by omega, Lib.hid ⟨Rat.dn_step HF.out.1 (by omega) (by omega) (by omega) HM.out HLT.out, (Rat.swp_perm (by omega) (by omega)).trans HF.out.2.1, HQ4.out.1, (HF.out.2.2.2.trans HQ3.out.2).trans HQ4.out.2⟩⟩, by simp [intOf]; omega⟩
        · rw [decide_eq_false hlt] at hl2
          have HLT := Lib.hid hlt
          clear hlt
          go_wp2_with (go_at_call 45; refine hl2.mono ?_; clear hl2 hml; rintro e w3 ⟨rfl, hq3, hb3⟩)
          go_ret
          exact ⟨⟨_, rfl⟩, r1, HF.out.2.1, Rat.dn_done HF.out.1 (fun c h1 h2 h3 => by have h4 := HM.out c h1 h2 h3; have h5 := HLT.out; omega), hq3, HF.out.2.2.2.trans hb3⟩
end Go.Proofs.Ytncbaeephnahjaa
