/- heap.up, heap.down over rate's queue. -/
import Derived.Test.YtncbaeephnahjaaRaC
namespace Go.Proofs.Ytncbaeephnahjaa
open Go.RowKit Go.Maps Go.WideMaps Go.Shelf
open Rat (at_ swp)

def qI (b : Nat) : Value := .iface 60 (.pointer (some ⟨b, 0, none⟩))

set_option maxHeartbeats 1600000 in
set_option maxRecDepth 20000 in
theorem up_any {w : World} {b : Nat} {v : Value} {q : List Nat} (h : Qv w b v q) (hn : q.length ≤ 1000) (j : Nat) (hu : Rat.Up q j) :
    Calls Try.prog 26 #[.iface 60 (.pointer (some ⟨b, 0, none⟩)), .int .i64 (j : Int)] w fun e w' => e = .returned (.tuple #[]) ∧ ∃ q', q'.Perm q ∧ Rat.H q' ∧ Qv w' b v q' ∧ Below b w w' := by
  have HH := Lib.hid h
  have HU := Lib.hid hu
  clear h hu
  go_enter Try.func26, Try.ntmps26
  go_wp2
  go_loopw [1] (fun jv wr => ∃ (j : Nat) (q' : List Nat), jv = .int .i64 (j : Int) ∧ j < 1000 ∧ Hid (Rat.Up q' j ∧ q'.Perm q ∧ Qv wr b v q' ∧ Below b w wr)) (fun jv _ => (intOf jv).toNat)
  case atStart => exact ⟨j, q, rfl, Nat.lt_of_lt_of_le HU.out.1 hn, Lib.hid ⟨HU.out, List.Perm.refl _, HH.out, Below.refl _ _⟩⟩
  case round =>
    obtain ⟨k, q1, rfl, hk, HG⟩ := hrel
    obtain ⟨hup, hpm, hq1, hbl⟩ := HG.out
    have hl1 : q1.length ≤ 1000 := by rw [hpm.length_eq]; exact hn
    have hml := m_less wr b v hq1.1
    have hms := m_swap wr b v hq1.1
    by_cases k0 : k = 0
    · subst k0
      clear hml hms
      go_wp2
      go_end0
      exact ⟨rfl, q1, hpm, Rat.up_done hup (.inl rfl), hq1, hbl⟩
    · obtain ⟨i, hi⟩ : ∃ i, i = (k - 1) / 2 := ⟨_, rfl⟩
      have e1 : ((k : Int) - 1) / 2 = (i : Int) := by omega
      have hik : i < k := by omega
      have e3 : ((i : Int) == (k : Int)) = false := by simp; omega
      have e4 : ¬ i = k := by omega
      have hls := less_q hq1 hl1 k i hup.1 (by have := hup.1; omega)
      have HI := Lib.hid hi
      clear hi k0
      have HF := Lib.hid (And.intro hup (And.intro hpm (And.intro hq1 hbl)))
      clear hms hup hpm hq1 hbl HG
      by_cases hlt : at_ q1 k < at_ q1 i
      · rw [decide_eq_true hlt] at hls
        have HLT := Lib.hid hlt
        clear hlt
        go_wp2_with (first | (go_at_call 45; refine hls.mono ?_; clear hls hml; rintro e w2 ⟨rfl, hq2, hb2⟩; have hms := m_swap w2 b v hq2.1; have HQ2 := Lib.hid (And.intro hq2 hb2); clear hq2 hb2) | (go_at_call 46; refine (swap_q HQ2.out.1 hl1 i k (by have := HF.out.1.1; omega) HF.out.1.1).mono ?_; rintro e w3 ⟨rfl, hq3, hb3⟩; have HQ3 := Lib.hid (And.intro hq3 hb3); clear hq3 hb3 hms))
        refine ⟨⟨i, swp q1 i k, rfl, by omega, Lib.hid ⟨by have h1 := HLT.out; rw [HI.out] at h1 ⊢; exact Rat.up_step HF.out.1 (by omega) h1, (Rat.swp_perm (by have := HF.out.1.1; omega) HF.out.1.1).trans HF.out.2.1, HQ3.out.1, (HF.out.2.2.2.trans HQ2.out.2).trans HQ3.out.2⟩⟩, by simp [intOf]; omega⟩
      · rw [decide_eq_false hlt] at hls
        have HLT := Lib.hid hlt
        clear hlt
        go_wp2_with (go_at_call 45; refine hls.mono ?_; clear hls hml; rintro e w2 ⟨rfl, hq2, hb2⟩)
        go_end0
        exact ⟨rfl, q1, HF.out.2.1, Rat.up_done HF.out.1 (.inr (by have h1 := HLT.out; rw [HI.out] at h1; omega)), hq2, HF.out.2.2.2.trans hb2⟩
end Go.Proofs.Ytncbaeephnahjaa
