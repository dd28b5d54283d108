/- Stage 21: metronomelaw11.Stay: what was lent is as it was. -/
import Derived.Test.YthcejnfnamhpfaaGreatEyC
namespace Go.Proofs.YthcejnfnamhpfaaGreat
open Go.RowKit Go.Maps Go.WideMaps

set_option maxRecDepth 100000 in
set_option maxHeartbeats 4000000 in
theorem stay_any (w : World) (L : List (List Int)) (a : Option Addr) (cap G C : Nat) (h : RowsAt w a L) (hF : FulAt w G C L) (hm : L.length ≤ 2000) (hl2 : ∀ l ∈ L, l.length ≤ 2000) :
    Calls Tryz.prog 22 #[.slice (some ⟨G, 0, none⟩) L.length C, .slice a L.length cap] w fun e w' => e = .returned (.bool true) ∧ w.grownBy w' none := by
  have hRF : RowsAt w (some ⟨G, 0, none⟩) L := hF.rows (fun l hl => by
    obtain ⟨i, hi, rfl⟩ := List.getElem_of_mem hl
    obtain ⟨_, _, _, _, _, _, _, _, h1, h2⟩ := h i L[i] (List.getElem?_eq_getElem hi)
    exact ⟨h1, h2⟩)
  have hsr := srows_any w L (some ⟨G, 0, none⟩) C a cap hRF.q h.q (by unfold maxLen; omega)
  obtain ⟨N, hN⟩ : ∃ N, N = L.length := ⟨_, rfl⟩
  rw [← hN] at hm hsr ⊢
  obtain ⟨hC, hrow, g0, c0, hg0, hc0, hn0⟩ := hF
  rw [← hN] at hC hg0
  obtain ⟨b9, o9, e9, hz0⟩ := hn0 0 (-71) rfl
  cases e9
  have HF := Lib.hid (And.intro hrow (And.intro hl2 hN))
  have HS := Lib.hid hsr
  have k1 := fun V => cut2 G N (N + 1) C hC V
  have k0 : ((N + 1 : Nat) : Int) = (N : Int) + 1 := rfl
  rw [k0] at k1
  clear hrow hl2 hN hsr h hRF k0
  go_enter Tryz.func22, Tryz.ntmps22
  go_upto_region 2 with fail
  go_upto_region 4 with (go_at_call 23; refine HS.out.mono ?_; rintro e w1 ⟨rfl, hg1⟩; have x1 := hg1.cell hg0 (by simp); have x2 := hg1.cell hz0 (by simp); have H1 := Lib.hid hg1; clear hg1)
  have HC := Lib.hid k1
  clear x1 x2 k1 hg0 hz0
  have H4 : Hid (w.grownBy w1 none) := H1
  go_wp2
  go_loopw [6] (fun iv wr => ∃ t : Nat, t ≤ N ∧ iv = .int .i64 (t : Int) ∧ Hid (w1.grownBy wr none)) (fun iv _ => N - (intOf iv).toNat)
  case atStart => exact ⟨0, Nat.zero_le _, rfl, Lib.hid (World.grownBy.refl _ _)⟩
  case round =>
    obtain ⟨t, ht, rfl, HT⟩ := hrel
    by_cases hlt : t < N
    · obtain ⟨l, hl⟩ : ∃ l, L[t]? = some l := ⟨_, List.getElem?_eq_getElem (by rw [← HF.out.2.2]; exact hlt)⟩
      obtain ⟨g, c2, q1, q2, q3⟩ := HF.out.1 t l hl
      have hM2 := HF.out.2.1 l (List.mem_of_getElem? hl)
      obtain ⟨b3, o3, e3, q4⟩ := q3 l.length (-71) (by simp)
      cases e3
      obtain ⟨M, hM⟩ : ∃ M, M = l.length := ⟨_, rfl⟩
      rw [← hM] at q1 q2 q4 hM2
      rw [Nat.zero_add] at q4
      have hgr := H1.out.trans HT.out
      have k1 := hgr.cell q1 (by simp)
      have k2 := hgr.cell q4 (by simp)
      have k3 := fun V => cut1 g M (M + 1) c2 q2 V
      have k0 : ((M + 1 : Nat) : Int) = (M : Int) + 1 := rfl
      rw [k0] at k3
      have HGR := Lib.hid (And.intro hgr q2)
      clear hl q1 q2 q3 q4 hM hgr k0
      go_upto_region 7 with fail
      go_quiet (fail)
      go_wp2
      exact ⟨⟨t + 1, by omega, by go_num, Lib.hid (HT.out.trans (gdrewM _ _ _))⟩, by simp [intOf]; omega⟩
    · obtain rfl : t = N := by omega
      go_wp2
      go_ret
      exact ⟨rfl, H1.out.trans HT.out⟩
end Go.Proofs.YthcejnfnamhpfaaGreat
