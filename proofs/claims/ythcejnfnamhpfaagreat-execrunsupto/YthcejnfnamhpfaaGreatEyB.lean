/- Stage 21: metronomeref11.SameRows of two that are the same. -/
import Derived.Test.YthcejnfnamhpfaaGreatEyA
namespace Go.Proofs.YthcejnfnamhpfaaGreat
open Go.RowKit Go.Maps Go.WideMaps

theorem gdrewM (a : World) (n : Nat) (r : Option Nat) : a.grownBy (a.drewN n) r := ⟨rfl, rfl, rfl, Nat.le_refl _, fun _ _ _ => rfl⟩
set_option maxRecDepth 100000 in
set_option maxHeartbeats 4000000 in
theorem srows_any (w : World) (L : List (List Int)) (a1 : Option Addr) (c1 : Nat) (a2 : Option Addr) (c2 : Nat) (h1 : RowsQ w a1 L) (h2 : RowsQ w a2 L) (hm : L.length ≤ maxLen) :
    Calls Tryz.prog 23 #[.slice a1 L.length c1, .slice a2 L.length c2] w fun e w' => e = .returned (.bool true) ∧ w.grownBy w' none := by
  have hm63 : L.length ≤ 9223372036854775807 := by simpa [maxLen] using hm
  obtain ⟨N, hN⟩ : ∃ N, N = L.length := ⟨_, rfl⟩
  rw [← hN] at hm63 ⊢
  have HN := Lib.hid hN
  have HL := Lib.hid (And.intro h1 h2)
  clear h1 h2 hm hN
  go_enter Tryz.func23, Tryz.ntmps23
  go_wp2
  go_loopw [5] (fun iv wr => ∃ t : Nat, t ≤ N ∧ iv = .int .i64 (t : Int) ∧ Hid (w.grownBy wr none)) (fun iv _ => N - (intOf iv).toNat)
  case atStart => exact ⟨0, Nat.zero_le _, rfl, Lib.hid (World.grownBy.refl _ _)⟩
  case round =>
    obtain ⟨t, ht, rfl, HT⟩ := hrel
    by_cases hlt : t < N
    · obtain ⟨l, hl⟩ : ∃ l, L[t]? = some l := ⟨_, List.getElem?_eq_getElem (by rw [← HN.out]; exact hlt)⟩
      obtain ⟨b1, o1, ra1, rc1, rfl, hc1, hn1, _, hlm⟩ := (HL.out.1.on HT.out) t l hl
      obtain ⟨b2, o2, ra2, rc2, rfl, hc2, hn2, _, _⟩ := (HL.out.2.on HT.out) t l hl
      have hm64 : l.length ≤ 9223372036854775807 := by simpa [maxLen] using hlm
      obtain ⟨M, hM⟩ : ∃ M, M = l.length := ⟨_, rfl⟩
      rw [← hM] at hc1 hc2 hm64
      have HM := Lib.hid hM
      obtain ⟨WA, hWA⟩ : ∃ WA, WA = wr := ⟨_, rfl⟩
      have HC : Hid ((WA.cell? ⟨b1, o1 + t, none⟩ = some (.slice ra1 M rc1) ∧ WA.cell? ⟨b2, o2 + t, none⟩ = some (.slice ra2 M rc2)) ∧ NumsAt WA ra1 l ∧ NumsAt WA ra2 l ∧ w.grownBy WA none) := Lib.hid (by rw [hWA]; exact ⟨⟨hc1, hc2⟩, hn1, hn2, HT.out⟩)
      clear hn1 hn2 hM hl hlm
      go_upto_region 6 with fail
      go_quiet (fail)
      clear hc1 hc2
      go_wp2
      go_loopw [6] (fun iv wr2 => ∃ u : Nat, u ≤ M ∧ iv = .int .i64 (u : Int) ∧ Hid (WA.grownBy wr2 none)) (fun iv _ => M - (intOf iv).toNat)
      case atStart => exact ⟨0, Nat.zero_le _, rfl, Lib.hid (by rw [hWA]; exact gdrewM _ _ _)⟩
      case round =>
        obtain ⟨u, hu, rfl, HU⟩ := hrel
        have k1 := HU.out.cell HC.out.1.1 (by simp)
        have k2 := HU.out.cell HC.out.1.2 (by simp)
        by_cases hul : u < M
        · obtain ⟨x, hx⟩ : ∃ x, l[u]? = some x := ⟨_, List.getElem?_eq_getElem (by rw [← HM.out]; exact hul)⟩
          obtain ⟨b3, o3, rfl, hd1⟩ := (HC.out.2.1.on HU.out) u x hx
          obtain ⟨b4, o4, rfl, hd2⟩ := (HC.out.2.2.1.on HU.out) u x hx
          clear hx hWA
          go_upto_region 11 with fail
          go_quiet (fail)
          go_wp2
          exact ⟨⟨u + 1, by omega, by go_num, Lib.hid (HU.out.trans (gdrewM _ _ _))⟩, by simp [intOf]; omega⟩
        · obtain rfl : u = M := by omega
          clear hWA
          go_wp2
          exact ⟨⟨t + 1, by omega, by go_num, Lib.hid (HC.out.2.2.2.trans HU.out)⟩, by simp [intOf]; omega⟩
    · obtain rfl : t = N := by omega
      go_wp2
      go_ret
      exact ⟨rfl, HT.out⟩
end Go.Proofs.YthcejnfnamhpfaaGreat
