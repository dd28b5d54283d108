/- metronomeref22.SameFormula of two that are the same. -/
import Derived.Test.YtdhgopcfjomjaaaDoorCoC
namespace Go.Proofs.YtdhgopcfjomjaaaDoor
open Go.RowKit Go.Maps Go.WideMaps
open Cn (I64)

set_option maxRecDepth 100000 in
set_option maxHeartbeats 4000000 in
theorem sameF_any (w : World) (vs : Int) (L : List (List Int)) (a1 : Option Addr) (c1 : Nat) (a2 : Option Addr) (c2 : Nat) (h1 : RowsAt w a1 L) (h2 : RowsAt w a2 L) (hm : L.length ≤ 140737488351232) :
    Calls Tryd.prog 18 #[.agg #[.int .i64 vs, .slice a1 L.length c1], .agg #[.int .i64 vs, .slice a2 L.length c2]] w fun e w' => e = .returned (.bool true) ∧ w.grownBy w' none := by
  have hm63 : L.length ≤ 9223372036854775807 := by omega
  obtain ⟨N, hN⟩ : ∃ N, N = L.length := ⟨_, rfl⟩
  rw [← hN] at hm63 ⊢
  have HN := Lib.hid hN
  obtain ⟨W, hW⟩ : ∃ W, W = (w.alloc (.cells #[.int .i64 vs, .slice a1 N c1] 24)).alloc (.cells #[.int .i64 vs, .slice a2 N c2] 24) := ⟨_, rfl⟩
  have hgW : w.grownBy W none := by rw [hW]; exact al2g _ _ _
  have ha := al2 w (.cells #[.int .i64 vs, .slice a1 N c1] 24) (.cells #[.int .i64 vs, .slice a2 N c2] 24)
  rw [← hW] at ha
  have x1 : W.cell? ⟨w.heap.size, 1, none⟩ = some (.slice a1 N c1) := cell_of_row _ _ 1 _ _ _ ha.1
  have y1 : W.cell? ⟨w.heap.size + 1, 1, none⟩ = some (.slice a2 N c2) := cell_of_row _ _ 1 _ _ _ ha.2
  have HL := Lib.hid (And.intro (h1.on hgW) (And.intro (h2.on hgW) hgW))
  clear hgW ha h1 h2 hm hN
  go_enter Tryd.func18, Tryd.ntmps18
  go_wp2
  rw [← hW]
  clear hW
  go_loopw [5] (fun iv wr => ∃ t : Nat, t ≤ N ∧ iv = .int .i64 (t : Int) ∧ Hid (W.grownBy wr none)) (fun iv _ => N - (intOf iv).toNat)
  case atStart => exact ⟨0, Nat.zero_le _, rfl, Lib.hid (World.grownBy.refl _ _)⟩
  case round =>
    obtain ⟨t, ht, rfl, HT⟩ := hrel
    have X1 := HT.out.cell x1 (by simp)
    have Y1 := HT.out.cell y1 (by simp)
    by_cases hlt : t < N
    · obtain ⟨l, hl⟩ : ∃ l, L[t]? = some l := ⟨_, List.getElem?_eq_getElem (by rw [← HN.out]; exact hlt)⟩
      obtain ⟨b1, o1, ra1, rc1, rfl, hc1, hn1, _, hlm, _⟩ := (HL.out.1.on HT.out) t l hl
      obtain ⟨b2, o2, ra2, rc2, rfl, hc2, hn2, _, _, _⟩ := (HL.out.2.1.on HT.out) t l hl
      have hm64 : l.length ≤ 9223372036854775807 := by omega
      obtain ⟨M, hM⟩ : ∃ M, M = l.length := ⟨_, rfl⟩
      rw [← hM] at hc1 hc2 hm64
      have HM := Lib.hid hM
      obtain ⟨WA, hWA⟩ : ∃ WA, WA = wr := ⟨_, rfl⟩
      have HC : Hid ((WA.cell? ⟨b1, o1 + t, none⟩ = some (.slice ra1 M rc1) ∧ WA.cell? ⟨b2, o2 + t, none⟩ = some (.slice ra2 M rc2) ∧ WA.cell? ⟨w.heap.size, 1, none⟩ = some (.slice (some ⟨b1, o1, none⟩) N c1) ∧ WA.cell? ⟨w.heap.size + 1, 1, none⟩ = some (.slice (some ⟨b2, o2, none⟩) N c2)) ∧ NumsAt WA ra1 l ∧ NumsAt WA ra2 l ∧ W.grownBy WA none) := Lib.hid (by rw [hWA]; exact ⟨⟨hc1, hc2, X1, Y1⟩, hn1, hn2, HT.out⟩)
      clear hn1 hn2 hM hl hlm x1 y1
      go_upto_region 6 with fail
      go_quiet (fail)
      clear X1 Y1 hc1 hc2
      go_wp2
      go_loopw [6] (fun iv wr2 => ∃ u : Nat, u ≤ M ∧ iv = .int .i64 (u : Int) ∧ Hid (WA.grownBy wr2 none)) (fun iv _ => M - (intOf iv).toNat)
      case atStart => exact ⟨0, Nat.zero_le _, rfl, Lib.hid (by rw [hWA]; exact gdrewN _ _ _)⟩
      case round =>
        obtain ⟨u, hu, rfl, HU⟩ := hrel
        have k1 := HU.out.cell HC.out.1.1 (by simp)
        have k2 := HU.out.cell HC.out.1.2.1 (by simp)
        have k3 := HU.out.cell HC.out.1.2.2.1 (by simp)
        have k4 := HU.out.cell HC.out.1.2.2.2 (by simp)
        by_cases hul : u < M
        · obtain ⟨x, hx⟩ : ∃ x, l[u]? = some x := ⟨_, List.getElem?_eq_getElem (by rw [← HM.out]; exact hul)⟩
          obtain ⟨b3, o3, rfl, hd1⟩ := (HC.out.2.1.on HU.out) u x hx
          obtain ⟨b4, o4, rfl, hd2⟩ := (HC.out.2.2.1.on HU.out) u x hx
          clear hx hWA
          go_upto_region 11 with fail
          go_quiet (fail)
          go_wp2
          exact ⟨⟨u + 1, by omega, by go_num, Lib.hid (HU.out.trans (gdrewN _ _ _))⟩, by simp [intOf]; omega⟩
        · obtain rfl : u = M := by omega
          clear hWA
          go_wp2
          exact ⟨⟨t + 1, by omega, by go_num, Lib.hid (HC.out.2.2.2.trans HU.out)⟩, by simp [intOf]; omega⟩
    · obtain rfl : t = N := by omega
      go_wp2
      go_ret
      exact ⟨rfl, HL.out.2.2.trans HT.out⟩
end Go.Proofs.YtdhgopcfjomjaaaDoor
