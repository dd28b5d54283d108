/- metronomeref2's sameVars, places aside. -/
import Derived.Test.YtjcdkgjfecnkgaaGreatDoorGvA
import Derived.BigQuiet
namespace Go.Proofs.YtjcdkgjfecnkgaaGreatDoor
open Go.RowKit Go.Maps Go.WideMaps

theorem varD_len (x : Gram.Var) : (varD x).length = 5 := rfl
theorem edgeD_len (x : Gram.Edge) : (edgeD x).length = 2 := rfl
theorem map_at {α β : Type} (F : α → β) (l : List α) (t : Nat) {k : α} (h : l[t]? = some k) : (l.map F)[t]? = some (F k) := by rw [List.getElem?_map, h]; rfl

set_option maxHeartbeats 3200000 in
set_option maxRecDepth 20000 in
theorem sameVars_any (c : Nat) (ls : List Gram.Var) (w : World) (B : Nat) (a1 a2 : Option Addr) (c1 c2 L : Nat) (hLm : L ≤ maxLen) (kx : RepC w B [] (.l 64 5 (ls.map varD)) (.slice a1 L c1)) (ky : RepC w B [] (.l 64 5 ((ls.map (Gram.Var.far c)).map varD)) (.slice a2 L c2)) (HL : Hid (L = ls.length)) :
    Calls Tryz.prog 23 #[.slice a1 L c1, .slice a2 L c2, .bool false] w fun e w' => e = .returned (.bool true) ∧ w.grownBy w' none := by
  unfold maxLen at hLm
  go_enter Tryz.func23, Tryz.ntmps23
  go_wp2
  go_loopw [7] (fun iv wr => ∃ t : Nat, t ≤ L ∧ iv = .int .i64 (t : Int) ∧ Hid (w.grownBy wr none)) (fun i _ => L - (intOf i).toNat)
  case atStart => exact ⟨0, Nat.zero_le _, rfl, Lib.hid (World.grownBy.refl _ _)⟩
  case round =>
    obtain ⟨t, ht, rfl, HG⟩ := hrel
    by_cases hlt : t < L
    · obtain ⟨k, hk⟩ : ∃ k, ls[t]? = some k := ⟨_, List.getElem?_eq_getElem (by rw [← HL.out]; exact hlt)⟩
      have hx' := RepC.kept HG.out (fun k e => by cases e) kx
      have hy' := RepC.kept HG.out (fun k e => by cases e) ky
      obtain ⟨g1, cx, ex⟩ := RepC.lies hx' (by rw [List.length_map, ← HL.out]; omega)
      obtain ⟨g2, cy, ey⟩ := RepC.lies hy' (by rw [List.length_map, List.length_map, ← HL.out]; omega)
      rw [List.length_map, ← HL.out] at ex
      rw [List.length_map, List.length_map, ← HL.out] at ey
      cases ex
      cases ey
      obtain ⟨vs1, hv1, q1⟩ := RepC.rowAt hx' (rows_map varD_len _) t (map_at varD ls t hk)
      obtain ⟨vs2, hv2, q2⟩ := RepC.rowAt hy' (rows_map varD_len _) t (map_at varD _ t (map_at (Gram.Var.far c) ls t hk))
      obtain ⟨nm, tk, tl, cl, at_⟩ := k
      obtain ⟨r1, rfl, h_1⟩ := RepRow.cInv hv1
      obtain ⟨r2, rfl, h_2⟩ := h_1.cInv
      obtain ⟨r3, rfl, h_3⟩ := h_2.cInv
      obtain ⟨b1, m1, d1, r4, rfl, hc1, h_4⟩ := h_3.lInv
      obtain ⟨y1, rfl, k_1⟩ := RepRow.cInv hv2
      obtain ⟨y2, rfl, k_2⟩ := k_1.cInv
      obtain ⟨y3, rfl, k_3⟩ := k_2.cInv
      obtain ⟨b2, m2, d2, y4, rfl, hc2, k_4⟩ := k_3.lInv
      have u0 := q1 0 _ rfl
      have u1 := q1 1 _ rfl
      have u2 := q1 2 _ rfl
      have u3 := q1 3 _ rfl
      have v0 := q2 0 _ rfl
      have v1 := q2 1 _ rfl
      have v2 := q2 2 _ rfl
      have v3 := q2 3 _ rfl
      rw [Nat.add_zero] at u0 v0
      clear q1 q2 hv1 hv2 h_1 h_2 h_3 h_4 k_1 k_2 k_3 k_4 hx' hy' hk
      simp only [Gram.Var.far] at v0 v1 v2 v3 hc2
      obtain ⟨_, _, e1⟩ := RepC.len hc1
      obtain ⟨_, _, e2⟩ := RepC.len hc2
      rw [List.length_map] at e1 e2
      cases e1
      cases e2
      have hMm := RepC.small hc1
      rw [List.length_map] at hMm
      unfold maxLen at hMm
      obtain ⟨M, hM⟩ : ∃ M, M = cl.length := ⟨_, rfl⟩
      rw [← hM] at u3 v3 hMm
      have HM := Lib.hid hM
      clear hM
      go_wp2
      go_quiet (fail)
      go_wp2
      go_loopw [8] (fun kv wr2 => ∃ u : Nat, u ≤ M ∧ kv = .int .i64 (u : Int) ∧ Hid (wr.grownBy wr2 none)) (fun i _ => M - (intOf i).toNat)
      case atStart => exact ⟨0, Nat.zero_le _, rfl, Lib.hid (gdrewN (World.grownBy.refl _ _) _)⟩
      case round =>
        obtain ⟨u, hu, rfl, HU⟩ := hrel
        have u3' := HU.out.cell u3 (by simp)
        have v3' := HU.out.cell v3 (by simp)
        by_cases hlu : u < M
        · obtain ⟨k, hk⟩ : ∃ k, cl[u]? = some k := ⟨_, List.getElem?_eq_getElem (by rw [← HM.out]; exact hlu)⟩
          have hx' := RepC.kept HU.out (fun k e => by cases e) hc1
          have hy' := RepC.kept HU.out (fun k e => by cases e) hc2
          obtain ⟨e1, cx, ex⟩ := RepC.lies hx' (by rw [List.length_map, ← HM.out]; omega)
          obtain ⟨e2, cy, ey⟩ := RepC.lies hy' (by rw [List.length_map, ← HM.out]; omega)
          rw [List.length_map] at ex ey
          cases ex
          cases ey
          obtain ⟨vs1, hv1, q1⟩ := RepC.rowAt hx' (rows_map edgeD_len _) u (map_at edgeD cl u hk)
          obtain ⟨vs2, hv2, q2⟩ := RepC.rowAt hy' (rows_map edgeD_len _) u (map_at edgeD cl u hk)
          obtain rfl := edgeInv hv1
          obtain rfl := edgeInv hv2
          obtain ⟨en, eo⟩ := k
          have s0 := q1 0 _ rfl
          have s1 := q1 1 _ rfl
          have t0 := q2 0 _ rfl
          have t1 := q2 1 _ rfl
          rw [Nat.add_zero] at s0 t0
          clear q1 q2 hv1 hv2 hx' hy' hk u0 u1 u2 u3 v0 v1 v2 v3
          have HG2 := Lib.hid HU.out
          go_wp2
          go_quiet (fail)
          go_wp2
          exact ⟨⟨u + 1, by omega, by go_num, Lib.hid (gdrewN HG2.out _)⟩, by simp [intOf]; omega⟩
        · have e : u = M := by omega
          subst e
          have HG2 := Lib.hid (HG.out.trans HU.out)
          go_wp2
          exact ⟨⟨t + 1, by omega, by go_num, HG2⟩, by simp [intOf]; omega⟩
    · have e : t = L := by omega
      subst e
      go_wp2
      go_ret
      exact ⟨rfl, HG.out⟩

end Go.Proofs.YtjcdkgjfecnkgaaGreatDoor
