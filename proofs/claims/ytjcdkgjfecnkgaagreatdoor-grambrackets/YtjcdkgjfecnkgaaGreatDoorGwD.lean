/- metronomeref2's Same at nodes that have other places in their expressions (written by mkbr.py). -/
import Derived.Test.YtjcdkgjfecnkgaaGreatDoorGwC
namespace Go.Proofs.YtjcdkgjfecnkgaaGreatDoor
open Go.RowKit Go.Maps Go.WideMaps

/-- a node with its expressions' places further on -/
def brN (c : Nat) (n : Gram.Node) : Gram.Node := { n with items := n.items.map (brI c) }
theorem far_vars (l : List Gram.Var) : l.map (Gram.Var.far 0) = l := by
  induction l with
  | nil => rfl
  | cons v r ih => rw [List.map_cons, ih]; simp [Gram.Var.far]

set_option maxHeartbeats 3200000 in
set_option maxRecDepth 20000 in
theorem same_br (c : Nat) (ls : List Gram.Node) (w : World) (B : Nat) (a1 a2 : Option Addr) (c1 c2 L : Nat) (hLm : L ≤ maxLen) (kx : RepC w B [] (.l 49 6 (ls.map nodeD)) (.slice a1 L c1)) (ky : RepC w B [] (.l 49 6 ((ls.map (brN c)).map nodeD)) (.slice a2 L c2)) (HL : Hid (L = ls.length)) :
    Calls Tryz.prog 14 #[.agg #[.slice a1 L c1], .agg #[.slice a2 L c2], .bool false] w fun e w' => e = .returned (.bool true) ∧ w.grownBy w' none := by
  unfold maxLen at hLm
  go_enter Tryz.func14, Tryz.ntmps14
  go_wp2
  obtain ⟨W0, hW0⟩ : ∃ W0, W0 = (w.alloc (.cells #[.slice a1 L c1] 25)).alloc (.cells #[.slice a2 L c2] 25) := ⟨_, rfl⟩
  have hg0 : w.grownBy W0 none := by rw [hW0]; exact galloc (World.grownBy_alloc w _ none) _
  have z1 : W0.cell? ⟨w.heap.size, 0, none⟩ = some (.slice a1 L c1) := by rw [hW0]; simp
  have z2 : W0.cell? ⟨w.heap.size + 1, 0, none⟩ = some (.slice a2 L c2) := by rw [hW0]; simp
  rw [← hW0]
  clear hW0
  go_loopw [7] (fun iv wr => ∃ t : Nat, t ≤ L ∧ iv = .int .i64 (t : Int) ∧ Hid (W0.grownBy wr none)) (fun i _ => L - (intOf i).toNat)
  case atStart => exact ⟨0, Nat.zero_le _, rfl, Lib.hid (World.grownBy.refl _ _)⟩
  case round =>
    obtain ⟨u, hu, rfl, HU⟩ := hrel
    have sx2 := HU.out.cell z1 (by simp)
    have sy2 := HU.out.cell z2 (by simp)
    by_cases hlu : u < L
    · obtain ⟨k, hk⟩ : ∃ k, ls[u]? = some k := ⟨_, List.getElem?_eq_getElem (by rw [← HL.out]; exact hlu)⟩
      have hx' := RepC.kept (hg0.trans HU.out) (fun k e => by cases e) kx
      have hy' := RepC.kept (hg0.trans HU.out) (fun k e => by cases e) ky
      obtain ⟨e1, cx, ex⟩ := RepC.lies hx' (by rw [List.length_map, ← HL.out]; omega)
      obtain ⟨e2, cy, ey⟩ := RepC.lies hy' (by rw [List.length_map, List.length_map, ← HL.out]; omega)
      rw [List.length_map, ← HL.out] at ex
      rw [List.length_map, List.length_map, ← HL.out] at ey
      cases ex
      cases ey
      obtain ⟨vs1, hv1, q1⟩ := RepC.rowAt hx' (rows_map nodeD_len _) u (map_at nodeD ls u hk)
      obtain ⟨vs2, hv2, q2⟩ := RepC.rowAt hy' (rows_map nodeD_len _) u (map_at nodeD _ u (map_at (brN c) ls u hk))
      obtain ⟨nm, is, os, ls2, it, a4⟩ := k
      simp only [brN, nodeD, itemsD_map] at hv1 hv2
      obtain ⟨x1, rfl, h_1⟩ := RepRow.cInv hv1
      obtain ⟨p1, l1, q1', x2, rfl, L1, h_2⟩ := h_1.lInv
      obtain ⟨p2, l2, q2', x3, rfl, L2, h_3⟩ := h_2.lInv
      obtain ⟨p3, l3, q3, x4, rfl, L3, h_4⟩ := h_3.lInv
      obtain ⟨p4, l4, q4, x5, rfl, L4, h_5⟩ := h_4.lInv
      obtain ⟨x6, rfl, h_6⟩ := h_5.cInv
      obtain rfl := h_6.nInv
      obtain ⟨y1, rfl, k_1⟩ := RepRow.cInv hv2
      obtain ⟨o1, i1, r1, y2, rfl, M1, k_2⟩ := k_1.lInv
      obtain ⟨o2, i2, r2, y3, rfl, M2, k_3⟩ := k_2.lInv
      obtain ⟨o3, i3, r3, y4, rfl, M3, k_4⟩ := k_3.lInv
      obtain ⟨o4, i4, r4, y5, rfl, M4, k_5⟩ := k_4.lInv
      obtain ⟨y6, rfl, k_6⟩ := k_5.cInv
      obtain rfl := k_6.nInv
      rw [← far_vars is] at M1
      rw [← far_vars os] at M2
      rw [← far_vars ls2] at M3
      obtain ⟨_, _, f1⟩ := RepC.len L1
      obtain ⟨_, _, f2⟩ := RepC.len L2
      obtain ⟨_, _, f3⟩ := RepC.len L3
      obtain ⟨_, _, f4⟩ := RepC.len L4
      obtain ⟨_, _, f5⟩ := RepC.len M1
      obtain ⟨_, _, f6⟩ := RepC.len M2
      obtain ⟨_, _, f7⟩ := RepC.len M3
      obtain ⟨_, _, f8⟩ := RepC.len M4
      rw [List.length_map] at f1 f2 f3 f4
      rw [List.length_map, List.length_map] at f5 f6 f7 f8
      cases f1
      cases f2
      cases f3
      cases f4
      cases f5
      cases f6
      cases f7
      cases f8
      have g1' := RepC.small L1
      have g2' := RepC.small L2
      have g3' := RepC.small L3
      have g4' := RepC.small L4
      rw [List.length_map] at g1' g2' g3' g4'
      have H1 := Lib.hid (fun (W : World) (hW : wr.grownBy W none) => sameVars_any 0 is W B p1 o1 q1' r1 is.length g1' (RepC.kept hW (fun k e => by cases e) L1) (RepC.kept hW (fun k e => by cases e) M1) (Lib.hid rfl))
      have H2 := Lib.hid (fun (W : World) (hW : wr.grownBy W none) => sameVars_any 0 os W B p2 o2 q2' r2 os.length g2' (RepC.kept hW (fun k e => by cases e) L2) (RepC.kept hW (fun k e => by cases e) M2) (Lib.hid rfl))
      have H3 := Lib.hid (fun (W : World) (hW : wr.grownBy W none) => sameVars_any 0 ls2 W B p3 o3 q3 r3 ls2.length g3' (RepC.kept hW (fun k e => by cases e) L3) (RepC.kept hW (fun k e => by cases e) M3) (Lib.hid rfl))
      have H4 := Lib.hid (fun (W : World) (hW : wr.grownBy W none) => sameItems_g c (brI c) (brI_far c) it W B p4 o4 q4 r4 it.length g4' (RepC.kept hW (fun k e => by cases e) L4) (RepC.kept hW (fun k e => by cases e) M4) (Lib.hid rfl))
      have u0 := q1 0 _ rfl
      have v0 := q2 0 _ rfl
      have u1 := q1 1 _ rfl
      have v1 := q2 1 _ rfl
      have u2 := q1 2 _ rfl
      have v2 := q2 2 _ rfl
      have u3 := q1 3 _ rfl
      have v3 := q2 3 _ rfl
      have u4 := q1 4 _ rfl
      have v4 := q2 4 _ rfl
      have u5 := q1 5 _ rfl
      have v5 := q2 5 _ rfl
      rw [Nat.add_zero] at u0 v0
      have hA : wr.grownBy (wr.alloc (.cells #[.string ⟨nm.toArray⟩, .slice p1 is.length q1', .slice p2 os.length q2', .slice p3 ls2.length q3, .slice p4 it.length q4, .int .i64 a4] 49)) none := World.grownBy_alloc _ _ none
      have sy3 := hA.cell sy2 (by simp)
      have w0 := hA.cell v0 (by simp)
      have w1 := hA.cell v1 (by simp)
      have w2 := hA.cell v2 (by simp)
      have w3 := hA.cell v3 (by simp)
      have w4 := hA.cell v4 (by simp)
      have w5 := hA.cell v5 (by simp)
      have HG5 := Lib.hid HU.out
      clear q1 q2 hv1 hv2 hx' hy' hk h_1 h_2 h_3 h_4 h_5 h_6 k_1 k_2 k_3 k_4 k_5 k_6 L1 L2 L3 L4 M1 M2 M3 M4 g1' g2' g3' g4' v0 v1 v2 v3 v4 v5 HU
      go_wp2_with (first | (go_at_call 23; refine (H1.out _ (galloc hA _)).mono ?_; rintro e w6 ⟨rfl, hg6⟩; refine Hid.out ?_))
      have hB6 : wr.grownBy w6 none := (galloc hA _).trans hg6
      have s0_6 : w6.cell? ⟨wr.heap.size, 0, none⟩ = some (.string ⟨nm.toArray⟩) := hg6.cell (by simp) (by simp)
      have t0_6 : w6.cell? ⟨wr.heap.size + 1, 0, none⟩ = some (.string ⟨nm.toArray⟩) := hg6.cell (by simp) (by simp)
      have s2_6 : w6.cell? ⟨wr.heap.size, 2, none⟩ = some (.slice p2 os.length q2') := hg6.cell (by simp) (by simp)
      have t2_6 : w6.cell? ⟨wr.heap.size + 1, 2, none⟩ = some (.slice o2 os.length r2) := hg6.cell (by simp) (by simp)
      have s3_6 : w6.cell? ⟨wr.heap.size, 3, none⟩ = some (.slice p3 ls2.length q3) := hg6.cell (by simp) (by simp)
      have t3_6 : w6.cell? ⟨wr.heap.size + 1, 3, none⟩ = some (.slice o3 ls2.length r3) := hg6.cell (by simp) (by simp)
      have s4_6 : w6.cell? ⟨wr.heap.size, 4, none⟩ = some (.slice p4 it.length q4) := hg6.cell (by simp) (by simp)
      have t4_6 : w6.cell? ⟨wr.heap.size + 1, 4, none⟩ = some (.slice o4 it.length r4) := hg6.cell (by simp) (by simp)
      clear hA hg6 sy3 w0 w1 w2 w3 w4 w5 u0 u1 u2 u3 u4 u5 H1
      refine Lib.hid ?_
      go_wp2_with (first | (go_at_call 23; refine (H2.out _ hB6).mono ?_; rintro e w7 ⟨rfl, hg7⟩; refine Hid.out ?_))
      have hB7 : wr.grownBy w7 none := hB6.trans hg7
      have s0_7 := hg7.cell s0_6 (by simp)
      have t0_7 := hg7.cell t0_6 (by simp)
      have s3_7 := hg7.cell s3_6 (by simp)
      have t3_7 := hg7.cell t3_6 (by simp)
      have s4_7 := hg7.cell s4_6 (by simp)
      have t4_7 := hg7.cell t4_6 (by simp)
      clear hg7 H2 s0_6 t0_6 s2_6 t2_6 s3_6 t3_6 s4_6 t4_6
      refine Lib.hid ?_
      go_wp2_with (first | (go_at_call 23; refine (H3.out _ hB7).mono ?_; rintro e w8 ⟨rfl, hg8⟩; refine Hid.out ?_))
      have hB8 : wr.grownBy w8 none := hB7.trans hg8
      have s0_8 := hg8.cell s0_7 (by simp)
      have t0_8 := hg8.cell t0_7 (by simp)
      have s4_8 := hg8.cell s4_7 (by simp)
      have t4_8 := hg8.cell t4_7 (by simp)
      clear hg8 H3 s0_7 t0_7 s3_7 t3_7 s4_7 t4_7
      refine Lib.hid ?_
      go_wp2_with (first | (go_at_call 24; refine (H4.out _ hB8).mono ?_; rintro e w9 ⟨rfl, hg9⟩; refine Hid.out ?_))
      have hB9 : wr.grownBy w9 none := hB8.trans hg9
      have s0_9 := hg9.cell s0_8 (by simp)
      have t0_9 := hg9.cell t0_8 (by simp)
      clear hg9 H4 s0_8 t0_8 s4_8 t4_8
      refine Lib.hid ?_
      have HG6 := Lib.hid (HG5.out.trans hB9)
      clear HG5 hB6 hB7 hB8 hB9
      go_wp2
      exact ⟨⟨u + 1, by omega, by go_num, HG6⟩, by simp [intOf]; omega⟩
    · have e : u = L := by omega
      subst e
      have HG5 := Lib.hid (hg0.trans HU.out)
      go_wp2
      go_ret
      exact ⟨rfl, HG5.out⟩

end Go.Proofs.YtjcdkgjfecnkgaaGreatDoor
