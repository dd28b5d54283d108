/- metronomeref2's sameItems at items that have other places in their expressions (written by mkbr.py). -/
import Derived.Test.YtjcdkgjfecnkgaaGreatDoorGvE
namespace Go.Proofs.YtjcdkgjfecnkgaaGreatDoor
open Go.RowKit Go.Maps Go.WideMaps

/-- an item with its expression's places further on -/
def brI (c : Nat) : Gram.Item → Gram.Item
  | .mk ns e ss a => .mk ns (e.far c) (Gram.sfarL c ss) a
theorem brI_far (c : Nat) : ∀ ns e ss a, ∃ c' a', itemD (brI c (.mk ns e ss a)) = .l 9 1 (ns.map nameD) :: (expD (Gram.Exp.far c' e) ++ [.l 99 6 ((ss.map (Gram.State.far c)).map stateD), .c (.int .i64 a')]) :=
  fun ns e ss a => ⟨c, a, by simp only [brI, itemD, Gram.sfarL_map, statesD_map]⟩

set_option maxHeartbeats 3200000 in
set_option maxRecDepth 20000 in
theorem sameItems_g (c : Nat) (G : Gram.Item → Gram.Item) (hG : ∀ ns e ss a, ∃ c' a', itemD (G (.mk ns e ss a)) = .l 9 1 (ns.map nameD) :: (expD (Gram.Exp.far c' e) ++ [.l 99 6 ((ss.map (Gram.State.far c)).map stateD), .c (.int .i64 a')])) (its : List Gram.Item) (w : World) (B : Nat) (a1 a2 : Option Addr) (c1 c2 L : Nat) (hLm : L ≤ maxLen) (kx : RepC w B [] (.l 45 12 (its.map itemD)) (.slice a1 L c1)) (ky : RepC w B [] (.l 45 12 ((its.map G).map itemD)) (.slice a2 L c2)) (HL : Hid (L = its.length)) :
    Calls Tryz.prog 24 #[.slice a1 L c1, .slice a2 L c2, .bool false] w fun e w' => e = .returned (.bool true) ∧ w.grownBy w' none := by
  obtain ⟨N, hN0⟩ : ∃ N, N = SizeOf.sizeOf its := ⟨_, rfl⟩
  have hN : SizeOf.sizeOf its < N + 1 := by omega
  have ih := citems c N
  clear hN0
  unfold maxLen at hLm
  go_enter Tryz.func24, Tryz.ntmps24
  go_wp2
  go_loopw [7] (fun iv wr => ∃ t : Nat, t ≤ L ∧ iv = .int .i64 (t : Int) ∧ Hid (w.grownBy wr none)) (fun i _ => L - (intOf i).toNat)
  case atStart => exact ⟨0, Nat.zero_le _, rfl, Lib.hid (World.grownBy.refl _ _)⟩
  case round =>
    obtain ⟨t, ht, rfl, HG⟩ := hrel
    by_cases hlt : t < L
    · obtain ⟨k, hk⟩ : ∃ k, its[t]? = some k := ⟨_, List.getElem?_eq_getElem (by rw [← HL.out]; exact hlt)⟩
      have hks : SizeOf.sizeOf k < N := by
        have h1 := List.sizeOf_lt_of_mem (List.mem_of_getElem? hk)
        omega
      have hx' := RepC.kept HG.out (fun k e => by cases e) kx
      have hy' := RepC.kept HG.out (fun k e => by cases e) ky
      obtain ⟨g1, cx, ex⟩ := RepC.lies hx' (by rw [List.length_map, ← HL.out]; omega)
      obtain ⟨g2, cy, ey⟩ := RepC.lies hy' (by rw [List.length_map, List.length_map, ← HL.out]; omega)
      rw [List.length_map, ← HL.out] at ex
      rw [List.length_map, List.length_map, ← HL.out] at ey
      cases ex
      cases ey
      obtain ⟨vs1, hv1, q1⟩ := RepC.rowAt hx' (rows_map itemD_len _) t (map_at itemD its t hk)
      obtain ⟨vs2, hv2, q2⟩ := RepC.rowAt hy' (rows_map itemD_len _) t (map_at itemD _ t (map_at G its t hk))
      obtain ⟨ns, e, ss, at3⟩ := k
      obtain ⟨c', at4, hfar⟩ := hG ns e ss at3
      rw [hfar] at hv2
      rw [item_here] at hv1
      obtain ⟨n1, l1, cn1, r1, rfl, hn1, h_1⟩ := hv1.lInv
      obtain ⟨n2, l2, cn2, r2, rfl, hn2, k_1⟩ := hv2.lInv
      obtain ⟨p1, t1, rfl, w1, h_2⟩ := RepRow.appInv h_1
      obtain ⟨p2, t2, rfl, w2, k_2⟩ := RepRow.appInv k_1
      obtain ⟨z1, y1, cz1, r3, rfl, hz1, h_3⟩ := h_2.lInv
      obtain ⟨z2, y2, cz2, r4, rfl, hz2, k_3⟩ := k_2.lInv
      obtain ⟨r5, rfl, h_4⟩ := h_3.cInv
      obtain rfl := h_4.nInv
      obtain ⟨r6, rfl, k_4⟩ := k_3.cInv
      obtain rfl := k_4.nInv
      obtain ⟨_, _, e1⟩ := RepC.len hn1
      obtain ⟨_, _, e2⟩ := RepC.len hn2
      obtain ⟨_, _, e3⟩ := RepC.len hz1
      obtain ⟨_, _, e4⟩ := RepC.len hz2
      rw [List.length_map] at e1 e2 e3
      rw [List.length_map, List.length_map] at e4
      cases e1
      cases e2
      cases e3
      cases e4
      have hNm := RepC.small hn1
      have hMm := RepC.small hz1
      rw [List.length_map] at hNm hMm
      unfold maxLen at hNm hMm
      obtain ⟨NN, hNN⟩ : ∃ NN, NN = ns.length := ⟨_, rfl⟩
      obtain ⟨MM, hMM⟩ : ∃ MM, MM = ss.length := ⟨_, rfl⟩
      rw [← hNN] at hn1 hn2 hNm q1 q2
      rw [← hMM] at hz1 hz2 hMm q1 q2
      have HN := Lib.hid hNN
      have HM := Lib.hid hMM
      have HI := Lib.hid (fun (W : World) (hW : wr.grownBy W none) => sameExp_any c' e W B p1 p2 (RepRow.keptX hW (fun k e => by cases e) w1) (RepRow.keptX hW (fun k e => by cases e) w2))
      obtain ⟨b1, m1, d1, rfl, _⟩ := expInv w1
      obtain ⟨b2, m2, d2, rfl, _⟩ := expInv w2
      obtain ⟨f', s', nm', tk', tl', n', m', ks', at'⟩ := e
      simp only [Gram.Exp.far, expCells] at q1 q2 HI
      have u0 := q1 0 _ rfl
      have v0 := q2 0 _ rfl
      have u1 := q1 1 _ rfl
      have v1 := q2 1 _ rfl
      have u2 := q1 2 _ rfl
      have v2 := q2 2 _ rfl
      have u3 := q1 3 _ rfl
      have v3 := q2 3 _ rfl
      have u4 := q1 4 _ rfl
      have v4 := q2 4 _ rfl
      have u5 := q1 5 _ rfl
      have v5 := q2 5 _ rfl
      have u6 := q1 6 _ rfl
      have v6 := q2 6 _ rfl
      have u7 := q1 7 _ rfl
      have v7 := q2 7 _ rfl
      have u8 := q1 8 _ rfl
      have v8 := q2 8 _ rfl
      have u9 := q1 9 _ rfl
      have v9 := q2 9 _ rfl
      have u10 := q1 10 _ rfl
      have v10 := q2 10 _ rfl
      have u11 := q1 11 _ rfl
      have v11 := q2 11 _ rfl
      rw [Nat.add_zero] at u0 v0
      have hA : wr.grownBy (wr.alloc (.cells #[.slice n1 NN cn1, .int .i64 f', .int .i64 s', .string ⟨nm'.toArray⟩, .int .i64 tk', .int .i64 tl', .int .i64 n', .int .i64 m', .slice b1 m1 d1, .int .i64 at', .slice z1 MM cz1, .int .i64 at3] 45)) none := World.grownBy_alloc _ _ none
      have y0 := hA.cell v0 (by simp)
      have y1 := hA.cell v1 (by simp)
      have y2 := hA.cell v2 (by simp)
      have y3 := hA.cell v3 (by simp)
      have y4 := hA.cell v4 (by simp)
      have y5 := hA.cell v5 (by simp)
      have y6 := hA.cell v6 (by simp)
      have y7 := hA.cell v7 (by simp)
      have y8 := hA.cell v8 (by simp)
      have y9 := hA.cell v9 (by simp)
      have y10 := hA.cell v10 (by simp)
      have y11 := hA.cell v11 (by simp)
      clear q1 q2 hv1 hv2 hx' hy' hk h_1 h_2 h_3 h_4 k_1 k_2 k_3 k_4 w1 w2 hNN hMM hfar v0 v1 v2 v3 v4 v5 v6 v7 v8 v9 v10 v11
      go_wp2_with (first | (go_at_call 42; refine (HI.out _ (galloc hA _)).mono ?_; rintro e w3 ⟨rfl, hg3⟩; refine Hid.out ?_))
      have hB : wr.grownBy w3 none := (galloc hA _).trans hg3
      have nx : w3.cell? ⟨wr.heap.size, 0, none⟩ = some (.slice n1 NN cn1) := hg3.cell (by simp) (by simp)
      have ny : w3.cell? ⟨wr.heap.size + 1, 0, none⟩ = some (.slice n2 NN cn2) := hg3.cell (by simp) (by simp)
      have sx : w3.cell? ⟨wr.heap.size, 10, none⟩ = some (.slice z1 MM cz1) := hg3.cell (by simp) (by simp)
      have sy : w3.cell? ⟨wr.heap.size + 1, 10, none⟩ = some (.slice z2 MM cz2) := hg3.cell (by simp) (by simp)
      have hn1' := RepC.kept hB (fun k e => by cases e) hn1
      have hn2' := RepC.kept hB (fun k e => by cases e) hn2
      have hz1' := RepC.kept hB (fun k e => by cases e) hz1
      have hz2' := RepC.kept hB (fun k e => by cases e) hz2
      have HG3 := Lib.hid (HG.out.trans hB)
      clear hB hA hg3 hn1 hn2 hz1 hz2 HI HG u0 y0 u1 y1 u2 y2 u3 y3 u4 y4 u5 y5 u6 y6 u7 y7 u8 y8 u9 y9 u10 y10 u11 y11
      obtain ⟨P, hP⟩ : ∃ P, P = wr.heap.size := ⟨_, rfl⟩
      rw [← hP] at nx ny sx sy
      have HP := Lib.hid hP
      refine Lib.hid ?_
      rw [← hP]
      clear hP
      go_wp2
      go_loopw [10, 11] (fun sv kv wr2 => ∃ u : Nat, u ≤ NN ∧ sv = .bool true ∧ kv = .int .i64 (u : Int) ∧ Hid (w3.grownBy wr2 none)) (fun _ i _ => NN - (intOf i).toNat)
      case atStart => exact ⟨0, Nat.zero_le _, rfl, rfl, Lib.hid (World.grownBy.refl _ _)⟩
      case round =>
        obtain ⟨u, hu, rfl, rfl, HU⟩ := hrel
        have nx' := HU.out.cell nx (by simp)
        have ny' := HU.out.cell ny (by simp)
        by_cases hlu : u < NN
        · obtain ⟨k, hk⟩ : ∃ k, ns[u]? = some k := ⟨_, List.getElem?_eq_getElem (by rw [← HN.out]; exact hlu)⟩
          have hx' := RepC.kept HU.out (fun k e => by cases e) hn1'
          have hy' := RepC.kept HU.out (fun k e => by cases e) hn2'
          obtain ⟨e1, cx, ex⟩ := RepC.lies hx' (by rw [List.length_map, ← HN.out]; omega)
          obtain ⟨e2, cy, ey⟩ := RepC.lies hy' (by rw [List.length_map, ← HN.out]; omega)
          rw [List.length_map, ← HN.out] at ex ey
          cases ex
          cases ey
          obtain ⟨vs1, hv1, q1⟩ := RepC.rowAt hx' (rows_map nameD_len _) u (map_at nameD ns u hk)
          obtain ⟨vs2, hv2, q2⟩ := RepC.rowAt hy' (rows_map nameD_len _) u (map_at nameD ns u hk)
          obtain rfl := nameInv hv1
          obtain rfl := nameInv hv2
          have s0 := q1 0 _ rfl
          have t0 := q2 0 _ rfl
          rw [Nat.mul_one, Nat.add_zero] at s0 t0
          clear q1 q2 hv1 hv2 hx' hy' hk nx ny sx sy
          have HG4 := Lib.hid HU.out
          go_wp2
          go_quiet (fail)
          go_wp2
          exact ⟨⟨u + 1, by omega, rfl, by go_num, Lib.hid (gdrewN HG4.out _)⟩, by simp [intOf]; omega⟩
        · have e : u = NN := by omega
          subst e
          have sx' := HU.out.cell sx (by simp)
          have sy' := HU.out.cell sy (by simp)
          have hz3 := RepC.kept HU.out (fun k e => by cases e) hz1'
          have hz4 := RepC.kept HU.out (fun k e => by cases e) hz2'
          have HG4 := Lib.hid (HG3.out.trans HU.out)
          clear nx ny sx sy ny' hz1' hz2' hn1' hn2' HU HG3
          go_wp2
          go_loopw [10, 12] (fun sv kv wr2 => ∃ u : Nat, u ≤ MM ∧ sv = .bool true ∧ kv = .int .i64 (u : Int) ∧ Hid (wr.grownBy wr2 none)) (fun _ i _ => MM - (intOf i).toNat)
          case atStart => exact ⟨0, Nat.zero_le _, rfl, rfl, Lib.hid (World.grownBy.refl _ _)⟩
          case round =>
            obtain ⟨u, hu, rfl, rfl, HU⟩ := hrel
            have sx2 := HU.out.cell sx' (by simp)
            have sy2 := HU.out.cell sy' (by simp)
            by_cases hlu : u < MM
            · obtain ⟨k, hk⟩ : ∃ k, ss[u]? = some k := ⟨_, List.getElem?_eq_getElem (by rw [← HM.out]; exact hlu)⟩
              have hx' := RepC.kept HU.out (fun k e => by cases e) hz3
              have hy' := RepC.kept HU.out (fun k e => by cases e) hz4
              obtain ⟨e1, cx, ex⟩ := RepC.lies hx' (by rw [List.length_map, ← HM.out]; omega)
              obtain ⟨e2, cy, ey⟩ := RepC.lies hy' (by rw [List.length_map, List.length_map, ← HM.out]; omega)
              rw [List.length_map, ← HM.out] at ex
              rw [List.length_map, List.length_map, ← HM.out] at ey
              cases ex
              cases ey
              obtain ⟨vs1, hv1, q1⟩ := RepC.rowAt hx' (rows_map stateD_len _) u (map_at stateD ss u hk)
              obtain ⟨vs2, hv2, q2⟩ := RepC.rowAt hy' (rows_map stateD_len _) u (map_at stateD _ u (map_at (Gram.State.far c) ss u hk))
              have hsz := List.sizeOf_lt_of_mem (List.mem_of_getElem? hk)
              obtain ⟨nm, us, ut, ls, it, a4⟩ := k
              have hit : SizeOf.sizeOf it < N := by
                simp at hks hsz
                omega
              simp only [Gram.State.far, stateD, itemsD_map, Gram.ifarL_map] at hv1 hv2
              obtain ⟨x1, rfl, h_1⟩ := RepRow.cInv hv1
              obtain ⟨p1, l1, q1', x2, rfl, L1, h_2⟩ := h_1.lInv
              obtain ⟨p2, l2, q2', x3, rfl, L2, h_3⟩ := h_2.lInv
              obtain ⟨p3, l3, q3, x4, rfl, L3, h_4⟩ := h_3.lInv
              obtain ⟨p4, l4, q4, x5, rfl, L4, h_5⟩ := h_4.lInv
              obtain ⟨x6, rfl, h_6⟩ := h_5.cInv
              obtain rfl := h_6.nInv
              obtain ⟨y1, rfl, k_1⟩ := RepRow.cInv hv2
              obtain ⟨o1, i1, r1, y2, rfl, M1, k_2⟩ := k_1.lInv
              obtain ⟨o2, i2, r2, y3, rfl, M2, k_3⟩ := k_2.lInv
              obtain ⟨o3, i3, r3, y4, rfl, M3, k_4⟩ := k_3.lInv
              obtain ⟨o4, i4, r4, y5, rfl, M4, k_5⟩ := k_4.lInv
              obtain ⟨y6, rfl, k_6⟩ := k_5.cInv
              obtain rfl := k_6.nInv
              obtain ⟨_, _, f1⟩ := RepC.len L1
              obtain ⟨_, _, f2⟩ := RepC.len L2
              obtain ⟨_, _, f3⟩ := RepC.len L3
              obtain ⟨_, _, f4⟩ := RepC.len L4
              obtain ⟨_, _, f5⟩ := RepC.len M1
              obtain ⟨_, _, f6⟩ := RepC.len M2
              obtain ⟨_, _, f7⟩ := RepC.len M3
              obtain ⟨_, _, f8⟩ := RepC.len M4
              rw [List.length_map] at f1 f2 f3 f4
              rw [List.length_map, List.length_map] at f5 f6 f7 f8
              cases f1
              cases f2
              cases f3
              cases f4
              cases f5
              cases f6
              cases f7
              cases f8
              have g1' := RepC.small L1
              have g2' := RepC.small L2
              have g3' := RepC.small L3
              have g4' := RepC.small L4
              rw [List.length_map] at g1' g2' g3' g4'
              have H1 := Lib.hid (fun (W : World) (hW : wr.grownBy W none) => sameTrans_any c us W B p1 o1 q1' r1 us.length g1' (RepC.kept hW (fun k e => by cases e) L1) (RepC.kept hW (fun k e => by cases e) M1) (Lib.hid rfl))
              have H2 := Lib.hid (fun (W : World) (hW : wr.grownBy W none) => sameTrans_any c ut W B p2 o2 q2' r2 ut.length g2' (RepC.kept hW (fun k e => by cases e) L2) (RepC.kept hW (fun k e => by cases e) M2) (Lib.hid rfl))
              have H3 := Lib.hid (fun (W : World) (hW : wr.grownBy W none) => sameVars_any c ls W B p3 o3 q3 r3 ls.length g3' (RepC.kept hW (fun k e => by cases e) L3) (RepC.kept hW (fun k e => by cases e) M3) (Lib.hid rfl))
              have H4 := Lib.hid (fun (W : World) (hW : wr.grownBy W none) => ih it hit W B p4 o4 q4 r4 it.length g4' (RepC.kept hW (fun k e => by cases e) L4) (RepC.kept hW (fun k e => by cases e) M4) (Lib.hid rfl))
              have u0 := q1 0 _ rfl
              have u1 := q1 1 _ rfl
              have u2 := q1 2 _ rfl
              have u3 := q1 3 _ rfl
              have u4 := q1 4 _ rfl
              have u5 := q1 5 _ rfl
              have v0 := q2 0 _ rfl
              have v1 := q2 1 _ rfl
              have v2 := q2 2 _ rfl
              have v3 := q2 3 _ rfl
              have v4 := q2 4 _ rfl
              have v5 := q2 5 _ rfl
              rw [Nat.add_zero] at u0 v0
              have hA : wr.grownBy (wr.alloc (.cells #[.string ⟨nm.toArray⟩, .slice p1 us.length q1', .slice p2 ut.length q2', .slice p3 ls.length q3, .slice p4 it.length q4, .int .i64 a4] 99)) none := World.grownBy_alloc _ _ none
              have sy3 := hA.cell sy2 (by simp)
              have w0 := hA.cell v0 (by simp)
              have w1 := hA.cell v1 (by simp)
              have w2 := hA.cell v2 (by simp)
              have w3 := hA.cell v3 (by simp)
              have w4 := hA.cell v4 (by simp)
              have w5 := hA.cell v5 (by simp)
              have HG5 := Lib.hid HU.out
              clear q1 q2 hv1 hv2 hx' hy' hk h_1 h_2 h_3 h_4 h_5 h_6 k_1 k_2 k_3 k_4 k_5 k_6 L1 L2 L3 L4 M1 M2 M3 M4 g1' g2' g3' g4' v0 v1 v2 v3 v4 v5 hit hsz hks hz3 hz4 sx' sy' HU
              go_wp2_with (first | (go_at_call 43; refine (H1.out _ (galloc hA _)).mono ?_; rintro e w6 ⟨rfl, hg6⟩; refine Hid.out ?_))
              have hB6 : wr.grownBy w6 none := (galloc hA _).trans hg6
              have s0_6 : w6.cell? ⟨wr.heap.size, 0, none⟩ = some (.string ⟨nm.toArray⟩) := hg6.cell (by simp) (by simp)
              have t0_6 : w6.cell? ⟨wr.heap.size + 1, 0, none⟩ = some (.string ⟨nm.toArray⟩) := hg6.cell (by simp) (by simp)
              have s2_6 : w6.cell? ⟨wr.heap.size, 2, none⟩ = some (.slice p2 ut.length q2') := hg6.cell (by simp) (by simp)
              have t2_6 : w6.cell? ⟨wr.heap.size + 1, 2, none⟩ = some (.slice o2 ut.length r2) := hg6.cell (by simp) (by simp)
              have s3_6 : w6.cell? ⟨wr.heap.size, 3, none⟩ = some (.slice p3 ls.length q3) := hg6.cell (by simp) (by simp)
              have t3_6 : w6.cell? ⟨wr.heap.size + 1, 3, none⟩ = some (.slice o3 ls.length r3) := hg6.cell (by simp) (by simp)
              have s4_6 : w6.cell? ⟨wr.heap.size, 4, none⟩ = some (.slice p4 it.length q4) := hg6.cell (by simp) (by simp)
              have t4_6 : w6.cell? ⟨wr.heap.size + 1, 4, none⟩ = some (.slice o4 it.length r4) := hg6.cell (by simp) (by simp)
              clear hA hg6 sy3 w0 w1 w2 w3 w4 w5 u0 u1 u2 u3 u4 u5 H1
              refine Lib.hid ?_
              go_wp2_with (first | (go_at_call 43; refine (H2.out _ hB6).mono ?_; rintro e w7 ⟨rfl, hg7⟩; refine Hid.out ?_))
              have hB7 : wr.grownBy w7 none := hB6.trans hg7
              have s0_7 := hg7.cell s0_6 (by simp)
              have t0_7 := hg7.cell t0_6 (by simp)
              have s3_7 := hg7.cell s3_6 (by simp)
              have t3_7 := hg7.cell t3_6 (by simp)
              have s4_7 := hg7.cell s4_6 (by simp)
              have t4_7 := hg7.cell t4_6 (by simp)
              clear hg7 H2 s0_6 t0_6 s2_6 t2_6 s3_6 t3_6 s4_6 t4_6
              refine Lib.hid ?_
              go_wp2_with (first | (go_at_call 23; refine (H3.out _ hB7).mono ?_; rintro e w8 ⟨rfl, hg8⟩; refine Hid.out ?_))
              have hB8 : wr.grownBy w8 none := hB7.trans hg8
              have s0_8 := hg8.cell s0_7 (by simp)
              have t0_8 := hg8.cell t0_7 (by simp)
              have s4_8 := hg8.cell s4_7 (by simp)
              have t4_8 := hg8.cell t4_7 (by simp)
              clear hg8 H3 s0_7 t0_7 s3_7 t3_7 s4_7 t4_7
              refine Lib.hid ?_
              go_wp2_with (first | (go_at_call 24; refine (H4.out _ hB8).mono ?_; rintro e w9 ⟨rfl, hg9⟩; refine Hid.out ?_))
              have hB9 : wr.grownBy w9 none := hB8.trans hg9
              have s0_9 := hg9.cell s0_8 (by simp)
              have t0_9 := hg9.cell t0_8 (by simp)
              clear hg9 H4 s0_8 t0_8 s4_8 t4_8
              refine Lib.hid ?_
              have HG6 := Lib.hid (HG5.out.trans hB9)
              clear HG5 hB6 hB7 hB8 hB9
              go_wp2
              exact ⟨⟨u + 1, by omega, rfl, by go_num, HG6⟩, by simp [intOf]; omega⟩
            · have e : u = MM := by omega
              subst e
              have HG5 := Lib.hid (HG4.out.trans HU.out)
              go_wp2
              exact ⟨⟨t + 1, by omega, by go_num, HG5⟩, by simp [intOf]; omega⟩
    · have e : t = L := by omega
      subst e
      go_wp2
      go_ret
      exact ⟨rfl, HG.out⟩


end Go.Proofs.YtjcdkgjfecnkgaaGreatDoor
