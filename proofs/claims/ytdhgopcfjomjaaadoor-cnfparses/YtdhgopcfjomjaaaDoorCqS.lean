/- metronomeref22.ParseFormula: the walk. -/
import Derived.Test.YtdhgopcfjomjaaaDoorJnP
namespace Go.Proofs.YtdhgopcfjomjaaaDoor
open Go.RowKit Go.Maps Go.WideMaps
open Go.Lib hiding intOf run_convert_string_bytes
open Cn (I64)

namespace Cn
theorem pf_none1 {s : List UInt8} (h : pfR s = none) : pf s = none := by unfold pf; rw [h]
theorem pfR_short {s : List UInt8} (h : s.length < 7) : pfR s = none := by unfold pfR; rw [if_pos (.inl h)]
theorem pfR_head {s : List UInt8} (h : ¬ s.take 6 = hd6) : pfR s = none := by unfold pfR; rw [if_pos (.inr h)]
theorem pfR_w1 {s : List UInt8} {k : Nat} (h7 : ¬ s.length < 7) (h6 : s.take 6 = hd6) (hr : (rwd (s.drop 6)).2.1 = s.drop k) (h : (rwd (s.drop 6)).2.2 = false ∨ s.length ≤ k) : pfR s = none := by
  unfold pfR
  rw [if_neg (by simp [h6]; omega), if_pos (h.imp id fun h => by rw [hr]; exact List.drop_eq_nil_of_le h)]
theorem pfR_w2 {s : List UInt8} {k k2 : Nat} (h7 : ¬ s.length < 7) (h6 : s.take 6 = hd6) (hr : (rwd (s.drop 6)).2.1 = s.drop k) (hok : (rwd (s.drop 6)).2.2 = true) (hk : k < s.length) (hr2 : (rwd (s.drop (k + 1))).2.1 = s.drop k2) :
    pfR s = if (rwd (s.drop (k + 1))).2.2 = false ∨ s.length ≤ k2 then none else (pfGo (s.length + 1) (s.drop (k2 + 1)) [] []).map fun L => ⟨(rwd (s.drop 6)).1, L⟩ := by
  unfold pfR
  have hne : ¬ s.drop k = [] := by rw [List.drop_eq_nil_iff]; omega
  rw [if_neg (by simp [h6]; omega), if_neg (by rw [hok, hr]; simp [hne]), hr, List.drop_drop, hr2, List.drop_drop]
  have e : (s.drop k2 = []) = (s.length ≤ k2) := propext List.drop_eq_nil_iff
  simp only [e]
end Cn
set_option maxRecDepth 100000 in
set_option maxHeartbeats 8000000 in
theorem rparse_any (w : World) (s : List UInt8) (hl : s.length ≤ 20000) : Calls Tryd.prog 24 #[.string ⟨s.toArray⟩] w (PfA w (Cn.pf s)) := by
  obtain ⟨x, hx⟩ : ∃ x : ByteArray, x = ⟨s.toArray⟩ := ⟨_, rfl⟩
  obtain ⟨N, hN⟩ : ∃ N, N = s.length := ⟨_, rfl⟩
  have hxs : x.size = N := by rw [hx, hN]; simp [ByteArray.size]
  have hwd : ∀ V (i : Nat), i ≤ N → Calls Tryd.prog 38 #[.string x, .int .i64 (i : Int)] V (WdP V s i) := fun V i hi => by rw [hx]; exact rword_any V s i (by omega) (by omega)
  have hN0 : N ≤ 20000 := by omega
  obtain ⟨W0, hW0⟩ : ∃ W0, W0 = w.alloc (.cells #[.int .i64 0, .slice none 0 0] 24) := ⟨_, rfl⟩
  have r0 : W0.heap[w.heap.size]? = some (.cells #[.int .i64 0, .slice none 0 0] 24 (0, 0)) := by rw [hW0]; exact heap_alloc_new _ _
  have hg0 : w.grownBy W0 none := by rw [hW0]; exact World.grownBy_alloc _ _ _
  have e1 : decide ((2000000 : Int) < (N : Int)) = false := xF (by omega)
  obtain ⟨p, hp⟩ : ∃ p, p = Cn.pf s := ⟨_, rfl⟩
  rw [← hx, ← hp]
  by_cases h7 : N < 7
  · rw [Cn.pf_none1 (Cn.pfR_short (by omega))] at hp
    subst hp
    have t0 : W0.cell? ⟨w.heap.size, 0, none⟩ = some (.int .i64 0) := cell_of_row _ _ 0 _ _ _ r0
    have t1 : W0.cell? ⟨w.heap.size, 1, none⟩ = some (.slice none 0 0) := cell_of_row _ _ 1 _ _ _ r0
    have d0 := frozen_of_row _ _ 0 _ _ r0
    have d1 := frozen_of_row _ _ 1 _ _ r0
    have p2 : (N : Int) < 7 := by omega
    have e2 : decide ((N : Int) < 7) = true := xT p2
    have HG := Lib.hid (And.intro hg0 r0)
    clear hN hwd hN0 hl h7 hg0 r0 hx
    go_enter Tryd.func24, Tryd.ntmps24
    go_upto_region 3 with fail
    rw [← hW0]
    clear hW0
    go_wp2
    obtain ⟨Wf, hWf⟩ : ∃ Wf, Wf = (W0.setCell ⟨w.heap.size, 0, none⟩ (.int .i64 0)).setCell ⟨w.heap.size, 1, none⟩ (.slice none 0 0) := ⟨_, rfl⟩
    have hf := res_set HG.out.1 HG.out.2 _ _ hWf
    have y0 := hf.1
    have y1 := hf.2.1
    rw [← hWf]
    clear hWf
    refine bodyPost_ret (v := .tuple #[.agg #[.int .i64 0, .slice none 0 0], .int .i64 40]) ?_ rfl ⟨rfl, hf.2.2.1⟩
    simp [results, Tryd.results24, go_sem, y0, y1]
  have p2 : ¬ (N : Int) < 7 := by omega
  have e2 : decide ((N : Int) < 7) = false := xF p2
  obtain ⟨y, hy⟩ : ∃ y, y = x.extract 0 6 := ⟨_, rfl⟩
  have hyl : y.toList = s.take 6 := by rw [hy, hx, bs_extract]; simp
  have hy3 := hy.symm
  by_cases h6 : s.take 6 = hd6
  · have e4 : (y.toList == [112, 32, 99, 110, 102, 32]) = true := by rw [hyl, h6]; rfl
    obtain ⟨W1, hW1⟩ : ∃ W1, W1 = W0.alloc (.cells #[.int .i64 0, .slice none 0 0] 24) := ⟨_, rfl⟩
    have hg1 : W0.grownBy W1 none := by rw [hW1]; exact World.grownBy_alloc _ _ _
    have s0 : W0.heap.size = w.heap.size + 1 := by rw [hW0]; simp
    have r1 : W1.heap[w.heap.size]? = some (.cells #[.int .i64 0, .slice none 0 0] 24 (0, 0)) := (hg1.block _ (by omega) (by simp)).trans r0
    have f1 : W1.heap[w.heap.size + 1]? = some (.cells #[.int .i64 0, .slice none 0 0] 24 (0, 0)) := by rw [hW1, ← s0]; exact heap_alloc_new _ _
    have h61 := hwd W1 6 (by omega)
    have HP := Lib.hid (And.intro hp (And.intro hN (And.intro h6 (And.intro hwd hx))))
    have HG := Lib.hid (And.intro (hg0.trans hg1) (And.intro r1 f1))
    have HW := Lib.hid h61
    have HS0 := Lib.hid s0
    clear hN hwd hl h7 hg0 hg1 r0 r1 f1 h61 hx h6 hy hyl hp s0
    go_enter Tryd.func24, Tryd.ntmps24
    go_upto_region 3 with fail
    rw [← hW0]
    clear hW0
    go_upto_region 6 with fail
    rw [← hW1]
    clear hW1
    rw [HS0.out]
    go_upto_region 7 with (go_at_call 38; refine HW.out.mono ?_; rintro e w2 ⟨k, hk, hik, hrest, hokk, rfl, hg2, hb1, hb2⟩; have H2 := Lib.hid (And.intro hk (And.intro hik (And.intro hrest (And.intro hokk (And.intro hg2 (And.intro hb1 hb2)))))); clear hk hik hrest hokk hg2 hb1 hb2)
    obtain ⟨V1, hV1⟩ : ∃ V1, V1 = (Cn.rwd (s.drop 6)).1 := ⟨_, rfl⟩
    obtain ⟨b1, hb1⟩ : ∃ b1, b1 = (Cn.rwd (s.drop 6)).2.2 := ⟨_, rfl⟩
    have hk2 : k ≤ N := by rw [HP.out.2.1]; exact H2.out.1
    have hg2 := H2.out.2.2.2.2.1
    have r2 := (hg2.block _ (gl HG.out.2.1) (by simp)).trans HG.out.2.1
    have f2 := (hg2.block _ (gl HG.out.2.2) (by simp)).trans HG.out.2.2
    have HG2 := Lib.hid (And.intro (HG.out.1.trans hg2) (And.intro r2 f2))
    clear hg2 f2
    rw [← hV1, ← hb1]
    cases b1 with
    | false =>
      rw [Cn.pf_none1 (Cn.pfR_w1 (by rw [← HP.out.2.1]; omega) HP.out.2.2.1 H2.out.2.2.1 (.inl hb1.symm))] at HP
      obtain rfl := HP.out.1
      have t0 : w2.cell? ⟨w.heap.size, 0, none⟩ = some (.int .i64 0) := cell_of_row _ _ 0 _ _ _ r2
      have t1 : w2.cell? ⟨w.heap.size, 1, none⟩ = some (.slice none 0 0) := cell_of_row _ _ 1 _ _ _ r2
      have d0 := frozen_of_row _ _ 0 _ _ r2
      have d1 := frozen_of_row _ _ 1 _ _ r2
      clear r2 hV1 hb1
      go_wp2
      obtain ⟨Wf, hWf⟩ : ∃ Wf, Wf = (w2.setCell ⟨w.heap.size, 0, none⟩ (.int .i64 0)).setCell ⟨w.heap.size, 1, none⟩ (.slice none 0 0) := ⟨_, rfl⟩
      have hf := res_set HG2.out.1 HG2.out.2.1 _ _ hWf
      have y0 := hf.1
      have y1 := hf.2.1
      rw [← hWf]
      clear hWf
      refine bodyPost_ret (v := .tuple #[.agg #[.int .i64 0, .slice none 0 0], .int .i64 40]) ?_ rfl ⟨rfl, hf.2.2.1⟩
      simp [results, Tryd.results24, go_sem, y0, y1]
    | true =>
      by_cases hkN : k < N
      · have q2 : ¬ (N : Int) ≤ (k : Int) := by omega
        have e5 : decide ((N : Int) ≤ (k : Int)) = false := xF q2
        have t0 : w2.cell? ⟨w.heap.size + 1, 0, none⟩ = some (.int .i64 0) := cell_of_row _ _ 0 _ _ _ HG2.out.2.2
        have d0 := frozen_of_row _ _ 0 _ _ HG2.out.2.2
        obtain ⟨W3, hW3⟩ : ∃ W3, W3 = w2.setCell ⟨w.heap.size + 1, 0, none⟩ (.int .i64 V1) := ⟨_, rfl⟩
        have hk3 : Kp [w.heap.size + 1] w2 W3 := by rw [hW3]; exact (Kp.refl _ _).set (by simp) _
        have f3 : W3.heap[w.heap.size + 1]? = some (.cells #[.int .i64 V1, .slice none 0 0] 24 (0, 0)) := by rw [hW3]; exact heap_setCell_same _ _ 0 _ _ _ HG2.out.2.2
        have r3 := (hk3.block w.heap.size (gl r2) (by simp)).trans r2
        have hg3 : w.grownBy W3 none := Kp.grown HG2.out.1 hk3 (fun k hk => by simp at hk; omega)
        have hw2 : Calls Tryd.prog 38 #[.string x, .int .i64 ((k : Int) + 1)] W3 (WdP W3 s (k + 1)) := HP.out.2.2.2.1 W3 (k + 1) hkN
        have HW2 := Lib.hid hw2
        have HG3 := Lib.hid (And.intro hg3 (And.intro r3 f3))
        have HV := Lib.hid (And.intro hV1 hb1)
        clear hk3 f3 r3 hg3 hw2 r2 hV1 hb1
        go_upto_region 10 with fail
        rw [← hW3]
        clear hW3 t0 d0 q2 e5
        go_upto_region 11 with (go_at_call 38; refine HW2.out.mono ?_; rintro e w4 ⟨k2, hk, hik, hrest, hokk, rfl, hg2, hb1, hb2⟩; have H4 := Lib.hid (And.intro hk (And.intro hik (And.intro hrest (And.intro hokk hg2)))); clear hk hik hrest hokk hg2 hb1 hb2)
        obtain ⟨b2, hb2⟩ : ∃ b2, b2 = (Cn.rwd (s.drop (k + 1))).2.2 := ⟨_, rfl⟩
        obtain ⟨V2, hV2⟩ : ∃ V2, V2 = (Cn.rwd (s.drop (k + 1))).1 := ⟨_, rfl⟩
        have hk2N : k2 ≤ N := by rw [HP.out.2.1]; exact H4.out.1
        have hg4 := H4.out.2.2.2.2
        have r4 := (hg4.block _ (gl HG3.out.2.1) (by simp)).trans HG3.out.2.1
        have f4 := (hg4.block _ (gl HG3.out.2.2) (by simp)).trans HG3.out.2.2
        have HG4 := Lib.hid (And.intro (HG3.out.1.trans hg4) (And.intro r4 f4))
        have hpr := Cn.pfR_w2 (by rw [← HP.out.2.1]; omega) HP.out.2.2.1 H2.out.2.2.1 HV.out.2.symm (by rw [← HP.out.2.1]; exact hkN) H4.out.2.2.1
        rw [← hb2, ← HP.out.2.1, ← HV.out.1] at hpr
        rw [← hb2, ← hV2]
        clear hg4 f4 hb2 hV2
        cases b2 with
        | false =>
          rw [if_pos (.inl rfl)] at hpr
          rw [Cn.pf_none1 hpr] at HP
          obtain rfl := HP.out.1
          have t0 : w4.cell? ⟨w.heap.size, 0, none⟩ = some (.int .i64 0) := cell_of_row _ _ 0 _ _ _ r4
          have t1 : w4.cell? ⟨w.heap.size, 1, none⟩ = some (.slice none 0 0) := cell_of_row _ _ 1 _ _ _ r4
          have d0 := frozen_of_row _ _ 0 _ _ r4
          have d1 := frozen_of_row _ _ 1 _ _ r4
          clear r4 hpr
          go_wp2
          obtain ⟨Wf, hWf⟩ : ∃ Wf, Wf = (w4.setCell ⟨w.heap.size, 0, none⟩ (.int .i64 0)).setCell ⟨w.heap.size, 1, none⟩ (.slice none 0 0) := ⟨_, rfl⟩
          have hf := res_set HG4.out.1 HG4.out.2.1 _ _ hWf
          have y0 := hf.1
          have y1 := hf.2.1
          rw [← hWf]
          clear hWf
          refine bodyPost_ret (v := .tuple #[.agg #[.int .i64 0, .slice none 0 0], .int .i64 40]) ?_ rfl ⟨rfl, hf.2.2.1⟩
          simp [results, Tryd.results24, go_sem, y0, y1]
        | true =>
          by_cases hk2N2 : k2 < N
          · rw [if_neg (by simp; omega)] at hpr
            have q2 : ¬ (N : Int) ≤ (k2 : Int) := by omega
            have e5 : decide ((N : Int) ≤ (k2 : Int)) = false := xF q2
            have HR := Lib.hid (And.intro hpr r4)
            clear hpr r4 hkN
            go_upto_region 15 with fail
            have HQ0 : Hid (PfQ w4 (w.heap.size + 1) V1 [] (.slice none 0 0) [] (.slice none 0 0) w4) := Lib.hid ⟨Kp.refl _ _, gl HG4.out.2.2, HG4.out.2.2, World.ownsRow_nil _ _ _ _, World.ownsRow_nil _ _ _ _, fun k e => (by cases e), fun x hx => (by cases hx)⟩
            obtain ⟨R, hRR⟩ : ∃ R, R = Cn.pfGo (N + 1) (s.drop (k2 + 1)) [] [] := ⟨_, rfl⟩
            rw [← hRR] at HR
            have HRR := Lib.hid hRR
            clear hRR q2 e5
            go_loopw [6, 8] (fun iv cv wr => ∃ (i n : Nat) (c : List Int) (xs : List Cl) (v : Value), iv = .int .i64 (i : Int) ∧ i ≤ N + 1 ∧ Hid (PfL N s R w4 (w.heap.size + 1) V1 i n c xs v cv wr)) (fun iv _ _ => N + 1 - (intOf iv).toNat)
            case atStart => exact ⟨k2 + 1, N + 1, [], [], .slice none 0 0, by rw [Int.natCast_add]; rfl, by omega, Lib.hid ⟨HQ0.out, HRR.out.symm, by omega, by omega, by simp, by simp, fun y hy => by cases hy⟩⟩
            case round =>
              obtain ⟨i, n, c, xs, v, rfl, hi, HL⟩ := hrel
              obtain ⟨ca, cc, hcv⟩ := owns_form HL.out.q.owc
              subst hcv
              obtain ⟨m, rfl⟩ : ∃ m, n = m + 1 := ⟨n - 1, by have := HL.out.fu; omega⟩
              by_cases hiN : i < N
              · have q2 : (i : Int) < (N : Int) := by omega
                have e5 : decide ((i : Int) < (N : Int)) = true := xT q2
                have HWR := Lib.hid (HP.out.2.2.2.1 wr i (by omega))
                go_upto_region 17 with (go_at_call 38; refine HWR.out.mono ?_; rintro e w6 ⟨k3, hk, hik, hrest, hokk, rfl, hg2, hb1, hb2⟩; have H6 := Lib.hid (And.intro hk (And.intro hik (And.intro hrest (And.intro hokk (And.intro hg2 (And.intro hb1 hb2)))))); clear hk hik hrest hokk hg2 hb1 hb2)
                obtain ⟨b3, hb3⟩ : ∃ b3, b3 = (Cn.rwd (s.drop i)).2.2 := ⟨_, rfl⟩
                obtain ⟨X, hX⟩ : ∃ X, X = (Cn.rwd (s.drop i)).1 := ⟨_, rfl⟩
                have hst := Cn.pf_ok (m := m) (c := c) (acc := clsOf xs) (by rw [← HP.out.2.1]; exact hiN) H6.out.2.2.1
                rw [HL.out.go, ← hX, ← hb3] at hst
                have hX9 : -1000000000 ≤ X ∧ X ≤ 1000000000 := by rw [hX]; exact H6.out.2.2.2.2.2
                have hik : b3 = true → i < k3 := by rw [hb3]; exact H6.out.2.2.2.1
                have hk3 : k3 ≤ N := by rw [HP.out.2.1]; exact H6.out.1
                have hq6 := HL.out.q.fresh H6.out.2.2.2.2.1
                have HQ6 := Lib.hid hq6
                rw [← hX, ← hb3]
                clear hX hb3 q2 e5 hq6
                cases b3 with
                | false =>
                  rw [if_neg (by simp)] at hst
                  rw [hst] at HR
                  rw [Cn.pf_none1 HR.out.1] at HP
                  obtain rfl := HP.out.1
                  have r6 := HQ6.out.res HR.out.2
                  have hg6 := Kp.grown HG4.out.1 HQ6.out.kp (fun k hk => by simp at hk; omega)
                  have HG6 := Lib.hid (And.intro hg6 r6)
                  have t0 : w6.cell? ⟨w.heap.size, 0, none⟩ = some (.int .i64 0) := cell_of_row _ _ 0 _ _ _ r6
                  have t1 : w6.cell? ⟨w.heap.size, 1, none⟩ = some (.slice none 0 0) := cell_of_row _ _ 1 _ _ _ r6
                  have d0 := frozen_of_row _ _ 0 _ _ r6
                  have d1 := frozen_of_row _ _ 1 _ _ r6
                  clear r6 hg6 hst hik
                  go_wp2
                  obtain ⟨Wf, hWf⟩ : ∃ Wf, Wf = (w6.setCell ⟨w.heap.size, 0, none⟩ (.int .i64 0)).setCell ⟨w.heap.size, 1, none⟩ (.slice none 0 0) := ⟨_, rfl⟩
                  have hf := res_set HG6.out.1 HG6.out.2 _ _ hWf
                  have y0 := hf.1
                  have y1 := hf.2.1
                  rw [← hWf]
                  clear hWf
                  refine bodyPost_ret (v := .tuple #[.agg #[.int .i64 0, .slice none 0 0], .int .i64 40]) ?_ rfl ⟨rfl, hf.2.2.1⟩
                  simp [results, Tryd.results24, go_sem, y0, y1]
                | true =>
                  rw [if_pos rfl] at hst
                  have hik2 := hik rfl
                  clear hik
                  by_cases hx0 : X = 0
                  · rw [if_pos hx0] at hst
                    have e6 : (X == 0) = true := beq_iff_eq.2 hx0
                    obtain ⟨it, hit, hz, hsz, hby⟩ := info_parts info_sl
                    have q1 : w6.cell? ⟨w.heap.size + 1, 1, none⟩ = some v := cell_of_row _ _ 1 _ _ _ HQ6.out.rf
                    have hown := HQ6.out.own.alloc (.cells #[.slice ca c.length cc] 36)
                    have hnr := heap_alloc_new w6 (.cells #[.slice ca c.length cc] 36)
                    have hga := World.grownBy_alloc w6 (.cells #[.slice ca c.length cc] 36) none
                    have hfa := (hga.block _ (gl HQ6.out.rf) (by simp)).trans HQ6.out.rf
                    have hvb : v.ownBlock ≠ some (w.heap.size + 1) := fun e => by have := (HQ6.out.own.lt _ e).1; have := HQ6.out.lo; omega
                    have hone : ∀ u ∈ [Value.slice ca c.length cc], u.oneCell' = true := fun u hu => by rw [List.mem_singleton.1 hu]; rfl
                    have hnews : ∀ j u, [Value.slice ca c.length cc][j]? = some u → (w6.alloc (.cells #[.slice ca c.length cc] 36)).cell? ((⟨w6.heap.size, 0, none⟩ : Addr).add j) = some u := fun j u hu => by
                      cases j with
                      | zero => simp at hu; subst hu; rw [addr_at]; exact cell_of_row _ _ 0 _ _ _ hnr
                      | succ j => simp at hu
                    have hxl := HL.out.xl
                    have b63 : xs.length + 1 ≤ maxLen := by unfold maxLen; omega
                    have bby : (xs.length + 1) * 24 ≤ 140737488355328 := by omega
                    have hbase : w4.heap.size ≤ (w6.alloc (.cells #[.slice ca c.length cc] 36)).heap.size := by have := HQ6.out.kp.size; rw [World.size_alloc]; omega
                    have HO := Lib.hid (And.intro hown (And.intro hnews (And.intro hone (And.intro b63 (And.intro bby (And.intro hbase (And.intro hfa hvb)))))))
                    have HST := Lib.hid (And.intro hst hga)
                    clear hown hnews hone b63 bby hbase hfa hvb hst hga hnr hx0 hxl
                    go_wp2_with (at_builtin; refine wpList_append_own_at _ rfl _ _ 22 rfl w4.heap.size 36 it _ 1 24 Tryd.underlying22 hit hz hsz hby rfl (by decide) v xs.length (clV xs) rfl HO.out.1 ⟨w6.heap.size, 0, none⟩ 1 1 [.slice ca c.length cc] rfl rfl HO.out.2.1 HO.out.2.2.1 HO.out.2.2.2.1 HO.out.2.2.2.2.1 HO.out.2.2.2.2.2.1 ?_; intro v' w8 ho8 hg8 _ hat8; obtain ⟨a8, c8, hv8⟩ := owns_form ho8; have hf8 := (hg8.block (w.heap.size + 1) (gl HO.out.2.2.2.2.2.2.1) (fun e => HO.out.2.2.2.2.2.2.2 e.symm)).trans HO.out.2.2.2.2.2.2.1; have p1 : w8.cell? ⟨w.heap.size + 1, 1, none⟩ = some v := cell_of_row _ _ 1 _ _ _ hf8; have p3 := frozen_of_row w8 (w.heap.size + 1) 1 _ _ hf8; subst hv8; have H8 := Lib.hid (And.intro ho8 (And.intro hg8 (And.intro hat8 hf8))); clear ho8 hg8 hat8 hf8)
                    have hcl3 := HL.out.cl
                    have hfu := HL.out.fu
                    have hxl := HL.out.xl
                    have hnx := HQ6.out.next rfl (by omega) HL.out.c64 HST.out.2 H8.out.1 H8.out.2.1 H8.out.2.2.1 (W4 := w8.setCell ⟨w.heap.size + 1, 1, none⟩ (.slice a8 (xs.length + 1) c8)) ((Kp.refl _ w8).set (by simp) _) (heap_setCell_same _ _ 1 _ _ _ H8.out.2.2.2)
                    refine ⟨⟨k3 + 1, m, [], xs ++ [(ca, cc, c)], _, by go_num, by omega, Lib.hid ⟨hnx, ?_, by omega, by omega, by rw [List.length_append, List.length_singleton]; omega, Nat.zero_le _, fun y hy => by cases hy⟩⟩, by simp [intOf]; omega⟩
                    rw [clsOf_app]
                    exact HST.out.1.symm
                  · rw [if_neg hx0] at hst
                    have e6 : (X == 0) = false := beq_eq_false_iff_ne.2 hx0
                    obtain ⟨it, hit, hz, hsz, hby⟩ := info_parts info_i
                    have hown := HQ6.out.owc.alloc (.cells #[.int .i64 X] 3)
                    have hnr := heap_alloc_new w6 (.cells #[.int .i64 X] 3)
                    have hga := World.grownBy_alloc w6 (.cells #[.int .i64 X] 3) none
                    have hone : ∀ u ∈ [Value.int .i64 X], u.oneCell' = true := fun u hu => by rw [List.mem_singleton.1 hu]; rfl
                    have hnews : ∀ j u, [Value.int .i64 X][j]? = some u → (w6.alloc (.cells #[.int .i64 X] 3)).cell? ((⟨w6.heap.size, 0, none⟩ : Addr).add j) = some u := fun j u hu => by
                      rw [addr_at, Nat.zero_add, row_cell hnr]; exact hu
                    have hcl3 := HL.out.cl
                    have b63 : c.length + 1 ≤ maxLen := by unfold maxLen; omega
                    have bby : (c.length + 1) * 8 ≤ 140737488355328 := by omega
                    have hbase : w4.heap.size ≤ (w6.alloc (.cells #[.int .i64 X] 3)).heap.size := by have := HQ6.out.kp.size; rw [World.size_alloc]; omega
                    have HO := Lib.hid (And.intro hown (And.intro hnews (And.intro hone (And.intro b63 (And.intro bby hbase)))))
                    have HST := Lib.hid (And.intro hst (And.intro hga hX9))
                    clear hown hnews hone b63 bby hbase hst hga hnr hx0 hcl3 hX9
                    go_wp2_with (at_builtin; refine wpList_append_own_at _ rfl _ _ 36 rfl w4.heap.size 3 it _ 1 8 Tryd.underlying36 hit hz hsz hby rfl (by decide) (.slice ca c.length cc) c.length (ints c) rfl HO.out.1 ⟨w6.heap.size, 0, none⟩ 1 1 [.int .i64 X] rfl rfl HO.out.2.1 HO.out.2.2.1 HO.out.2.2.2.1 HO.out.2.2.2.2.1 HO.out.2.2.2.2.2 ?_; intro v' w8 ho8 hg8 _ hat8; have H8 := Lib.hid (And.intro ho8 (And.intro hg8 hat8)); clear ho8 hg8 hat8)
                    have hcl3 := HL.out.cl
                    have hfu := HL.out.fu
                    have hxl := HL.out.xl
                    have hnx := HQ6.out.lit HST.out.2.1 H8.out.1 H8.out.2.1 H8.out.2.2
                    refine ⟨⟨k3 + 1, m, c ++ [X], xs, v, by go_num, by omega, Lib.hid ⟨hnx, HST.out.1.symm, by omega, by omega, by omega, by rw [List.length_append, List.length_singleton]; omega, fun y hy => ?_⟩⟩, by simp [intOf]; omega⟩
                    rcases List.mem_append.1 hy with hy | hy
                    · exact HL.out.c64 y hy
                    · rw [List.mem_singleton.1 hy]
                      have := HST.out.2.2
                      unfold I64
                      omega
              · have q2 : ¬ (i : Int) < (N : Int) := by omega
                have e5 : decide ((i : Int) < (N : Int)) = false := xF q2
                have hend := Cn.pf_end (m := m) (c := c) (acc := clsOf xs) (s := s) (i := i) (by rw [← HP.out.2.1]; omega)
                rw [HL.out.go] at hend
                have hqr := HL.out.q.own
                obtain ⟨va, vc, hvv⟩ := owns_form hqr
                subst hvv
                have hrows := HL.out.q.rows
                have hxl := HL.out.xl
                have hcL := clsOf_len xs
                obtain ⟨L, hL⟩ : ∃ L, L = clsOf xs := ⟨_, rfl⟩
                rw [← hL] at hend hcL hrows
                obtain ⟨M, hM⟩ : ∃ M, M = xs.length := ⟨_, rfl⟩
                rw [← hM] at hcL hrows hxl
                have hML : M = L.length := hcL.symm
                have hV64 : I64 V1 := by have := H2.out.2.2.2.2.2; rw [← HV.out.1] at this; unfold I64; omega
                have hck := rcheck_any wr ⟨V1, L⟩ va vc hrows.2.2.to (by show L.length ≤ _; omega) hV64
                have htx := fun V (hg : wr.grownBy V none) => rtext_any V ⟨V1, L⟩ va vc (hrows.2.2.to.on hg) (by show L.length ≤ _; omega) hV64
                obtain ⟨C, hC⟩ : ∃ C, C = Cn.check ⟨V1, L⟩ := ⟨_, rfl⟩
                obtain ⟨T, hT⟩ : ∃ T, T = Cn.textOf ⟨V1, L⟩ := ⟨_, rfl⟩
                rw [← hC] at hck
                rw [← hT] at htx
                simp only at hck htx
                rw [← hML] at hck htx
                have hpf : p = if C = 0 ∧ T = s then some ⟨V1, L⟩ else none := by
                  have e := HR.out.1
                  rw [hend] at e
                  rw [HP.out.1]
                  unfold Cn.pf
                  rw [e, hC, hT]
                  rfl
                have c0 : wr.cell? ⟨w.heap.size + 1, 0, none⟩ = some (.int .i64 V1) := cell_of_row _ _ 0 _ _ _ HL.out.q.rf
                have c1 : wr.cell? ⟨w.heap.size + 1, 1, none⟩ = some (.slice va M vc) := by rw [hM]; exact cell_of_row _ _ 1 _ _ _ HL.out.q.rf
                have rr := HL.out.q.res HR.out.2
                have hgr := Kp.grown HG4.out.1 HL.out.q.kp (fun k hk => by simp at hk; omega)
                obtain ⟨z, hz⟩ : ∃ z : ByteArray, z = ⟨T.toArray⟩ := ⟨_, rfl⟩
                rw [← hz] at htx
                have hzx : (z.toList == x.toList) = decide (T = s) := by
                  rw [hz, HP.out.2.2.2.2, ByteArray.toList_mk, ByteArray.toList_mk]
                  by_cases h : T = s
                  · rw [decide_eq_true h, beq_iff_eq]; exact h
                  · rw [decide_eq_false h, beq_eq_false_iff_ne]; exact h
                have HX := Lib.hid (And.intro htx (And.intro hrows.2.2 (And.intro rr (And.intro hgr (And.intro hpf hML)))))
                clear htx hrows rr hgr hpf hML hqr hxl hcL hL hM hV64 hC hT hend hz
                by_cases hC0 : C = 0
                · subst hC0
                  have HCK := Lib.hid hck
                  clear hck
                  by_cases hTs : T = s
                  · rw [decide_eq_true hTs] at hzx
                    have hp2 := HX.out.2.2.2.2.1
                    rw [if_pos ⟨rfl, hTs⟩] at hp2
                    subst hp2
                    clear hTs
                    go_wp2_with (first
                      | (go_at_call 12; refine HCK.out.mono ?_; rintro e w7 ⟨rfl, hg7⟩; have b0 := hg7.cell c0 (by simp); have b1 := hg7.cell c1 (by simp); have H7 := Lib.hid hg7; clear hg7 c0 c1)
                      | (go_at_call 22; refine (HX.out.1 _ H7.out).mono ?_; rintro e w8 ⟨rfl, hg8⟩; have c0 := hg8.cell b0 (by simp); have c1 := hg8.cell b1 (by simp); have r8 := ((H7.out.trans hg8).block _ (gl HX.out.2.2.1) (by simp)).trans HX.out.2.2.1; have t0 : w8.cell? ⟨w.heap.size, 0, none⟩ = some (.int .i64 0) := cell_of_row _ _ 0 _ _ _ r8; have t1 : w8.cell? ⟨w.heap.size, 1, none⟩ = some (.slice none 0 0) := cell_of_row _ _ 1 _ _ _ r8; have d0 := frozen_of_row _ _ 0 _ _ r8; have d1 := frozen_of_row _ _ 1 _ _ r8; have H8 := Lib.hid (And.intro (H7.out.trans hg8) r8); clear hg8 b0 b1 r8))
                    obtain ⟨Wf, hWf⟩ : ∃ Wf, Wf = (w8.setCell ⟨w.heap.size, 0, none⟩ (.int .i64 V1)).setCell ⟨w.heap.size, 1, none⟩ (.slice va M vc) := ⟨_, rfl⟩
                    have hf := res_set (HX.out.2.2.2.1.trans H8.out.1) H8.out.2 _ _ hWf
                    have y0 := hf.1
                    have y1 := hf.2.1
                    rw [← hWf]
                    clear hWf
                    have hrf : RowsAt Wf va L := (HX.out.2.1.onLt (w' := Wf) (fun k hk hp => (hf.2.2.2.block k (Nat.lt_of_lt_of_le hk H8.out.1.size) (by simp; have := gl HG4.out.2.1; omega)).trans (H8.out.1.block k hk (by simp)))).to
                    refine bodyPost_ret (v := .tuple #[.agg #[.int .i64 V1, .slice va M vc], .int .i64 0]) ?_ rfl ⟨va, vc, by show _ = Ending.returned (.tuple #[.agg #[.int .i64 V1, .slice va L.length vc], .int .i64 0]); rw [HX.out.2.2.2.2.2], hrf, hf.2.2.1⟩
                    simp [results, Tryd.results24, go_sem, y0, y1]
                  · rw [decide_eq_false hTs] at hzx
                    have hp2 := HX.out.2.2.2.2.1
                    rw [if_neg (by simp [hTs])] at hp2
                    subst hp2
                    clear hTs
                    go_wp2_with (first
                      | (go_at_call 12; refine HCK.out.mono ?_; rintro e w7 ⟨rfl, hg7⟩; have b0 := hg7.cell c0 (by simp); have b1 := hg7.cell c1 (by simp); have H7 := Lib.hid hg7; clear hg7 c0 c1)
                      | (go_at_call 22; refine (HX.out.1 _ H7.out).mono ?_; rintro e w8 ⟨rfl, hg8⟩; have r8 := ((H7.out.trans hg8).block _ (gl HX.out.2.2.1) (by simp)).trans HX.out.2.2.1; have t0 : w8.cell? ⟨w.heap.size, 0, none⟩ = some (.int .i64 0) := cell_of_row _ _ 0 _ _ _ r8; have t1 : w8.cell? ⟨w.heap.size, 1, none⟩ = some (.slice none 0 0) := cell_of_row _ _ 1 _ _ _ r8; have d0 := frozen_of_row _ _ 0 _ _ r8; have d1 := frozen_of_row _ _ 1 _ _ r8; have H8 := Lib.hid (And.intro (H7.out.trans hg8) r8); clear hg8 b0 b1 r8))
                    obtain ⟨Wf, hWf⟩ : ∃ Wf, Wf = (w8.setCell ⟨w.heap.size, 0, none⟩ (.int .i64 0)).setCell ⟨w.heap.size, 1, none⟩ (.slice none 0 0) := ⟨_, rfl⟩
                    have hf := res_set (HX.out.2.2.2.1.trans H8.out.1) H8.out.2 _ _ hWf
                    have y0 := hf.1
                    have y1 := hf.2.1
                    rw [← hWf]
                    clear hWf
                    refine bodyPost_ret (v := .tuple #[.agg #[.int .i64 0, .slice none 0 0], .int .i64 40]) ?_ rfl ⟨rfl, hf.2.2.1⟩
                    simp [results, Tryd.results24, go_sem, y0, y1]
                · have e6 : (C != 0) = true := by simp [hC0]
                  have hp2 := HX.out.2.2.2.2.1
                  rw [if_neg (by simp [hC0])] at hp2
                  subst hp2
                  have HCK := Lib.hid hck
                  clear hck hzx
                  go_wp2_with (go_at_call 12; refine HCK.out.mono ?_; rintro e w7 ⟨rfl, hg7⟩; have r7 := (hg7.block _ (gl HX.out.2.2.1) (by simp)).trans HX.out.2.2.1; have t0 : w7.cell? ⟨w.heap.size, 0, none⟩ = some (.int .i64 0) := cell_of_row _ _ 0 _ _ _ r7; have t1 : w7.cell? ⟨w.heap.size, 1, none⟩ = some (.slice none 0 0) := cell_of_row _ _ 1 _ _ _ r7; have d0 := frozen_of_row _ _ 0 _ _ r7; have d1 := frozen_of_row _ _ 1 _ _ r7; have H7 := Lib.hid (And.intro hg7 r7); clear hg7 r7 c0 c1)
                  obtain ⟨Wf, hWf⟩ : ∃ Wf, Wf = (w7.setCell ⟨w.heap.size, 0, none⟩ (.int .i64 0)).setCell ⟨w.heap.size, 1, none⟩ (.slice none 0 0) := ⟨_, rfl⟩
                  have hf := res_set (HX.out.2.2.2.1.trans H7.out.1) H7.out.2 _ _ hWf
                  have y0 := hf.1
                  have y1 := hf.2.1
                  rw [← hWf]
                  clear hWf
                  refine bodyPost_ret (v := .tuple #[.agg #[.int .i64 0, .slice none 0 0], .int .i64 40]) ?_ rfl ⟨rfl, hf.2.2.1⟩
                  simp [results, Tryd.results24, go_sem, y0, y1]
          · rw [if_pos (.inr (by omega))] at hpr
            rw [Cn.pf_none1 hpr] at HP
            obtain rfl := HP.out.1
            have q2 : (N : Int) ≤ (k2 : Int) := by omega
            have e5 : decide ((N : Int) ≤ (k2 : Int)) = true := xT q2
            have t0 : w4.cell? ⟨w.heap.size, 0, none⟩ = some (.int .i64 0) := cell_of_row _ _ 0 _ _ _ r4
            have t1 : w4.cell? ⟨w.heap.size, 1, none⟩ = some (.slice none 0 0) := cell_of_row _ _ 1 _ _ _ r4
            have d0 := frozen_of_row _ _ 0 _ _ r4
            have d1 := frozen_of_row _ _ 1 _ _ r4
            clear r4 hpr
            go_wp2
            obtain ⟨Wf, hWf⟩ : ∃ Wf, Wf = (w4.setCell ⟨w.heap.size, 0, none⟩ (.int .i64 0)).setCell ⟨w.heap.size, 1, none⟩ (.slice none 0 0) := ⟨_, rfl⟩
            have hf := res_set HG4.out.1 HG4.out.2.1 _ _ hWf
            have y0 := hf.1
            have y1 := hf.2.1
            rw [← hWf]
            clear hWf
            refine bodyPost_ret (v := .tuple #[.agg #[.int .i64 0, .slice none 0 0], .int .i64 40]) ?_ rfl ⟨rfl, hf.2.2.1⟩
            simp [results, Tryd.results24, go_sem, y0, y1]
      · rw [Cn.pf_none1 (Cn.pfR_w1 (by rw [← HP.out.2.1]; omega) HP.out.2.2.1 H2.out.2.2.1 (.inr (by rw [← HP.out.2.1]; omega)))] at HP
        obtain rfl := HP.out.1
        have q2 : (N : Int) ≤ (k : Int) := by omega
        have e5 : decide ((N : Int) ≤ (k : Int)) = true := xT q2
        have t0 : w2.cell? ⟨w.heap.size, 0, none⟩ = some (.int .i64 0) := cell_of_row _ _ 0 _ _ _ r2
        have t1 : w2.cell? ⟨w.heap.size, 1, none⟩ = some (.slice none 0 0) := cell_of_row _ _ 1 _ _ _ r2
        have d0 := frozen_of_row _ _ 0 _ _ r2
        have d1 := frozen_of_row _ _ 1 _ _ r2
        clear r2 hV1 hb1
        go_wp2
        obtain ⟨Wf, hWf⟩ : ∃ Wf, Wf = (w2.setCell ⟨w.heap.size, 0, none⟩ (.int .i64 0)).setCell ⟨w.heap.size, 1, none⟩ (.slice none 0 0) := ⟨_, rfl⟩
        have hf := res_set HG2.out.1 HG2.out.2.1 _ _ hWf
        have y0 := hf.1
        have y1 := hf.2.1
        rw [← hWf]
        clear hWf
        refine bodyPost_ret (v := .tuple #[.agg #[.int .i64 0, .slice none 0 0], .int .i64 40]) ?_ rfl ⟨rfl, hf.2.2.1⟩
        simp [results, Tryd.results24, go_sem, y0, y1]
  · have e4 : (y.toList == [112, 32, 99, 110, 102, 32]) = false := by rw [hyl, beq_eq_false_iff_ne]; exact h6
    rw [Cn.pf_none1 (Cn.pfR_head h6)] at hp
    subst hp
    have t0 : W0.cell? ⟨w.heap.size, 0, none⟩ = some (.int .i64 0) := cell_of_row _ _ 0 _ _ _ r0
    have t1 : W0.cell? ⟨w.heap.size, 1, none⟩ = some (.slice none 0 0) := cell_of_row _ _ 1 _ _ _ r0
    have d0 := frozen_of_row _ _ 0 _ _ r0
    have d1 := frozen_of_row _ _ 1 _ _ r0
    have HG := Lib.hid (And.intro hg0 r0)
    clear hN hwd hN0 hl h7 hg0 r0 hx h6 hy hyl
    go_enter Tryd.func24, Tryd.ntmps24
    go_upto_region 3 with fail
    rw [← hW0]
    clear hW0
    go_wp2
    obtain ⟨Wf, hWf⟩ : ∃ Wf, Wf = (W0.setCell ⟨w.heap.size, 0, none⟩ (.int .i64 0)).setCell ⟨w.heap.size, 1, none⟩ (.slice none 0 0) := ⟨_, rfl⟩
    have hf := res_set HG.out.1 HG.out.2 _ _ hWf
    have y0 := hf.1
    have y1 := hf.2.1
    rw [← hWf]
    clear hWf
    refine bodyPost_ret (v := .tuple #[.agg #[.int .i64 0, .slice none 0 0], .int .i64 40]) ?_ rfl ⟨rfl, hf.2.2.1⟩
    simp [results, Tryd.results24, go_sem, y0, y1]
end Go.Proofs.YtdhgopcfjomjaaaDoor
