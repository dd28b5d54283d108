/- metronomelaw23.CnfMeans: the walk. -/
import Derived.Test.YtdhgopcfjomjaaaDoorCpC
namespace Go.Proofs.YtdhgopcfjomjaaaDoor
open Go.RowKit Go.Maps Go.WideMaps
open Cn (I64)

theorem info_b : (Tryd.prog.info? 4).map (fun i => (i.zero, i.size, i.bytes)) = some (some (.bool false), 1, 1) := by kernel_rfl
theorem get_of_take {l xs : List Value} {n i : Nat} (h : l.take n = xs) (hi : i < n) : l[i]? = xs[i]? := by
  rw [← h, List.getElem?_take, if_pos hi]
theorem bools_own {W : World} {B n : Nat} {v : Value} {l : List Bool} (h : W.ownsRow B 4 1 v n (l.map .bool)) (h1 : 0 < n) :
    ∃ g c cur, v = .slice (some ⟨g, 0, none⟩) n c ∧ B ≤ g ∧ W.heap[g]? = some (.cells cur 4 (0, 0)) ∧ cur.toList.take n = l.map .bool ∧ n ≤ cur.size ∧ l.length = n := by
  rcases h.2 with ⟨rfl, h0⟩ | ⟨g, cap, cur, rfl, hB, hh, hc1, hc2, hc3, hc4⟩
  · omega
  · rw [Nat.mul_one] at hc4
    exact ⟨g, cap, cur, rfl, hB, hh, hc4, by omega, by have := h.1; rw [List.length_map] at this; omega⟩
theorem bools_cur {W : World} {g n : Nat} {cur : Array Value} {l : List Bool} (hh : W.heap[g]? = some (.cells cur 4 (0, 0))) (ht : cur.toList.take n = l.map .bool) (hl : l.length = n) : BoolsAt W (some ⟨g, 0, none⟩) l := fun i b hi => by
  have hi2 : i < n := by rw [← hl]; exact (List.getElem?_eq_some_iff.1 hi).1
  have e := get_of_take ht hi2
  rw [List.getElem?_map, hi] at e
  refine ⟨g, 0, rfl, ?_⟩
  rw [Nat.zero_add, cell_of_row W g i _ _ _ hh, ← Array.getElem?_toList, e]
  rfl
theorem bools_flip {W : World} {g n k : Nat} {cur : Array Value} {l : List Bool} (b : Bool) (hh : W.heap[g]? = some (.cells cur 4 (0, 0))) (ht : cur.toList.take n = l.map .bool) (hl : l.length = n) (_hn : n ≤ cur.size) (_hk : k < n) :
    (W.setCell ⟨g, k, none⟩ (.bool b)).heap[g]? = some (.cells (cur.setIfInBounds k (.bool b)) 4 (0, 0)) ∧ BoolsAt (W.setCell ⟨g, k, none⟩ (.bool b)) (some ⟨g, 0, none⟩) (l.set k b) := by
  have h1 : (W.setCell ⟨g, k, none⟩ (.bool b)).heap[g]? = some (.cells (cur.setIfInBounds k (.bool b)) 4 (0, 0)) := heap_setCell_same _ _ _ _ _ _ hh
  refine ⟨h1, bools_cur h1 (n := n) ?_ (by rw [List.length_set]; exact hl)⟩
  rw [Array.toList_setIfInBounds, List.take_set, ht, List.map_set]

set_option maxRecDepth 100000 in
set_option maxHeartbeats 8000000 in
theorem cnfMeans_run (w : World) (n : List Cn.Gt) (na : Option Addr) (nc : Nat) (ws : List Int) (wa : Option Addr) (wc : Nat) (ins : List Bool) (ia : Option Addr) (ic : Nat) (turn : Int) (hG : GatesAt w na n) (hn : n.length ≤ 140737488351232) (hW : NumsAt w wa ws) (hw63 : ws.length ≤ 9223372036854775807) (hI : BoolsAt w ia ins) (hi63 : ins.length ≤ 9223372036854775807) (h64 : I64 turn) (ht : Tab w) :
    Calls Tryd.prog 5 #[.agg #[.slice na n.length nc], .slice wa ws.length wc, .slice ia ins.length ic, .int .i64 turn] w fun e w' => e = .returned (.bool true) ∧ w.grownBy w' none := by
  obtain ⟨W0, hW0⟩ : ∃ W0, W0 = w.alloc (.cells #[.slice na n.length nc] 35) := ⟨_, rfl⟩
  have hg0 : w.grownBy W0 none := by rw [hW0]; exact World.grownBy_alloc _ _ _
  have c0 : W0.cell? ⟨w.heap.size, 0, none⟩ = some (.slice na n.length nc) := by rw [hW0]; simp
  have hal := alive23_any W0 (ht.on hg0)
  have hbg := fun V => bigN_any V na n.length nc hn
  have hnum := fun k V => num23_any k V
  have HH := Lib.hid (And.intro hal (And.intro hbg hg0))
  have HGW := Lib.hid (And.intro hG (And.intro hW hI))
  obtain ⟨N, hN⟩ : ∃ N, N = n.length := ⟨_, rfl⟩
  obtain ⟨M, hM⟩ : ∃ M, M = ws.length := ⟨_, rfl⟩
  obtain ⟨I, hIl⟩ : ∃ I, I = ins.length := ⟨_, rfl⟩
  rw [← hN] at HH c0 hW0
  rw [← hN, ← hM, ← hIl]
  rw [← hM] at hw63
  rw [← hIl] at hi63
  have HN := Lib.hid (And.intro hN (And.intro hM hIl))
  clear hal hbg hG hW hI ht hg0 hn
  by_cases hb : 5000 < N
  · have hbg2 := fun V => by have := HH.out.2.1 V; rw [xT hb] at this; exact this
    have HBG := Lib.hid hbg2
    clear hb hbg2 hN hM hIl
    go_enter Tryd.func5, Tryd.ntmps5
    go_wp2_with (first
      | (rw [← hW0]; go_at_call 8; refine HH.out.1.mono ?_; rintro e w1 ⟨rfl, hg1⟩; have d0 := hg1.cell c0 (by simp); have H1 := Lib.hid hg1; clear hg1 c0)
      | (go_at_call 15; refine (HBG.out _).mono ?_; rintro e w2 ⟨rfl, hg2⟩; have H2 := Lib.hid hg2; clear hg2))
    go_ret
    exact ⟨rfl, HH.out.2.2.trans (H1.out.trans H2.out)⟩
  · have hbg2 := fun V => by have := HH.out.2.1 V; rw [xF hb] at this; exact this
    have HBG := Lib.hid hbg2
    by_cases hk : 100 < M
    · have e1 : decide ((100 : Int) < (M : Int)) = true := xT (by omega)
      clear hb hbg2 hN hM hk hIl
      go_enter Tryd.func5, Tryd.ntmps5
      go_wp2_with (first
        | (rw [← hW0]; go_at_call 8; refine HH.out.1.mono ?_; rintro e w1 ⟨rfl, hg1⟩; have d0 := hg1.cell c0 (by simp); have H1 := Lib.hid hg1; clear hg1 c0)
        | (go_at_call 15; refine (HBG.out _).mono ?_; rintro e w2 ⟨rfl, hg2⟩; have H2 := Lib.hid hg2; clear hg2))
      go_ret
      exact ⟨rfl, HH.out.2.2.trans (H1.out.trans H2.out)⟩
    · have e1 : decide ((100 : Int) < (M : Int)) = false := xF (by omega)
      by_cases hneg : turn < 0
      · have e2 : decide (turn < 0) = true := xT hneg
        clear hb hbg2 hN hM hk hIl hneg
        go_enter Tryd.func5, Tryd.ntmps5
        go_wp2_with (first
          | (rw [← hW0]; go_at_call 8; refine HH.out.1.mono ?_; rintro e w1 ⟨rfl, hg1⟩; have d0 := hg1.cell c0 (by simp); have H1 := Lib.hid hg1; clear hg1 c0)
          | (go_at_call 15; refine (HBG.out _).mono ?_; rintro e w2 ⟨rfl, hg2⟩; have H2 := Lib.hid hg2; clear hg2))
        go_ret
        exact ⟨rfl, HH.out.2.2.trans (H1.out.trans H2.out)⟩
      · have e2 : decide (turn < 0) = false := xF hneg
        have hev := fun V (hg : w.grownBy V none) => reval_any V na n nc ia ins ic (HGW.out.1.on hg) (by rw [← hN]; omega) (HGW.out.2.2.on hg) (by rw [← hIl]; exact hi63)
        rw [← hN, ← hIl] at hev
        have HEV := Lib.hid hev
        have HB := Lib.hid (And.intro (show N ≤ 5000 by omega) (And.intro (show M ≤ 100 by omega) (And.intro (show 0 ≤ turn by omega) h64)))
        have hN64 : N ≤ 9223372036854775807 := by omega
        clear hb hbg2 hN hM hk hIl hneg hev h64
        go_enter Tryd.func5, Tryd.ntmps5
        go_upto_region 5 with (first
          | (rw [← hW0]; go_at_call 8; refine HH.out.1.mono ?_; rintro e w1 ⟨rfl, hg1⟩; have d0 := hg1.cell c0 (by simp); have H1 := Lib.hid hg1; clear hg1 c0 hW0)
          | (go_at_call 15; refine (HBG.out _).mono ?_; rintro e w2 ⟨rfl, hg2⟩; have b0 := hg2.cell d0 (by simp); have H2 := Lib.hid (HH.out.2.2.trans (H1.out.trans hg2)); clear hg2 d0))
        go_upto_region 6 with (go_at_call 19; refine (HEV.out _ H2.out).mono ?_; rintro e w3 ⟨hg3, va, kv, cv, x, rfl, hx⟩; have b1 := hg3.cell b0 (by simp); have H3 := Lib.hid (And.intro hg3 hx); clear hg3 hx b0)
        by_cases hx0 : x = 0
        · subst hx0
          obtain ⟨hne, ⟨bv, ov, rfl⟩, v, rfl, hvl, hgood, hbv⟩ : Cn.netE n = 0 ∧ (∃ b o, va = some ⟨b, o, none⟩) ∧ ∃ v : List Bool, kv = n.length ∧ v.length = n.length ∧ Cn.Good n v ∧ BoolsAt w3 va v := H3.out.2.elim (fun h => absurd rfl h) (fun h => h.2)
          have hg3 := H2.out.trans H3.out.1
          have HV := Lib.hid (And.intro hne (And.intro hvl (And.intro hgood (And.intro hbv hg3))))
          rw [← HN.out.1] at hvl ⊢
          have hw2 : wrap64 (2 * (N : Int)) = 2 * (N : Int) := by have := HB.out.1; unfold wrap64; omega
          clear hne hgood hbv hg3
          have HVL := Lib.hid hvl
          clear hvl H3
          go_wp2
          go_loopw [13, 14] (fun av iv wr => ∃ t : Nat, t ≤ M ∧ (∃ bb : Bool, av = .bool bb ∧ Hid (bb = (ws.take t).all (Cn.wire v))) ∧ iv = .int .i64 (t : Int) ∧ Hid (w3.grownBy wr none ∧ Cn.wiresOk n (ws.take t) = true)) (fun _ iv _ => M - (intOf iv).toNat)
          case atStart => exact ⟨0, Nat.zero_le _, ⟨true, rfl, Lib.hid rfl⟩, rfl, Lib.hid ⟨World.grownBy.refl _ _, rfl⟩⟩
          case round =>
            obtain ⟨t, htt, ⟨bb, rfl, HA⟩, rfl, HT⟩ := hrel
            have b2 := HT.out.1.cell b1 (by simp)
            by_cases hlt : t < M
            · obtain ⟨x, hx⟩ : ∃ x, ws[t]? = some x := ⟨_, List.getElem?_eq_getElem (by rw [← HN.out.2.1]; exact hlt)⟩
              obtain ⟨b, o, rfl, hc⟩ := (HGW.out.2.1.on (HV.out.2.2.2.2.trans HT.out.1)) t x hx
              have hst := all_step (fun w => decide (0 ≤ w) && decide (w < 2 * (n.length : Int))) hx
              have hst2 := all_step (Cn.wire v) hx
              have HS := Lib.hid (And.intro hst hst2)
              clear hst hst2 hx
              by_cases h1 : x < 0
              · have e3 : decide (x < 0) = true := xT h1
                clear h1 hw2
                go_wp2
                go_ret
                exact ⟨rfl, HV.out.2.2.2.2.trans HT.out.1⟩
              · have e3 : decide (x < 0) = false := xF h1
                by_cases h2 : 2 * (N : Int) ≤ x
                · have e4 : decide (2 * (N : Int) ≤ x) = true := xT h2
                  clear h1 h2
                  go_wp2
                  go_ret
                  exact ⟨rfl, HV.out.2.2.2.2.trans HT.out.1⟩
                · have e4 : decide (2 * (N : Int) ≤ x) = false := xF h2
                  have HX : Hid ((decide (0 ≤ x) && decide (x < 2 * (n.length : Int))) = true) := Lib.hid (by rw [← HN.out.1, xT (show 0 ≤ x by omega), xT (show x < 2 * (N : Int) by omega)]; rfl)
                  have hwi := wire_any x v (some ⟨bv, ov, none⟩) cv (by omega) (by rw [HVL.out]; omega) (by rw [HVL.out]; have := HB.out.1; omega) wr (HV.out.2.2.2.1.on HT.out.1)
                  rw [HVL.out] at hwi
                  obtain ⟨y, hy⟩ : ∃ y, y = Cn.wire v x := ⟨_, rfl⟩
                  rw [← hy] at hwi
                  have HY := Lib.hid (And.intro hy hwi)
                  clear h1 h2 hwi hy
                  cases bb with
                  | true =>
                    go_wp2_with (go_at_call 20; refine HY.out.2.mono ?_; rintro e w8 ⟨rfl, hw8⟩; obtain rfl := hw8.symm)
                    refine ⟨⟨t + 1, by omega, ⟨y, rfl, Lib.hid ?_⟩, by go_num, Lib.hid ⟨HT.out.1, ?_⟩⟩, by simp [intOf]; omega⟩
                    · rw [HS.out.2, ← HA.out, HY.out.1]; rfl
                    · unfold Cn.wiresOk
                      have := HT.out.2
                      unfold Cn.wiresOk at this
                      rw [HS.out.1, HX.out, this]; rfl
                  | false =>
                    go_wp2_with (go_at_call 20; refine HY.out.2.mono ?_; rintro e w8 ⟨rfl, hw8⟩; obtain rfl := hw8.symm)
                    refine ⟨⟨t + 1, by omega, ⟨false, rfl, Lib.hid ?_⟩, by go_num, Lib.hid ⟨HT.out.1, ?_⟩⟩, by simp [intOf]; omega⟩
                    · rw [HS.out.2, ← HA.out]; rfl
                    · unfold Cn.wiresOk
                      have := HT.out.2
                      unfold Cn.wiresOk at this
                      rw [HS.out.1, HX.out, this]; rfl
            · obtain rfl : t = M := by omega
              have hwr := HV.out.2.2.2.2.trans HT.out.1
              have hwo := HT.out.2
              have hal := HA.out
              rw [HN.out.2.1, List.take_length] at hwo hal
              have hof := of_any wr na n nc wa ws wc (HGW.out.1.on hwr) (HGW.out.2.1.on hwr) (by rw [← HN.out.1]; exact HB.out.1) (by rw [← HN.out.2.1]; have := HB.out.2.1; omega)
              unfold ofV at hof
              rw [if_pos HV.out.1, if_pos hwo] at hof
              obtain ⟨L, hL⟩ : ∃ L, L = Cn.ofC n ws := ⟨_, rfl⟩
              simp only [← hL] at hof
              rw [← HN.out.1, ← HN.out.2.1] at hof
              have hLl : L.length ≤ 60000 := by
                rw [hL]
                have h1 := Cn.wt_len (Cn.ofC n ws)
                have h2 := Cn.ofC_wt n ws
                have h3 := HB.out
                have h4 := HN.out
                omega
              obtain ⟨K, hK⟩ : ∃ K, K = L.length := ⟨_, rfl⟩
              have hg1 : Cn.holds ⟨N, L⟩ (false :: v) = bb := by rw [hal, HN.out.1, hL]; exact Cn.holds_good HV.out.1 hwo HV.out.2.1 HV.out.2.2.1 (by have h3 := HB.out; have h4 := HN.out; omega)
              have HQ := Lib.hid (And.intro hof (And.intro hwr (And.intro hL (And.intro hLl (And.intro hg1 hK)))))
              have hl63 : L.length ≤ 9223372036854775807 := by omega
              clear hwr hwo hal hof hL hLl hg1 hw2 hK hw63
              go_upto_region 17 with (go_at_call 16; refine HQ.out.1.mono ?_; rintro e w4 ⟨fa, fc, rfl, hlc4, hr4, hg4⟩; have b3 := hg4.cell b2 (by simp); have H4 := Lib.hid (And.intro hr4 (And.intro hg4 hlc4)); clear hr4 hg4 hlc4 b2 b1)
              obtain ⟨W4, hW4⟩ : ∃ W4, W4 = w4.alloc (.cells #[.int .i64 (N : Int), .slice fa L.length fc] 24) := ⟨_, rfl⟩
              have hgW4 : w4.grownBy W4 none := by rw [hW4]; exact World.grownBy_alloc _ _ _
              have f0 : W4.cell? ⟨w4.heap.size, 0, none⟩ = some (.int .i64 (N : Int)) := by rw [hW4]; simp
              have f1 : W4.cell? ⟨w4.heap.size, 1, none⟩ = some (.slice fa L.length fc) := by rw [hW4]; simp
              have b4 := hgW4.cell b3 (by simp)
              have hr4 := H4.out.1.to.on hgW4
              have hw34 := HT.out.1.trans (H4.out.2.1.trans hgW4)
              rw [← hW4]
              clear hW4 b3
              have ho4 : (W4.alloc (.cells #[.bool false] 4)).ownsRow W4.heap.size 4 1 (.slice (some ⟨W4.heap.size, 0, none⟩) 1 1) 1 [.bool false] := ⟨rfl, .inr ⟨_, 1, #[.bool false], rfl, Nat.le_refl _, heap_alloc_new _ _, Nat.le_refl _, by decide, rfl, rfl⟩⟩
              have hgl := World.grownBy_alloc W4 (.cells #[.bool false] 4) none
              have hnews : ∀ j u, (v.map Value.bool)[j]? = some u → (W4.alloc (.cells #[.bool false] 4)).cell? ((⟨bv, ov, none⟩ : Addr).add j) = some u := fun j u hu => by
                rw [List.getElem?_map] at hu
                obtain ⟨y, hy, rfl⟩ := Option.map_eq_some_iff.1 hu
                obtain ⟨b', o', e', hc'⟩ := HV.out.2.2.2.1 j y hy
                cases e'
                rw [addr_at]
                exact (hw34.trans hgl).cell hc' (by simp)
              have HP := Lib.hid (And.intro hr4 (And.intro hw34 (And.intro ho4 (And.intro hnews hgl))))
              have hB4 : W4.heap.size ≤ (W4.alloc (.cells #[.bool false] 4)).heap.size := by rw [World.size_alloc]; omega
              have hb63 : 1 + N ≤ maxLen := by have := HB.out.1; unfold maxLen; omega
              have hbby : (1 + N) * 1 ≤ 140737488355328 := by have := HB.out.1; omega
              have HBB := Lib.hid (And.intro hB4 (And.intro hb63 hbby))
              have hvl1 : (v.map Value.bool).length = N * 1 := by rw [List.length_map, HVL.out, Nat.mul_one]
              have HVM := Lib.hid hvl1
              obtain ⟨it, hit, hz, hsz, hby⟩ := info_parts info_b
              clear hr4 hw34 ho4 hgl hnews hgW4 hB4 hb63 hbby hvl1
              go_upto_region 20 with (first
                | (go_at_call 11; refine (hnum _ _).mono ?_; rintro e w9 ⟨rfl, hw9⟩; obtain rfl := hw9.symm)
                | (at_builtin; refine wpList_append_own _ rfl _ _ 25 rfl W4.heap.size 4 it _ 1 1 Tryd.underlying25 hit hz hsz hby rfl (by decide) _ 1 [.bool false] rfl HP.out.2.2.1 ⟨bv, ov, none⟩ N cv (v.map Value.bool) rfl HVM.out HP.out.2.2.2.1 (fun u hu => by obtain ⟨y, _, rfl⟩ := List.mem_map.1 hu; rfl) HBB.out.2.1 HBB.out.2.2 HBB.out.1 ?_; intro v' w5 ho5 hg5 _; have H5 := Lib.hid (And.intro ho5 hg5); clear ho5 hg5))
              obtain ⟨g, mc, cur, rfl, hB5, hh5, ht5, hcs5, hl5⟩ := bools_own (l := false :: v) (by simpa using H5.out.1) (by omega)
              have hg45 : W4.grownBy w5 none := grown_ov HP.out.2.2.2.2 H5.out.2 (fun k e => by cases e; exact Nat.le_refl _)
              have hho := fun V (hV : W4.grownBy V none) (m : List Bool) (hm : m.length = 1 + N) (hmb : BoolsAt V (some ⟨g, 0, none⟩) m) => holds_any V ⟨N, L⟩ fa fc (some ⟨g, 0, none⟩) m mc (HP.out.1.on hV) (by have := HQ.out.2.2.2.1; show L.length ≤ _; omega) (by have h3 := HB.out.1; constructor <;> (show _ ≤ _) <;> simp only <;> omega) hmb (by have := HB.out.1; omega)
              have h51 := hho w5 hg45 (false :: v) hl5 (bools_cur hh5 ht5 hl5)
              rw [hl5, HQ.out.2.2.2.2.1] at h51
              have hf5 := hg45.cell f0 (by simp)
              have hf51 := hg45.cell f1 (by simp)
              have b5 := hg45.cell b4 (by simp)
              have H6 := Lib.hid (And.intro hB5 (And.intro hh5 (And.intro ht5 (And.intro hcs5 (And.intro hl5 (And.intro hg45 (And.intro hho h51)))))))
              have e6 : (bb != bb) = false := by simp
              have HC4 := Lib.hid (And.intro b4 (And.intro f0 f1))
              clear hB5 hh5 ht5 hcs5 hl5 hg45 hho h51 b4 f0 f1 hit hz hsz hby
              go_upto_region 22 with (go_at_call 13; refine H6.out.2.2.2.2.2.2.2.mono ?_; rintro e w6 ⟨rfl, hg6⟩; have k0 := hg6.cell hf5 (by simp); have k1 := hg6.cell hf51 (by simp); have k2 := hg6.cell b5 (by simp); have H7 := Lib.hid (And.intro (H6.out.2.2.2.2.2.1.trans hg6) ((hg6.block _ (gl H6.out.2.1) (by simp)).trans H6.out.2.1)); clear hg6 hf5 hf51 b5)
              have hww6 : w.grownBy w6 none := HV.out.2.2.2.2.trans (HP.out.2.1.trans H7.out.1)
              by_cases hN0 : N = 0
              · have e7 : ((N : Int) == 0) = true := by simp [hN0]
                go_wp2
                go_ret
                exact ⟨rfl, hww6⟩
              · have e7 : ((N : Int) == 0) = false := by simp [hN0]
                obtain ⟨k, hk, hkN⟩ : ∃ k : Nat, Int.tmod turn (N : Int) = (k : Int) ∧ k < N := by
                  have h0 := HB.out.2.2.1
                  have hp : (0 : Int) < (N : Int) := by omega
                  have e8 : Int.tmod turn (N : Int) = turn % (N : Int) := Int.tmod_eq_emod_of_nonneg h0
                  have h1 := Int.emod_nonneg turn (show (N : Int) ≠ 0 by omega)
                  have h2 := Int.emod_lt_of_pos turn hp
                  exact ⟨(turn % (N : Int)).toNat, by rw [e8]; omega, by omega⟩
                have w8 : wrap64 (k : Int) = (k : Int) := by have := HB.out.1; unfold wrap64; omega
                have hk1N : k + 1 < 1 + N := by omega
                obtain ⟨y, hy⟩ : ∃ y, y = v.getD k false := ⟨_, rfl⟩
                have c9 : w6.cell? ⟨g, k + 1, none⟩ = some (.bool y) := by
                  rw [cell_of_row _ _ (k + 1) _ _ _ H7.out.2, ← Array.getElem?_toList, get_of_take H6.out.2.2.1 hk1N, hy, List.map_cons, List.getElem?_cons_succ, List.getElem?_map, List.getElem?_eq_getElem (by rw [HVL.out]; exact hkN)]
                  simp [List.getD_eq_getElem?_getD, List.getElem?_eq_getElem (show k < v.length by rw [HVL.out]; exact hkN)]
                have f9 := frozen_of_row w6 g (k + 1) _ _ H7.out.2
                obtain ⟨W7, hW7⟩ : ∃ W7, W7 = w6.setCell ⟨g, k + 1, none⟩ (.bool !y) := ⟨_, rfl⟩
                have hfl := bools_flip (!y) H7.out.2 H6.out.2.2.1 H6.out.2.2.2.2.1 H6.out.2.2.2.1 hk1N
                rw [← hW7, List.set_cons_succ] at hfl
                have hg47 : W4.grownBy W7 none := by rw [hW7]; exact grown_ov H7.out.1 (grown_set _ _ _) (fun k e => by cases e; exact H6.out.1)
                have hgw7 : w.grownBy W7 none := HV.out.2.2.2.2.trans (HP.out.2.1.trans hg47)
                have hho := H6.out.2.2.2.2.2.2.1 W7 hg47 (false :: v.set k !y) (by rw [List.length_cons, List.length_set, HVL.out]; omega) hfl.2
                obtain ⟨gt, hgt⟩ : ∃ gt, n[k]? = some gt := ⟨_, List.getElem?_eq_getElem (by rw [← HN.out.1]; exact hkN)⟩
                have H8 := Lib.hid (And.intro hg47 (And.intro hgw7 (And.intro hho (And.intro hgt hy))))
                obtain ⟨gb, go, rfl, hop, _, _, _⟩ := (HGW.out.1.on hgw7) k gt hgt
                have b7 := hg47.cell HC4.out.1 (by simp)
                have m0 := hg47.cell HC4.out.2.1 (by simp)
                have m1 := hg47.cell HC4.out.2.2 (by simp)
                clear hfl hg47 hgw7 hho hgt hy
                go_upto_region 26 with fail
                rw [← hW7]
                clear hW7 k0 k1 k2 c9 f9
                by_cases h2 : gt.op = 2
                · have e9 : (gt.op == 2) = true := by simp [h2]
                  clear h2
                  go_wp2
                  go_ret
                  exact ⟨rfl, H8.out.2.1⟩
                · have e9 : (gt.op == 2) = false := by simp [h2]
                  have hbad : Cn.holds ⟨N, L⟩ (false :: v.set k !y) = false := by rw [H8.out.2.2.2.2, HN.out.1, HQ.out.2.2.1]; exact Cn.holds_bad HV.out.1 HV.out.2.1 HV.out.2.2.1 H8.out.2.2.2.1 h2
                  have hh := H8.out.2.2.1
                  rw [hbad, List.length_cons, List.length_set, HVL.out, Nat.add_comm N 1] at hh
                  have HH9 := Lib.hid hh
                  clear h2 hbad hh
                  go_wp2_with (go_at_call 13; refine HH9.out.mono ?_; rintro e w9 ⟨rfl, hg9⟩; have H9 := Lib.hid hg9; clear hg9)
                  go_ret
                  exact ⟨rfl, H8.out.2.1.trans H9.out⟩
        · have e5 : (x != 0) = true := by simp [hx0]
          clear hx0
          go_wp2
          go_ret
          exact ⟨rfl, H2.out.trans H3.out.1⟩
end Go.Proofs.YtdhgopcfjomjaaaDoor
