/- metronomelaw23.CnfOf: the walk. -/
import Derived.Test.YtdhgopcfjomjaaaDoorCoE
import Derived.Test.YtdhgopcfjomjaaaDoorCnU
namespace Go.Proofs.YtdhgopcfjomjaaaDoor
open Go.RowKit Go.Maps Go.WideMaps
open Cn (I64)

theorem GatesAt.bl {B : Nat} {W wr : World} {a : Option Addr} {l : List Cn.Gt} (h : GatesAt W a l) (hb : Below B W wr) (hB : W.heap.size ≤ B) : GatesAt wr a l := fun i x hi => by
  obtain ⟨b, o, e, h1, h2, h3, h4⟩ := h i x hi
  have hk := hb.block b (Nat.lt_of_lt_of_le (lt_of_some h1) hB)
  exact ⟨b, o, e, (cell_of_block hk).trans h1, (cell_of_block hk).trans h2, (cell_of_block hk).trans h3, h4⟩
theorem below_on {B : Nat} {w W wr : World} (hg : w.grownBy W none) (hb : Below B W wr) (hB : w.heap.size ≤ B) : w.grownBy wr none :=
  ⟨hb.os.trans hg.os, hb.tape.trans hg.tape, hb.output.trans hg.output, Nat.le_trans hg.size hb.size, fun k hk _ => (hb.block k (by omega)).trans (hg.block k hk (by simp))⟩

set_option maxRecDepth 100000 in
set_option maxHeartbeats 8000000 in
theorem cnfOf_run (w : World) (n : List Cn.Gt) (na : Option Addr) (nc : Nat) (ws : List Int) (wa : Option Addr) (wc : Nat) (hG : GatesAt w na n) (hn : n.length ≤ 140737488351232) (hW : NumsAt w wa ws) (hw63 : ws.length ≤ 9223372036854775807) (ht : Tab w) :
    Calls Tryd.prog 4 #[.agg #[.slice na n.length nc], .slice wa ws.length wc] w fun e w' => e = .returned (.bool true) ∧ w.grownBy w' none := by
  obtain ⟨W0, hW0⟩ : ∃ W0, W0 = w.alloc (.cells #[.slice na n.length nc] 35) := ⟨_, rfl⟩
  have hg0 : w.grownBy W0 none := by rw [hW0]; exact World.grownBy_alloc _ _ _
  have c0 : W0.cell? ⟨w.heap.size, 0, none⟩ = some (.slice na n.length nc) := by rw [hW0]; simp
  have hal := alive23_any W0 (ht.on hg0)
  have hbg := fun V => bigN_any V na n.length nc hn
  have hnum := fun k V => num23_any k V
  have HH := Lib.hid (And.intro hal (And.intro hbg hg0))
  have HGW := Lib.hid (And.intro hG hW)
  obtain ⟨N, hN⟩ : ∃ N, N = n.length := ⟨_, rfl⟩
  obtain ⟨M, hM⟩ : ∃ M, M = ws.length := ⟨_, rfl⟩
  rw [← hN] at HH c0 hW0
  rw [← hN, ← hM]
  rw [← hM] at hw63
  have HN := Lib.hid (And.intro hN hM)
  clear hal hbg hG hW ht hg0 hn
  by_cases hb : 5000 < N
  · have HB := Lib.hid hb
    have hbg2 := fun V => by have := HH.out.2.1 V; rw [xT hb] at this; exact this
    have HBG := Lib.hid hbg2
    clear hb hbg2 hN hM
    go_enter Tryd.func4, Tryd.ntmps4
    go_wp2_with (first
      | (rw [← hW0]; go_at_call 8; refine HH.out.1.mono ?_; rintro e w1 ⟨rfl, hg1⟩; have d0 := hg1.cell c0 (by simp); have H1 := Lib.hid hg1; clear hg1 c0)
      | (go_at_call 15; refine (HBG.out _).mono ?_; rintro e w2 ⟨rfl, hg2⟩; have H2 := Lib.hid hg2; clear hg2))
    go_ret
    exact ⟨rfl, HH.out.2.2.trans (H1.out.trans H2.out)⟩
  · have hbg2 := fun V => by have := HH.out.2.1 V; rw [xF hb] at this; exact this
    have HBG := Lib.hid hbg2
    by_cases hk : 1000 < M
    · have e1 : decide ((1000 : Int) < (M : Int)) = true := xT (by omega)
      clear hb hbg2 hN hM hk
      go_enter Tryd.func4, Tryd.ntmps4
      go_wp2_with (first
        | (rw [← hW0]; go_at_call 8; refine HH.out.1.mono ?_; rintro e w1 ⟨rfl, hg1⟩; have d0 := hg1.cell c0 (by simp); have H1 := Lib.hid hg1; clear hg1 c0)
        | (go_at_call 15; refine (HBG.out _).mono ?_; rintro e w2 ⟨rfl, hg2⟩; have H2 := Lib.hid hg2; clear hg2))
      go_ret
      exact ⟨rfl, HH.out.2.2.trans (H1.out.trans H2.out)⟩
    · have e1 : decide ((1000 : Int) < (M : Int)) = false := xF (by omega)
      have hof := fun V (hg : w.grownBy V none) => of_any V na n nc wa ws wc (HGW.out.1.on hg) (HGW.out.2.on hg) (by rw [← hN]; omega) (by rw [← hM]; omega)
      have hro := fun V (hg : GatesAt V na n ∧ NumsAt V wa ws) => rof_any V na n nc wa ws wc hg.1 hg.2 (by rw [← hN]; omega) (by rw [← hM]; omega)
      obtain ⟨E, hE⟩ : ∃ E, E = (ofV n ws).1 := ⟨_, rfl⟩
      obtain ⟨vs, hvs⟩ : ∃ vs, vs = (ofV n ws).2.vars := ⟨_, rfl⟩
      obtain ⟨L, hL⟩ : ∃ L, L = (ofV n ws).2.cl := ⟨_, rfl⟩
      rw [← hE, ← hvs, ← hL, ← hN, ← hM] at hof hro
      have hLl : L.length ≤ 60000 := by
        rw [hL]
        unfold ofV
        split
        · split
          · have h1 := Cn.wt_len (Cn.ofC n ws)
            have h2 := Cn.ofC_wt n ws
            show (Cn.ofC n ws).length ≤ _
            omega
          · simp
        · simp
      have HOF := Lib.hid (And.intro hof (And.intro hro hLl))
      have hL63 : L.length ≤ 9223372036854775807 := by omega
      clear hb hbg2 hN hM hk hof hro hE hvs hL hLl
      obtain ⟨K, hK⟩ : ∃ K, K = L.length := ⟨_, rfl⟩
      have HK := Lib.hid hK
      go_enter Tryd.func4, Tryd.ntmps4
      go_upto_region 5 with (first
        | (rw [← hW0]; go_at_call 8; refine HH.out.1.mono ?_; rintro e w1 ⟨rfl, hg1⟩; have d0 := hg1.cell c0 (by simp); have H1 := Lib.hid hg1; clear hg1 c0 hW0)
        | (go_at_call 15; refine (HBG.out _).mono ?_; rintro e w2 ⟨rfl, hg2⟩; have b0 := hg2.cell d0 (by simp); have H2 := Lib.hid (HH.out.2.2.trans (H1.out.trans hg2)); clear hg2 d0))
      go_upto_region 6 with (go_at_call 16; refine (HOF.out.1 _ H2.out).mono ?_; rintro e w3 ⟨va, c1, rfl, hlc1, hr1, hg3⟩; have b1 := hg3.cell b0 (by simp); have l3 : w.heap.size < w3.heap.size := lt_of_some b1; have H3 := Lib.hid (And.intro hr1 (And.intro hg3 hlc1)); clear hr1 hg3 hlc1 b0)
      obtain ⟨W3, hW3⟩ : ∃ W3, W3 = w3.alloc (.cells #[.int .i64 vs, .slice va L.length c1] 24) := ⟨_, rfl⟩
      have hgW3 : w3.grownBy W3 none := by rw [hW3]; exact World.grownBy_alloc _ _ _
      have hs3 : W3.heap.size = w3.heap.size + 1 := by rw [hW3]; simp
      have t7a : W3.cell? ⟨w3.heap.size, 0, none⟩ = some (.int .i64 vs) := by rw [hW3]; simp
      have t7b : W3.cell? ⟨w3.heap.size, 1, none⟩ = some (.slice va L.length c1) := by rw [hW3]; simp
      have b2 := hgW3.cell b1 (by simp)
      have HW3 := Lib.hid (And.intro (H2.out.trans (H3.out.2.1.trans hgW3)) (And.intro hgW3 (And.intro t7a (And.intro t7b (And.intro hs3 b2)))))
      rw [← hW3]
      clear hW3 hgW3 t7a t7b b1
      go_upto_region 7 with (go_at_call 16; refine (HOF.out.1 _ HW3.out.1).mono ?_; rintro e w4 ⟨vb, c2, rfl, hlc2, hr2, hg4⟩; have H4 := Lib.hid (And.intro hr2 (And.intro hg4 hlc2)); have l4 : w.heap.size < w4.heap.size := Nat.lt_of_lt_of_le (lt_of_some b2) hg4.size; clear hr2 hg4 hlc2)
      obtain ⟨b9, hb9⟩ : ∃ b9, b9 = w4.heap.size := ⟨_, rfl⟩
      obtain ⟨WB, hWB⟩ : ∃ WB, WB = w4.alloc (.cells #[.int .i64 vs, .slice vb L.length c2] 24) := ⟨_, rfl⟩
      have hgB : w4.grownBy WB none := by rw [hWB]; exact World.grownBy_alloc _ _ _
      have t9 : WB.cell? ⟨b9, 1, none⟩ = some (.slice vb L.length c2) := by rw [hWB, hb9]; simp
      obtain ⟨B, hB⟩ : ∃ B, B = W3.heap.size := ⟨_, rfl⟩
      have hs4 : B ≤ w4.heap.size := by rw [hB]; exact H4.out.2.1.size
      have hsp : Spo B b9 vb c2 L WB WB 0 := spo_begin (by rw [hB]; exact H4.out.1.onLt (fun k hk _ => hgB.block k hk (by simp))) (fun j l hj b o e => by
        obtain ⟨b', o', _, _, e', _, h1, _⟩ := H4.out.1 j l hj
        rw [e] at e'
        cases e'
        rw [hb9]
        exact lt_of_some h1) t9
      have HSP := Lib.hid (And.intro hsp (And.intro hgB (And.intro hB (And.intro hs4 hb9))))
      rw [← hWB, ← hb9]
      rw [← hK]
      rw [← hK] at hL63
      clear hWB hgB t9 hB hs4 hsp hb9 l4 l3 b2 hs3 hK
      go_wp2
      go_loopw [11] (fun iv wr => ∃ t : Nat, t ≤ K ∧ iv = .int .i64 (t : Int) ∧ Hid (Spo B b9 vb c2 L WB wr t)) (fun iv _ => K - (intOf iv).toNat)
      case atStart => exact ⟨0, Nat.zero_le _, rfl, Lib.hid HSP.out.1⟩
      case round =>
        obtain ⟨t, htt, rfl, HT⟩ := hrel
        have k9 := HT.out.c9
        rw [← HK.out] at k9
        by_cases hlt : t < K
        · obtain ⟨l, hl⟩ : ∃ l, L[t]? = some l := ⟨_, List.getElem?_eq_getElem (by rw [← HK.out]; exact hlt)⟩
          have hlm : l.length ≤ 9223372036854775807 := by
            obtain ⟨_, _, _, _, _, _, _, _, _, _, h1, _⟩ := H3.out.1 t l hl
            omega
          obtain ⟨Z, hZ⟩ : ∃ Z, Z = l.length := ⟨_, rfl⟩
          rw [← hZ] at hlm
          have HL := Lib.hid (And.intro hl hZ)
          clear hl hZ
          go_wp2
          clear k9
          go_loopw [12] (fun iv wr2 => ∃ u : Nat, u ≤ Z ∧ iv = .int .i64 (u : Int) ∧ Hid (Spo B b9 vb c2 L WB wr2 t)) (fun iv _ => Z - (intOf iv).toNat)
          case atStart => exact ⟨0, Nat.zero_le _, rfl, HT⟩
          case round =>
            obtain ⟨u, huu, rfl, HU⟩ := hrel
            have k9 := HU.out.c9
            obtain ⟨b, o, ra, rc, rfl, hbB, hb9, hc, hfz, hin⟩ := HU.out.rows t l (Nat.le_refl _) HL.out.1
            rw [← HL.out.2] at hc hin
            rw [← HK.out] at k9
            by_cases hul : u < Z
            · obtain ⟨b', o', y, rfl, hb', hd, hfd⟩ := hin u hul
              have HX := Lib.hid (HU.out.inner hb' hd)
              clear hbB hb9 hfz hin hb'
              go_wp2
              exact ⟨⟨u + 1, by omega, by go_num, Lib.hid HX.out⟩, by simp [intOf]; omega⟩
            · obtain rfl : u = Z := by omega
              have HX := Lib.hid (HU.out.outer hbB hb9 rfl hc)
              clear hbB hb9 hin
              go_wp2
              exact ⟨⟨t + 1, by omega, by go_num, Lib.hid HX.out⟩, by simp [intOf]; omega⟩
        · obtain rfl : t = K := by omega
          have hBs : B = w3.heap.size + 1 := HSP.out.2.2.1.trans HW3.out.2.2.2.2.1
          have h3B : w3.grownBy WB none := HW3.out.2.1.trans (H4.out.2.1.trans HSP.out.2.1)
          have hw3r : w3.grownBy wr none := below_on h3B HT.out.bl (by omega)
          have hwr : w.grownBy wr none := (H2.out.trans H3.out.2.1).trans hw3r
          have hW3r : ∀ k, k < B → wr.heap[k]? = W3.heap[k]? := fun k hk => (HT.out.bl.block k hk).trans ((H4.out.2.1.trans HSP.out.2.1).block k (by rw [← HSP.out.2.2.1]; exact hk) (by simp))
          have b5 : wr.cell? ⟨w.heap.size, 0, none⟩ = some (.slice na N nc) := (cell_of_block (hW3r _ (by have := (H2.out.trans H3.out.2.1).size; omega))).trans HW3.out.2.2.2.2.2
          have f0 : wr.cell? ⟨w3.heap.size, 0, none⟩ = some (.int .i64 vs) := (cell_of_block (hW3r _ (by omega))).trans HW3.out.2.2.1
          have f1 : wr.cell? ⟨w3.heap.size, 1, none⟩ = some (.slice va L.length c1) := (cell_of_block (hW3r _ (by omega))).trans HW3.out.2.2.2.1
          have hrf := HOF.out.2.1 wr ⟨HGW.out.1.on hwr, HGW.out.2.on hwr⟩
          have hrw := H3.out.1.to.on hw3r
          have HF := Lib.hid (And.intro hwr (And.intro hrf hrw))
          have HLL := Lib.hid HOF.out.2.2
          rw [← HK.out] at f1
          clear hBs h3B hw3r hwr hW3r hrf hrw
          go_upto_region 16 with (go_at_call 17; refine HF.out.2.1.mono ?_; rintro e w6 ⟨vc, c3, rfl, hlc6, hr6, hg6⟩; have g0 := hg6.cell f0 (by simp); have g1 := hg6.cell f1 (by simp); have l6 : w3.heap.size < w6.heap.size := lt_of_some g0; have H6 := Lib.hid (And.intro hr6 hg6); clear hr6 hg6 hlc6 b5 f0 f1)
          rw [← HK.out]
          have hsf := sameF_any (w6.alloc (.cells #[.int .i64 vs, .slice vc t c3] 24)) vs L va c1 vc c3 ((HF.out.2.2.on H6.out.2).on (World.grownBy_alloc _ _ none)) (H6.out.1.to.on (World.grownBy_alloc _ _ none)) (by have := HLL.out; omega)
          rw [← HK.out] at hsf
          clear k9
          go_wp2_with (first
            | (go_at_call 11; refine (hnum _ _).mono ?_; rintro e w9 ⟨rfl, hw9⟩; obtain rfl := hw9.symm)
            | (go_at_call 18; refine hsf.mono ?_; rintro e w7 ⟨rfl, hg7⟩; have H7 := Lib.hid hg7; clear hg7))
          go_ret
          exact ⟨rfl, HF.out.1.trans (H6.out.2.trans ((World.grownBy_alloc _ _ none).trans H7.out))⟩
end Go.Proofs.YtdhgopcfjomjaaaDoor
