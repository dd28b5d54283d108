/- metronomeref22.Of of a net and wires that are right. -/
import Derived.Test.YtdhgopcfjomjaaaDoorCoA
import Derived.Maps.AppendAt
import Derived.Laws.ResultCell
namespace Go.Proofs.YtdhgopcfjomjaaaDoor
open Go.RowKit Go.Maps Go.WideMaps
open Cn (I64)

theorem al2g (W : World) (a b : Obj) : W.grownBy ((W.alloc a).alloc b) none := (World.grownBy_alloc _ _ none).trans (World.grownBy_alloc _ _ none)
theorem al4g (W : World) (a b c d : Obj) : W.grownBy ((((W.alloc a).alloc b).alloc c).alloc d) none := (al2g W a b).trans (al2g _ c d)
theorem neg_i64 {i : Nat} (hi : i ≤ 200000) : I64 (-((i : Int) + 1)) ∧ I64 ((i : Int) + 1) := by unfold I64; omega
theorem all2 {a b : Int} (ha : I64 a) (hb : I64 b) : ∀ y ∈ [a, b], I64 y := fun y hy => by
  rcases List.mem_cons.1 hy with h | h
  · rw [h]; exact ha
  · rw [List.mem_singleton.1 h]; exact hb
theorem all3 {a b c : Int} (ha : I64 a) (hb : I64 b) (hc : I64 c) : ∀ y ∈ [a, b, c], I64 y := fun y hy => by
  rcases List.mem_cons.1 hy with h | h
  · rw [h]; exact ha
  · exact all2 hb hc y h
theorem hnews_row {W : World} {g : Nat} {L : List Value} (h : W.heap[g]? = some (.cells L.toArray 36 (0, 0))) : ∀ j u, L[j]? = some u → W.cell? ((⟨g, 0, none⟩ : Addr).add j) = some u := fun j u hu => by
  rw [addr_at, Nat.zero_add, row_cell h]; exact hu

set_option maxRecDepth 100000 in
set_option maxHeartbeats 8000000 in
theorem rof_ok (w : World) (na : Option Addr) (n : List Cn.Gt) (nc : Nat) (wa : Option Addr) (ws : List Int) (wc : Nat) (hG : GatesAt w na n) (hW : NumsAt w wa ws) (hnl : n.length ≤ 5000) (hwl : ws.length ≤ 1000) (hne : Cn.netE n = 0) (hwo : Cn.wiresOk n ws = true) :
    Calls Tryd.prog 17 #[.agg #[.slice na n.length nc], .slice wa ws.length wc] w (OfP w n.length (Cn.ofC n ws) 0) := by
  obtain ⟨N, hN⟩ : ∃ N, N = n.length := ⟨_, rfl⟩
  obtain ⟨M, hM⟩ : ∃ M, M = ws.length := ⟨_, rfl⟩
  obtain ⟨W0, hW0⟩ : ∃ W0, W0 = (w.alloc (.cells #[.slice na N nc] 35)).alloc (.cells #[.int .i64 0, .slice none 0 0] 24) := ⟨_, rfl⟩
  have hg0 : w.grownBy W0 none := by rw [hW0]; exact al2g _ _ _
  have ha := al2 w (.cells #[.slice na N nc] 35) (.cells #[.int .i64 0, .slice none 0 0] 24)
  rw [← hW0] at ha
  have hck := rchecknet_any W0 na n nc (hG.on hg0) (by omega)
  have hoc := Cn.ofC_check hne hwo (by omega)
  have hwt := Cn.ofC_wt n ws
  rw [← hN] at hck hnl hoc hwt ⊢
  rw [← hM] at hwl hwt ⊢
  rw [hne] at hck
  have HCK := Lib.hid hck
  have HGW := Lib.hid (And.intro hG (And.intro hW (And.intro hne (And.intro hwo (And.intro hoc hwt)))))
  have HA := Lib.hid (And.intro ha hg0)
  have HN := Lib.hid (And.intro hN hM)
  clear hN hM hck hG hW ha hg0 hne hwo hoc hwt
  go_enter Tryd.func17, Tryd.ntmps17
  go_wp2_with (rw [← hW0]; go_at_call 32; refine HCK.out.mono ?_; rintro e w1 ⟨rfl, hg1⟩; have H1 := Lib.hid hg1; have d0 : w1.cell? ⟨w.heap.size, 0, none⟩ = some (.slice na N nc) := cell_of_row w1 w.heap.size 0 _ _ _ ((hg1.block _ (gl HA.out.1.1) (by simp)).trans HA.out.1.1); have l0 : w.heap.size + 1 < w1.heap.size := Nat.lt_of_lt_of_le (gl HA.out.1.2) hg1.size; clear hg1 hW0)
  have hn64 : N ≤ 9223372036854775807 := by omega
  have hm64 : M ≤ 9223372036854775807 := by omega
  have hw2 : wrap64 (2 * (N : Int)) = 2 * (N : Int) := by unfold wrap64; omega
  have HN5 := Lib.hid (And.intro hnl hwl)
  clear hnl hwl
  go_loopw [7] (fun iv wr => ∃ t : Nat, t ≤ M ∧ iv = .int .i64 (t : Int) ∧ Hid (w1.grownBy wr none)) (fun iv _ => M - (intOf iv).toNat)
  case atStart => exact ⟨0, Nat.zero_le _, rfl, Lib.hid (World.grownBy.refl _ _)⟩
  case round =>
    obtain ⟨t, ht, rfl, HT⟩ := hrel
    have b0 := HT.out.cell d0 (by simp)
    by_cases hlt : t < M
    · obtain ⟨x, hx⟩ : ∃ x, ws[t]? = some x := ⟨_, List.getElem?_eq_getElem (by rw [← HN.out.2]; exact hlt)⟩
      obtain ⟨b, o, rfl, hc⟩ := (HGW.out.2.1.on (HA.out.2.trans (H1.out.trans HT.out))) t x hx
      have hxb : 0 ≤ x ∧ x < 2 * (N : Int) := by
        have := List.all_eq_true.1 HGW.out.2.2.2.1 x (List.mem_of_getElem? hx)
        rw [← HN.out.1] at this
        simpa using this
      have e1 : decide (x < 0) = false := xF (by omega)
      have e2 : decide (2 * (N : Int) ≤ x) = false := xF (by omega)
      clear hx hxb d0
      go_upto_region 7 with fail
      go_quiet (fail)
      go_wp2
      exact ⟨⟨t + 1, by omega, by go_num, Lib.hid (HT.out.trans (gdrewN _ _ _))⟩, by simp [intOf]; omega⟩
    · obtain rfl : t = M := by omega
      clear hw2 d0
      have l1 : w.heap.size + 1 < wr.heap.size := Nat.lt_of_lt_of_le l0 HT.out.size
      go_wp2
      obtain ⟨bf, hbf⟩ : ∃ bf, bf = wr.heap.size := ⟨_, rfl⟩
      obtain ⟨w2, hw2⟩ : ∃ w2, w2 = wr.alloc (.cells #[.int .i64 (N : Int), .slice none 0 0] 24) := ⟨_, rfl⟩
      have hg2 : wr.grownBy w2 none := by rw [hw2]; exact World.grownBy_alloc _ _ _
      have hr2 : w2.heap[bf]? = some (.cells #[.int .i64 (N : Int), .slice none 0 0] 24 (0, 0)) := by rw [hw2, hbf]; exact heap_alloc_new _ _
      have c0 := hg2.cell b0 (by simp)
      have H2 := Lib.hid (And.intro (HA.out.2.trans (H1.out.trans (HT.out.trans hg2))) (And.intro hr2 (And.intro (HT.out.trans hg2) (show w.heap.size + 1 < bf by omega))))
      have HQ0 : Hid (OfQ w2 bf (N : Int) [] (.slice none 0 0) w2) := Lib.hid ⟨Kp.refl _ _, gl hr2, hr2, World.ownsRow_nil _ _ _ _, fun x hx => by cases hx⟩
      rw [← hw2, ← hbf]
      clear hw2 hg2 hr2 hbf l1 b0
      go_loopw [9] (fun iv wr3 => ∃ u : Nat, u ≤ N ∧ iv = .int .i64 (u : Int) ∧ Hid (∃ v xs, clsOf xs = Cn.gcls 0 (n.take u) ∧ OfQ w2 bf (N : Int) xs v wr3)) (fun iv _ => N - (intOf iv).toNat)
      case atStart => exact ⟨0, Nat.zero_le _, rfl, Lib.hid ⟨_, _, rfl, HQ0.out⟩⟩
      case round =>
        obtain ⟨u, hu, rfl, HU⟩ := hrel
        obtain ⟨v, xs, hxs, hq⟩ := HU.out
        have hgw : w.grownBy wr none := Kp.grown H2.out.1 hq.kp (fun k hk => by simp at hk; have := H2.out.2.2.2; omega)
        have b0 : wr.cell? ⟨w.heap.size, 0, none⟩ = some (.slice na N nc) := hq.kp.cell c0 (by simp; have := H2.out.2.2.2; omega)
        have q1 : wr.cell? ⟨bf, 1, none⟩ = some v := cell_of_row _ _ 1 _ _ _ hq.rf
        have f1 := frozen_of_row _ _ 1 _ _ hq.rf
        have lb := gl hq.rf
        have l3 : w.heap.size < wr.heap.size := by have := H2.out.2.2.2; omega
        by_cases hul : u < N
        · obtain ⟨g, hg⟩ : ∃ g, n[u]? = some g := ⟨_, List.getElem?_eq_getElem (by rw [← HN.out.1]; exact hul)⟩
          obtain ⟨b, o, rfl, h1, h2, h3, _⟩ := (HGW.out.1.on hgw) u g hg
          have hgk : Cn.gok u g = true := by have := Cn.goks_at 0 n (Cn.net_ok.1 HGW.out.2.2.1).2 u g hg; rwa [Nat.zero_add] at this
          have hst := Cn.gcls_step hg
          have hwl2 := gcls_wt_take n u
          have hxl : xs.length ≤ 60000 := by
            have e1 := Cn.wt_len (clsOf xs)
            have e2 := HGW.out.2.2.2.2.2
            have e3 : Cn.wt (Cn.ofC n ws) = Cn.wt (Cn.gcls 0 n) + Cn.wt (Cn.wcls ws) := Cn.wt_app _ _
            rw [clsOf_len, hxs] at e1
            have := HN5.out
            omega
          have hu2 : u ≤ 200000 := by have := HN5.out; omega
          have hi64 := neg_i64 (i := u) hu2
          have hw1 := w64_small hi64.2
          have hw1n := w64_small hi64.1
          obtain ⟨it, hit, hz, hsz, hby⟩ := info_parts info_sl
          have HX := Lib.hid (And.intro hq (And.intro hxs (And.intro hst (And.intro hxl hgk))))
          have HI := Lib.hid hi64
          obtain ⟨V0, hV0⟩ : ∃ V0, V0 = wr.alloc (.cells #[.int .i64 g.op, .int .i64 g.a, .int .i64 g.b] 48) := ⟨_, rfl⟩
          have hgV : wr.grownBy V0 none := by rw [hV0]; exact World.grownBy_alloc _ _ _
          have hsV : V0.heap.size = wr.heap.size + 1 := by rw [hV0]; simp
          have HV := Lib.hid (And.intro hgV hsV)
          clear hq hxs hst hwl2 hxl hg hi64 hgV hsV
          by_cases hop1 : g.op = 1
          · have e1 : (g.op == 1) = true := by simp [hop1]
            have ha3 := al2 V0 (.cells #[.int .i64 (-((u : Int) + 1))] 3) (.cells #[.slice (some ⟨V0.heap.size, 0, none⟩) 1 1] 36)
            have hB := HX.out.1.apB (ys := [(some ⟨V0.heap.size, 0, none⟩, 1, [-((u : Int) + 1)])]) (HV.out.1.trans (al2g V0 _ _)) (fun y hy => by rw [List.mem_singleton.1 hy]; exact clAt_row (l := [-((u : Int) + 1)]) ha3.1 ⟨HV.out.1.size, by simp; omega⟩ (by simp) (fun y hy => by rw [List.mem_singleton.1 hy]; exact HI.out.1)) ha3.2 HX.out.2.2.2.1 (by simp)
            have hgc : Cn.gcl ((u : Int) + 1) g = [[-((u : Int) + 1)]] := by unfold Cn.gcl; rw [if_pos hop1]
            rw [HV.out.2, hV0] at hB
            have HB := Lib.hid (And.intro hB hgc)
            clear hop1 ha3 hB hgc hV0
            go_wp2_with (at_builtin; refine wpList_append_own_at _ rfl _ _ 22 rfl w2.heap.size 36 it _ 1 24 Tryd.underlying22 hit hz hsz hby rfl (by decide) v xs.length (clV xs) rfl HB.out.1.own ⟨wr.heap.size + 1 + 1, 0, none⟩ 1 1 (clV [(some ⟨wr.heap.size + 1, 0, none⟩, 1, [-((u : Int) + 1)])]) rfl rfl HB.out.1.news HB.out.1.one HB.out.1.b63 HB.out.1.bby HB.out.1.base ?_; intro v' w4 ho4 hg4 _ hat4; obtain ⟨a4, c4, hv4⟩ := owns_form ho4; have hf := HB.out.1.fin v' w4 ho4 hg4 hat4; have p1 : w4.cell? ⟨bf, 1, none⟩ = some v := cell_of_row _ _ 1 _ _ _ hf.1; have p2 := frozen_of_row w4 bf 1 _ _ hf.1; subst hv4; have H4 := Lib.hid hf.2; clear ho4 hg4 hat4 hf)
            refine ⟨⟨u + 1, by omega, by go_num, Lib.hid ⟨_, _, ?_, H4.out⟩⟩, by simp [intOf]; omega⟩
            rw [clsOf_app, HX.out.2.1, HX.out.2.2.1, HB.out.2]
            rfl
          · have e1 : (g.op == 1) = false := by simp [hop1]
            by_cases hop3 : g.op = 3
            · have e3 : (g.op == 3) = true := by simp [hop3]
              have hg' : 0 ≤ g.a ∧ g.a < 2 * u ∧ 0 ≤ g.b ∧ g.b < 2 * u := by
                have := HX.out.2.2.2.2
                simp [Cn.gok, hop3] at this
                omega
              have hl := fun z (hz : z = g.a ∨ z = g.b) V => rliteral_any z (by rcases hz with rfl | rfl <;> omega) (by rcases hz with rfl | rfl <;> omega) V
              have ba := lit_i64 hg'.1 (show g.a ≤ 1000000 by omega)
              have bb := lit_i64 hg'.2.2.1 (show g.b ≤ 1000000 by omega)
              have wa3 := w64_small ba.2.1
              have wb3 := w64_small bb.2.1
              have ha3 := al4 V0 (.cells #[.int .i64 (-((u : Int) + 1)), .int .i64 (Cn.lit g.a)] 3) (.cells #[.int .i64 (-((u : Int) + 1)), .int .i64 (Cn.lit g.b)] 3) (.cells #[.int .i64 ((u : Int) + 1), .int .i64 (-Cn.lit g.a), .int .i64 (-Cn.lit g.b)] 3)
                (.cells #[.slice (some ⟨V0.heap.size, 0, none⟩) 2 2, .slice (some ⟨V0.heap.size + 1, 0, none⟩) 2 2, .slice (some ⟨V0.heap.size + 2, 0, none⟩) 3 3] 36)
              have hB := HX.out.1.apB (ys := [(some ⟨V0.heap.size, 0, none⟩, 2, [-((u : Int) + 1), Cn.lit g.a]), (some ⟨V0.heap.size + 1, 0, none⟩, 2, [-((u : Int) + 1), Cn.lit g.b]), (some ⟨V0.heap.size + 2, 0, none⟩, 3, [(u : Int) + 1, -Cn.lit g.a, -Cn.lit g.b])])
                (HV.out.1.trans (al4g V0 _ _ _ _)) (fun y hy => by
                  have hs0 := HV.out.1.size
                  simp only [List.mem_cons, List.not_mem_nil, or_false] at hy
                  rcases hy with rfl | rfl | rfl
                  · exact clAt_row (l := [-((u : Int) + 1), Cn.lit g.a]) ha3.1 ⟨hs0, by simp only [World.size_alloc]; omega⟩ (by simp) (all2 HI.out.1 ba.1)
                  · exact clAt_row (l := [-((u : Int) + 1), Cn.lit g.b]) ha3.2.1 ⟨by omega, by simp only [World.size_alloc]; omega⟩ (by simp) (all2 HI.out.1 bb.1)
                  · exact clAt_row (l := [(u : Int) + 1, -Cn.lit g.a, -Cn.lit g.b]) ha3.2.2.1 ⟨by omega, by simp only [World.size_alloc]; omega⟩ (by simp) (all3 HI.out.2 ba.2.1 bb.2.1))
                ha3.2.2.2 HX.out.2.2.2.1 (by simp)
              have hgc : Cn.gcl ((u : Int) + 1) g = [[-((u : Int) + 1), Cn.lit g.a], [-((u : Int) + 1), Cn.lit g.b], [(u : Int) + 1, -Cn.lit g.a, -Cn.lit g.b]] := by unfold Cn.gcl; rw [if_neg hop1, if_pos hop3]
              rw [HV.out.2, hV0] at hB
              have HB := Lib.hid (And.intro hB hgc)
              have HL := Lib.hid hl
              clear hop1 hop3 ha3 hB hgc hV0 ba bb hg' hl
              go_wp2_with (first
                | (go_at_call 33; refine (HL.out _ (by first | exact .inl rfl | exact .inr rfl) _).mono ?_; rintro e w9 ⟨rfl, hw9⟩; obtain rfl := hw9.symm)
                | (at_builtin; refine wpList_append_own_at _ rfl _ _ 22 rfl w2.heap.size 36 it _ 1 24 Tryd.underlying22 hit hz hsz hby rfl (by decide) v xs.length (clV xs) rfl HB.out.1.own ⟨wr.heap.size + 1 + 3, 0, none⟩ 3 3 (clV [(some ⟨wr.heap.size + 1, 0, none⟩, 2, [-((u : Int) + 1), Cn.lit g.a]), (some ⟨wr.heap.size + 1 + 1, 0, none⟩, 2, [-((u : Int) + 1), Cn.lit g.b]), (some ⟨wr.heap.size + 1 + 2, 0, none⟩, 3, [(u : Int) + 1, -Cn.lit g.a, -Cn.lit g.b])]) rfl rfl HB.out.1.news HB.out.1.one HB.out.1.b63 HB.out.1.bby HB.out.1.base ?_; intro v' w4 ho4 hg4 _ hat4; obtain ⟨a4, c4, hv4⟩ := owns_form ho4; have hf := HB.out.1.fin v' w4 ho4 hg4 hat4; have p1 : w4.cell? ⟨bf, 1, none⟩ = some v := cell_of_row _ _ 1 _ _ _ hf.1; have p2 := frozen_of_row w4 bf 1 _ _ hf.1; subst hv4; have H4 := Lib.hid hf.2; clear ho4 hg4 hat4 hf))
              refine ⟨⟨u + 1, by omega, by go_num, Lib.hid ⟨_, _, ?_, H4.out⟩⟩, by simp [intOf]; omega⟩
              rw [clsOf_app, HX.out.2.1, HX.out.2.2.1, HB.out.2]
              rfl
            · have e3 : (g.op == 3) = false := by simp [hop3]
              have hgc : Cn.gcl ((u : Int) + 1) g = [] := by unfold Cn.gcl; rw [if_neg hop1, if_neg hop3]
              have HC := Lib.hid hgc
              clear hop1 hop3 hgc
              go_wp2
              refine ⟨⟨u + 1, by omega, by go_num, Lib.hid ⟨_, _, ?_, HX.out.1.fresh (World.grownBy_alloc _ _ none)⟩⟩, by simp [intOf]; omega⟩
              rw [HX.out.2.1, HX.out.2.2.1, HC.out, List.append_nil]
        · obtain rfl : u = N := by omega
          have HX3 : Hid (∃ v xs, clsOf xs = Cn.gcls 0 n ++ Cn.wcls (ws.take 0) ∧ OfQ w2 bf (u : Int) xs v wr) := Lib.hid ⟨v, xs, by rw [hxs, HN.out.1, List.take_length]; simp [Cn.wcls], hq⟩
          clear hq hxs hgw q1 f1 lb HU
          go_wp2
          go_loopw [14] (fun iv wr4 => ∃ k : Nat, k ≤ t ∧ iv = .int .i64 (k : Int) ∧ Hid (∃ v xs, clsOf xs = Cn.gcls 0 n ++ Cn.wcls (ws.take k) ∧ OfQ w2 bf (u : Int) xs v wr4)) (fun iv _ => t - (intOf iv).toNat)
          case atStart => exact ⟨0, Nat.zero_le _, rfl, HX3⟩
          case round =>
            clear HX3
            obtain ⟨k, hk, rfl, HU⟩ := hrel
            obtain ⟨v, xs, hxs, hq⟩ := HU.out
            have hgw : w.grownBy wr none := Kp.grown H2.out.1 hq.kp (fun k hk => by simp at hk; have := H2.out.2.2.2; omega)
            have q1 : wr.cell? ⟨bf, 1, none⟩ = some v := cell_of_row _ _ 1 _ _ _ hq.rf
            by_cases hkl : k < t
            · obtain ⟨x, hx⟩ : ∃ x, ws[k]? = some x := ⟨_, List.getElem?_eq_getElem (by rw [← HN.out.2]; exact hkl)⟩
              obtain ⟨b, o, rfl, hc⟩ := (HGW.out.2.1.on hgw) k x hx
              have hbw : b < w.heap.size := by obtain ⟨b', o', e, hc'⟩ := HGW.out.2.1 k x hx; cases e; exact lt_of_some hc'
              have HBW := Lib.hid hbw
              clear hbw
              have hxb : 0 ≤ x ∧ x < 2 * (u : Int) := by
                have := List.all_eq_true.1 HGW.out.2.2.2.1 x (List.mem_of_getElem? hx)
                rw [← HN.out.1] at this
                simpa using this
              have hx1 : x ≤ 1000000 := by have := HN5.out; omega
              have hli := fun V => rliteral_any x hxb.1 hx1 V
              have hl64 := (lit_i64 hxb.1 hx1).1
              have hst := wcls_step hx
              have hwt := told_wt2 (n := n) hx
              have hxl : xs.length ≤ 60000 := by
                have e1 := Cn.wt_len (clsOf xs)
                have e2 := HGW.out.2.2.2.2.2
                rw [Cn.wt_app] at hwt
                rw [clsOf_len, hxs] at e1
                have := HN5.out
                omega
              obtain ⟨A, hA⟩ : ∃ A, A = Cn.lit x := ⟨_, rfl⟩
              rw [← hA] at hli hl64 hst
              obtain ⟨it, hit, hz, hsz, hby⟩ := info_parts info_sl
              have HX := Lib.hid (And.intro hq (And.intro hxs (And.intro hst (And.intro hxl hl64))))
              clear hx hxb hx1 hst hwt hxl hA hl64 hq hxs hgw
              go_wp2
              refine wp_region_L (S := fun V' => V'.cell? ⟨bf, 1, none⟩ = some v ∧ V'.cell? ⟨b, o + k, none⟩ = some (.int .i64 x)) (Z := [11]) (by kernel_rfl) ?_
              refine wpL_as (fun V hV => ?_)
              have hS : V.cell? ⟨bf, 1, none⟩ = some v ∧ V.cell? ⟨b, o + k, none⟩ = some (.int .i64 x) := by rw [hV]; exact ⟨(gdrew wr none).cell q1 (by simp), (gdrew wr none).cell hc (by simp)⟩
              have hq2 := HX.out.1.fresh (W1 := V) (by rw [hV]; exact gdrew wr none)
              have HQ2 := Lib.hid hq2
              clear q1 hc hV hq2
              (try simp only [Act.put, sA, sB, sC])
              refine t2 0 107 (.pointer (some ⟨bf, 1, none⟩)) (fun w' hw' => ?_) hS ?_
              · go_simp
              (try simp only [Act.put, sA, sB, sC])
              refine t2 1 108 v (fun w' hw' => ?_) hS ?_
              · have i1 := hw'.1; go_simp
              (try simp only [Act.put, sA, sB, sC])
              refine t2 2 109 (.slice (some ⟨b, o, none⟩) t wc) (fun w' hw' => ?_) hS ?_
              · go_simp
              (try simp only [Act.put, sA, sB, sC])
              refine t2 3 110 (.int .i64 (k : Int)) (fun w' hw' => ?_) hS ?_
              · go_simp
              (try simp only [Act.put, sA, sB, sC])
              refine t2 4 111 (.pointer (some ⟨b, o + k, none⟩)) (fun w' hw' => ?_) hS ?_
              · go_simp
              (try simp only [Act.put, sA, sB, sC])
              refine t2 5 112 (.int .i64 x) (fun w' hw' => ?_) hS ?_
              · have i1 := hw'.2; go_simp
              (try simp only [Act.put, sA, sB, sC])
              refine wpL_call (i := 6) (d := 113) (R := fun y w' => y = .int .i64 A ∧ w' = V) (by kernel_rfl) rfl (by kernel_rfl) (by kernel_rfl) (by kernel_rfl) ((hli V).mono fun e w' he => ⟨_, he.1, rfl, he.2⟩) (fun y w' h => by rw [h.2]; exact hS) (fun y w' h => ?_)
              rw [h.1, h.2]
              clear h w' y
              (try simp only [Act.put, sA, sB, sC])
              refine wpL_val (i := 7) (d := 114) (v := .slice (some ⟨V.heap.size, 0, none⟩) 1 1) (w' := V.alloc (.cells #[.int .i64 A] 3)) (by kernel_rfl) rfl rfl (by kernel_rfl) (by go_simp) ⟨(World.grownBy_alloc _ _ none).cell hS.1 (by simp), (World.grownBy_alloc _ _ none).cell hS.2 (by simp)⟩ ?_
              (try simp only [Act.put, sA, sB, sC])
              refine wpL_val (i := 8) (d := 115) (v := .slice (some ⟨V.heap.size + 1, 0, none⟩) 1 1) (w' := (V.alloc (.cells #[.int .i64 A] 3)).alloc (.cells #[.slice (some ⟨V.heap.size, 0, none⟩) 1 1] 36)) (by kernel_rfl) rfl rfl (by kernel_rfl) (by go_simp) ⟨(al2g _ _ _).cell hS.1 (by simp), (al2g _ _ _).cell hS.2 (by simp)⟩ ?_
              (try simp only [Act.put, sA, sB, sC])
              have ha3 := al2 V (.cells #[.int .i64 A] 3) (.cells #[.slice (some ⟨V.heap.size, 0, none⟩) 1 1] 36)
              have hB := HQ2.out.apB (ys := [(some ⟨V.heap.size, 0, none⟩, 1, [A])]) (al2g V _ _) (fun y hy => by rw [List.mem_singleton.1 hy]; exact clAt_row (l := [A]) ha3.1 ⟨Nat.le_refl _, by simp only [World.size_alloc]; omega⟩ (by simp) (fun y hy => by rw [List.mem_singleton.1 hy]; exact HX.out.2.2.2.2)) ha3.2 HX.out.2.2.2.1 (by simp)
              obtain ⟨v', w4, hr4, ho4, hg4, _, hat4⟩ := run_append_own_at (P := Tryd.prog) ((V.alloc (.cells #[.int .i64 A] 3)).alloc (.cells #[.slice (some ⟨V.heap.size, 0, none⟩) 1 1] 36)) w2.heap.size 22 22 36 it _ 1 24 Tryd.underlying22 hit hz hsz hby rfl (by decide) v xs.length (clV xs) hB.own ⟨V.heap.size + 1, 0, none⟩ 1 1 (clV [(some ⟨V.heap.size, 0, none⟩, 1, [A])]) rfl hB.news hB.one hB.b63 hB.bby hB.base
              obtain ⟨a4, c4, hv4⟩ := owns_form ho4
              have hf := hB.fin v' w4 ho4 hg4 hat4
              have p1 : w4.cell? ⟨bf, 1, none⟩ = some v := cell_of_row _ _ 1 _ _ _ hf.1
              have p2 := frozen_of_row w4 bf 1 _ _ hf.1
              subst hv4
              have hS4 : w4.cell? ⟨bf, 1, none⟩ = some v ∧ w4.cell? ⟨b, o + k, none⟩ = some (.int .i64 x) := ⟨p1, hg4.cell ((al2g _ _ _).cell hS.2 (by simp)) (fun e => by have := (HQ2.out.own.lt b e.symm).1; have := HBW.out; have := H2.out.1.size; omega)⟩
              refine wpL_val (i := 9) (d := 116) (v := .slice a4 (xs.length + 1) c4) (w' := w4) (by kernel_rfl) rfl rfl (by kernel_rfl) (exec_append rfl rfl rfl hr4) hS4 ?_
              (try simp only [Act.put, sA, sB, sC])
              refine wpL_val (i := 10) (d := 117) (v := .pointer (some ⟨bf, 1, none⟩)) (w' := w4) (by kernel_rfl) rfl rfl (by kernel_rfl) (by go_simp) hS4 ?_
              (try simp only [Act.put, sA, sB, sC])
              refine wpL_skip (i := 11) (w' := w4.setCell ⟨bf, 1, none⟩ (.slice a4 (xs.length + 1) c4)) (by kernel_rfl) rfl rfl (by kernel_rfl) (by go_simp) (fun hz => absurd (by simp) hz) ?_
              refine wpL_done (by kernel_rfl) ?_ _
              have H4 := Lib.hid (And.intro hf.2 HX.out)
              clear hf p1 p2 ho4 hg4 hat4 hr4 hB ha3 hS hS4
              go_wp2
              refine ⟨⟨k + 1, by omega, by go_num, Lib.hid ⟨_, _, ?_, H4.out.1⟩⟩, by simp [intOf]; omega⟩
              rw [clsOf_app, HX.out.2.1, HX.out.2.2.1, List.append_assoc]
              rfl
            · obtain rfl : k = t := by omega
              obtain ⟨va, vc, hvf⟩ := owns_form hq.own
              subst hvf
              have hro := hq.rows
              have hcl : clsOf xs = Cn.ofC n ws := by rw [hxs, HN.out.2, List.take_length]; rfl
              have hlen : xs.length = (Cn.ofC n ws).length := by rw [← hcl, clsOf_len]
              have hrow : RowsAt wr va (Cn.ofC n ws) := by rw [← hcl]; exact hro.2.2.to
              have hch := rcheck_any wr ⟨(u : Int), Cn.ofC n ws⟩ va vc hrow (by show (Cn.ofC n ws).length ≤ _; have e1 := Cn.wt_len (Cn.ofC n ws); have e2 := HGW.out.2.2.2.2.2; have := HN5.out; omega) (by unfold I64; have := HN5.out; show _ ≤ (u : Int) ∧ (u : Int) ≤ _; omega)
              rw [HGW.out.2.2.2.2.1] at hch
              simp only [← hlen] at hch
              have q0 : wr.cell? ⟨bf, 0, none⟩ = some (.int .i64 (u : Int)) := cell_of_row _ _ 0 _ _ _ hq.rf
              have r4 : wr.heap[w.heap.size + 1]? = some (.cells #[.int .i64 0, .slice none 0 0] 24 (0, 0)) := (hq.kp.block _ (by have := gl H2.out.2.1; have := H2.out.2.2.2; omega) (by simp; have := H2.out.2.2.2; omega)).trans (((H1.out.trans H2.out.2.2.1).block _ (gl HA.out.1.2) (by simp)).trans HA.out.1.2)
              have HZ := Lib.hid (And.intro hq (And.intro hgw (And.intro hro (And.intro hcl (And.intro hlen r4)))))
              have HCH := Lib.hid hch
              have l5 := gl hq.rf
              have l6 := gl r4
              clear hq hxs hgw hro hcl hlen hrow hch r4 HU
              go_wp2_with (go_at_call 12; refine HCH.out.mono ?_; rintro e w5 ⟨rfl, hg5⟩; have x0 := hg5.cell q0 (by simp); have x1 := hg5.cell q1 (by simp); have r5 := (hg5.block _ l6 (by simp)).trans HZ.out.2.2.2.2.2; have y0 := frozen_of_row _ _ 0 _ _ r5; have y1 := frozen_of_row _ _ 1 _ _ r5; have y2 : w5.cell? ⟨w.heap.size + 1, 0, none⟩ = some (.int .i64 0) := cell_of_row _ _ 0 _ _ _ r5; have y3 : w5.cell? ⟨w.heap.size + 1, 1, none⟩ = some (.slice none 0 0) := cell_of_row _ _ 1 _ _ _ r5; have H5 := Lib.hid (And.intro hg5 r5); clear hg5 r5 q0 q1)
              obtain ⟨hq, hgw, hro, hcl, hlen, _⟩ := HZ.out
              obtain ⟨Wf, hWf⟩ : ∃ Wf, Wf = (w5.setCell ⟨w.heap.size + 1, 0, none⟩ (.int .i64 (u : Int))).setCell ⟨w.heap.size + 1, 1, none⟩ (.slice va xs.length vc) := ⟨_, rfl⟩
              have hkf : Kp [w.heap.size + 1] w5 Wf := by rw [hWf]; exact ((Kp.refl _ w5).set (by simp) _).set (by simp) _
              have pf : Wf.heap[w.heap.size + 1]? = some (.cells #[.int .i64 (u : Int), .slice va xs.length vc] 24 (0, 0)) := by
                rw [hWf]; exact heap_setCell_same _ _ 1 _ _ _ (heap_setCell_same _ _ 0 _ _ _ H5.out.2)
              have hgz : w.grownBy Wf none := Kp.grown (hgw.trans H5.out.1) hkf (fun k hk => by simp at hk; omega)
              have hrz : RowsIn (w.heap.size ≤ ·) Wf va (Cn.ofC n ws) := by
                rw [← hcl]
                refine (hro.2.2.onLt (fun k hl hk => ?_)).mono (fun k hk => by have := H2.out.1.size; omega)
                exact (hkf.block k (Nat.lt_of_lt_of_le hl H5.out.1.size) (by simp; have := gl H2.out.2.1; have := H2.out.2.2.2; omega)).trans (H5.out.1.block k hl (by simp))
              have HF : Hid (OfP w (u : Int) (Cn.ofC n ws) 0 (.returned (.tuple #[.agg #[.int .i64 (u : Int), .slice va xs.length vc], .int .i64 0])) Wf) := Lib.hid ⟨va, vc, by rw [hlen], by rw [← hlen]; exact hro.2.1, hrz, hgz⟩
              have z0 : Wf.cell? ⟨w.heap.size + 1, 0, none⟩ = some (.int .i64 (u : Int)) := cell_of_row _ _ 0 _ _ _ pf
              have z1 : Wf.cell? ⟨w.heap.size + 1, 1, none⟩ = some (.slice va xs.length vc) := cell_of_row _ _ 1 _ _ _ pf
              rw [← hWf]
              clear hq hgw hro hcl hlen hWf hkf pf hgz hrz x0 x1 y0 y1 y2 y3 H5 HZ
              refine bodyPost_ret (v := .tuple #[.agg #[.int .i64 (u : Int), .slice va xs.length vc], .int .i64 0]) ?_ rfl HF.out
              rw [results_cell_tmp rfl]
              go_simp
end Go.Proofs.YtdhgopcfjomjaaaDoor
