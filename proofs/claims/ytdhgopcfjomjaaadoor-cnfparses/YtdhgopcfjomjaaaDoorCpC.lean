/- metronomeref22.Eval. -/
import Derived.Test.YtdhgopcfjomjaaaDoorCpB
namespace Go.Proofs.YtdhgopcfjomjaaaDoor
open Go.RowKit Go.Maps Go.WideMaps
open Cn (I64)

def EvP (w : World) (n : List Cn.Gt) (e : Ending) (w' : World) : Prop := w.grownBy w' none ∧ ∃ (va : Option Addr) (k c : Nat) (x : Int), e = .returned (.tuple #[.slice va k c, .int .i64 x]) ∧
  (x ≠ 0 ∨ x = 0 ∧ Cn.netE n = 0 ∧ (∃ b o, va = some ⟨b, o, none⟩) ∧ ∃ v : List Bool, k = n.length ∧ v.length = n.length ∧ Cn.Good n v ∧ BoolsAt w' va v)
theorem mk_bools (n : Nat) (hn : n ≤ 5000) (w : World) : (Instr.makeSlice 25 (.int .i64 (n : Int)) (.int .i64 (n : Int))).run Tryd.prog w = .ok (.slice (some ⟨w.heap.size, 0, none⟩) n n) (w.alloc (.cells (madeCells #[.bool false] n) 4)) :=
  run_make_row' 25 4 (.bool false) 1 Tryd.underlying25 (by kernel_rfl) rfl .i64 .i64 n (by omega) (by omega) w
def full (N : Nat) (vals : List Bool) : List Bool := vals ++ List.replicate (N - vals.length) false
theorem full_len {N : Nat} {vals : List Bool} (h : vals.length ≤ N) : (full N vals).length = N := by simp [full]; omega
theorem full_next {N : Nat} {vals : List Bool} (h : vals.length < N) : full N vals = full N (vals ++ [false]) := by
  unfold full
  rw [show N - vals.length = (N - (vals ++ [false]).length) + 1 by simp; omega, List.replicate_succ]
  simp
theorem full_set {N : Nat} {vals : List Bool} (b : Bool) (h : vals.length < N) : (full N vals).set vals.length b = full N (vals ++ [b]) := by
  unfold full
  rw [show N - vals.length = (N - (vals ++ [b]).length) + 1 by simp; omega, List.replicate_succ, List.set_append_right _ _ (Nat.le_refl _), Nat.sub_self, List.set_cons_zero]
  simp
def boolRowC (l : List Bool) : Array Value := (l.map Value.bool).toArray
theorem boolRow_set (l : List Bool) (i : Nat) (b : Bool) : (boolRowC l).setIfInBounds i (.bool b) = boolRowC (l.set i b) := by
  unfold boolRowC
  rw [List.setIfInBounds_toArray, List.map_set]
theorem made_bools (n : Nat) : madeCells #[Value.bool false] n = boolRowC (full n []) := by
  have := toList_madeCells_one (.bool false) n
  unfold boolRowC full
  apply Array.ext'
  rw [this]
  simp
theorem full_at {N : Nat} {vals : List Bool} (h : vals.length < N) : (boolRowC (full N vals))[vals.length]? = some (.bool false) := by
  have e : (full N vals)[vals.length]? = some false := by
    unfold full
    rw [List.getElem?_append_right (Nat.le_refl _), Nat.sub_self, List.getElem?_replicate, if_pos (by omega)]
  unfold boolRowC
  rw [List.getElem?_toArray, List.getElem?_map, e]
  rfl
theorem row_set9 {wr : World} {bv N : Nat} {vals : List Bool} {b : Bool} (hr : wr.heap[bv]? = some (.cells (boolRowC (full N vals)) 4 (0, 0))) (h : vals.length < N) :
    (wr.setCell ⟨bv, vals.length, none⟩ (.bool b)).heap[bv]? = some (.cells (boolRowC (full N (vals ++ [b]))) 4 (0, 0)) := by
  rw [← full_set _ h, ← boolRow_set]
  exact heap_setCell_same _ _ _ _ _ _ hr
structure EvI (W2 : World) (bv N : Nat) (n : List Cn.Gt) (t k : Nat) (wr : World) (vals : List Bool) : Prop where
  len : vals.length = t
  good : Cn.Goods n vals
  k : k = Cn.cnt (n.take t)
  row : wr.heap[bv]? = some (.cells (boolRowC (full N vals)) 4 (0, 0))
  kp : Kp [bv] W2 wr

set_option maxHeartbeats 8000000 in
set_option maxRecDepth 100000 in
theorem reval_any (w : World) (na : Option Addr) (n : List Cn.Gt) (nc : Nat) (ia : Option Addr) (ins : List Bool) (ic : Nat) (hG : GatesAt w na n) (hnl : n.length ≤ 5000) (hI : BoolsAt w ia ins) (hil : ins.length ≤ 9223372036854775807) :
    Calls Tryd.prog 19 #[.agg #[.slice na n.length nc], .slice ia ins.length ic] w (EvP w n) := by
  obtain ⟨N, hN⟩ : ∃ N, N = n.length := ⟨_, rfl⟩
  obtain ⟨I, hIl⟩ : ∃ I, I = ins.length := ⟨_, rfl⟩
  obtain ⟨W, hW⟩ : ∃ W, W = w.alloc (.cells #[.slice na N nc] 35) := ⟨_, rfl⟩
  have hgW : w.grownBy W none := by rw [hW]; exact World.grownBy_alloc _ _ _
  have c0 : W.cell? ⟨w.heap.size, 0, none⟩ = some (.slice na N nc) := by rw [hW]; simp
  have hck := rchecknet_any W na n nc (hG.on hgW) (by omega)
  have hin := fun V (hg : W.grownBy V none) => rinputs_any V na n nc ((hG.on hgW).on hg) hnl
  have hmk := mk_bools N (by omega)
  obtain ⟨E, hE⟩ : ∃ E, E = Cn.netE n := ⟨_, rfl⟩
  obtain ⟨C, hC⟩ : ∃ C, C = Cn.cnt n := ⟨_, rfl⟩
  rw [← hE] at hck
  rw [← hC] at hin
  rw [← hN] at hck hin hnl ⊢
  rw [← hIl] at hil ⊢
  have HG := Lib.hid (And.intro (hG.on hgW) (And.intro (hI.on hgW) (And.intro hgW (And.intro hck hin))))
  have HN := Lib.hid (And.intro hN (And.intro hIl (And.intro hE hC)))
  have HNL := Lib.hid hnl
  have hcn := Cn.cnt_le n
  rw [← hN, ← hC] at hcn
  have hn64 : N ≤ 9223372036854775807 := by omega
  have hc64 : C ≤ 9223372036854775807 := by omega
  clear hN hIl hgW hck hin hG hI hC hcn hnl
  by_cases h0 : E = 0
  · subst h0
    have HE : Hid (Cn.netE n = 0) := Lib.hid hE.symm
    clear hE
    by_cases hci : C = I
    · have e2 : ((C : Int) != (I : Int)) = false := by simp [hci]
      have HCI := Lib.hid hci
      clear hci
      go_enter Tryd.func19, Tryd.ntmps19
      go_upto_region 6 with (first
        | (rw [← hW]; go_at_call 32; refine HG.out.2.2.2.1.mono ?_; rintro e w1 ⟨rfl, hg1⟩; have d0 := hg1.cell c0 (by simp); have H1 := Lib.hid hg1; clear hg1 c0 hW)
        | (go_at_call 34; refine (HG.out.2.2.2.2 _ H1.out).mono ?_; rintro e w2 ⟨⟨b, c, rfl⟩, hg2⟩; have b0 := hg2.cell d0 (by simp); have H2 := Lib.hid (H1.out.trans hg2); clear hg2 d0))
      have l2 : w.heap.size < w2.heap.size := lt_of_some b0
      obtain ⟨bv, hbv⟩ : ∃ bv, bv = w2.heap.size := ⟨_, rfl⟩
      obtain ⟨W2, hW2⟩ : ∃ W2, W2 = w2.alloc (.cells (madeCells #[.bool false] N) 4) := ⟨_, rfl⟩
      have hmk2 := hmk w2
      rw [← hW2, ← hbv] at hmk2
      have hgW2 : w2.grownBy W2 none := by rw [hW2]; exact World.grownBy_alloc _ _ _
      have hrow : W2.heap[bv]? = some (.cells (boolRowC (full N [])) 4 (0, 0)) := by rw [hW2, hbv, ← made_bools]; exact heap_alloc_new _ _
      have a0 := hgW2.cell b0 (by simp)
      have H3 := Lib.hid (And.intro (H2.out.trans hgW2) (And.intro (show W.heap.size ≤ bv by rw [hbv]; exact H2.out.size) (show w.heap.size < bv by omega)))
      have HEI : Hid (EvI W2 bv N n 0 0 W2 []) := Lib.hid ⟨rfl, fun t g ht _ => by simp at ht, by simp [Cn.cnt], hrow, Kp.refl _ _⟩
      clear hW2 hbv hgW2 hrow hmk
      go_upto_region 7 with fail
      clear hmk2 b0 l2
      go_wp2
      go_loopw [8, 9] (fun kv iv wr => ∃ t k : Nat, t ≤ N ∧ kv = .int .i64 (k : Int) ∧ iv = .int .i64 (t : Int) ∧ Hid (∃ vals, EvI W2 bv N n t k wr vals)) (fun _ iv _ => N - (intOf iv).toNat)
      case atStart => exact ⟨0, 0, Nat.zero_le _, rfl, rfl, Lib.hid ⟨_, HEI.out⟩⟩
      case round =>
        obtain ⟨t, k, ht, rfl, rfl, HT⟩ := hrel
        obtain ⟨vals, hei⟩ := HT.out
        have d0 : wr.cell? ⟨w.heap.size, 0, none⟩ = some (.slice na N nc) := hei.kp.cell a0 (by simp; have := H3.out.2.2; omega)
        have hWr : W.grownBy wr none := Kp.grown H3.out.1 hei.kp (fun k hk => by simp at hk; have := H3.out.2.1; omega)
        have l3 : w.heap.size < wr.heap.size := lt_of_some d0
        by_cases hlt : t < N
        · obtain ⟨g, hg⟩ : ∃ g, n[t]? = some g := ⟨_, List.getElem?_eq_getElem (by rw [← HN.out.1]; exact hlt)⟩
          obtain ⟨b, o, rfl, h1, h2, h3, _⟩ := (HG.out.1.on hWr) t g hg
          have hok := Cn.goks_at 0 n (Cn.net_ok.1 HE.out).2 t g hg
          rw [Nat.zero_add] at hok
          have hcs := Cn.cnt_step hg
          have hct := Cn.cnt_take n (t + 1)
          have hfl : (full N vals).length = N := full_len (by rw [hei.len]; omega)
          have hgg : n[vals.length]? = some g := by rw [hei.len]; exact hg
          have HX := Lib.hid (And.intro hei (And.intro hok (And.intro hcs (And.intro hgg hfl))))
          have HW := Lib.hid (And.intro (World.grownBy_alloc wr (.cells #[.int .i64 g.op, .int .i64 g.a, .int .i64 g.b] 48) none) hWr)
          -- the row behind the gate's copy
          have hrow := (HW.out.1.block bv (gl hei.row) (by simp)).trans hei.row
          have lb := gl hei.row
          by_cases h2' : g.op = 2
          · rw [if_pos h2'] at hcs
            have hkI : k < I := by rw [hei.k, ← HCI.out, HN.out.2.2.2]; omega
            obtain ⟨b6, o6, rfl, hc6⟩ := bool_at (HG.out.2.1.on hWr) (i := k) (by rw [← HN.out.2.1]; exact hkI)
            have f6 := frozen_of_row _ _ t _ _ hrow
            have c6 : (wr.alloc (.cells #[.int .i64 g.op, .int .i64 g.a, .int .i64 g.b] 48)).cell? ⟨bv, t, none⟩ = some (.bool false) := by
              rw [cell_of_row _ _ t _ _ _ hrow, ← hei.len]
              exact full_at (by rw [hei.len]; exact hlt)
            have e2 : (g.op == 2) = true := by simp [h2']
            have HY : Hid (∀ b, Cn.Goods n (vals ++ [b])) := Lib.hid (fun b => hei.good.app (Cn.net_ok.1 HE.out).2 hgg ⟨fun h => by omega, fun h => by omega⟩)
            have HCS := Lib.hid hcs
            have HR := Lib.hid hrow
            have b60 := HW.out.1.cell hc6 (by simp)
            clear hei hWr hg hok hct hfl hgg hrow h2' HT hcs hc6
            go_wp2
            refine ⟨⟨t + 1, k + 1, by omega, by go_num, by go_num, Lib.hid ⟨vals ++ [ins.getD k false], ?_, HY.out _, ?_, ?_, ?_⟩⟩, by simp [intOf]; omega⟩
            · rw [List.length_append, HX.out.1.len]; rfl
            · rw [HCS.out, ← HX.out.1.k]
            · have hs := row_set9 (b := ins.getD k false) HX.out.1.row (by rw [HX.out.1.len]; exact hlt)
              rw [HX.out.1.len] at hs
              exact ((World.grownBy_alloc _ _ none).block bv (gl hs) (by simp)).trans hs
            · exact (HX.out.1.kp.set (by simp) _).trans (Kp.of0 (World.grownBy_alloc _ _ _) _)
          · have e2 : (g.op == 2) = false := by simp [h2']
            by_cases h3' : g.op = 3
            · have e3 : (g.op == 3) = true := by simp [h3']
              have hb := Cn.gok_and hok h3'
              have hbr : BoolsAt (wr.alloc (.cells #[.int .i64 g.op, .int .i64 g.a, .int .i64 g.b] 48)) (some ⟨bv, 0, none⟩) (full N vals) := bools_row hrow
              have hwi := fun z (hz : z = g.a ∨ z = g.b) => wire_any z (full N vals) (some ⟨bv, 0, none⟩) N (by rcases hz with rfl | rfl <;> omega) (by rw [hfl]; rcases hz with rfl | rfl <;> omega) (by rw [hfl]; have := HNL.out; omega) _ hbr
              rw [hfl] at hwi
              have f6 := frozen_of_row _ _ t _ _ hrow
              have c6 : (wr.alloc (.cells #[.int .i64 g.op, .int .i64 g.a, .int .i64 g.b] 48)).cell? ⟨bv, t, none⟩ = some (.bool false) := by
                rw [cell_of_row _ _ t _ _ _ hrow, ← hei.len]
                exact full_at (by rw [hei.len]; exact hlt)
              have ea : Cn.wire (full N vals) g.a = Cn.wire vals g.a := Cn.wire_app hb.1 (by rw [hei.len]; omega)
              have eb : Cn.wire (full N vals) g.b = Cn.wire vals g.b := Cn.wire_app hb.2.2.1 (by rw [hei.len]; omega)
              have HY : Hid (Cn.Goods n (vals ++ [Cn.wire vals g.a && Cn.wire vals g.b])) := Lib.hid (hei.good.app (Cn.net_ok.1 HE.out).2 hgg ⟨fun h => by omega, fun _ => rfl⟩)
              rw [if_neg h2', Nat.add_zero] at hcs
              have HCS := Lib.hid hcs
              have HR := Lib.hid hrow
              have HWI := Lib.hid hwi
              have HAB := Lib.hid (And.intro ea eb)
              clear hei hWr hg hok hcs hct hfl hgg hrow h2' h3' HT hbr hwi hb ea eb
              obtain ⟨xa, hxa⟩ : ∃ xa, xa = Cn.wire vals g.a := ⟨_, rfl⟩
              obtain ⟨xb, hxb⟩ : ∃ xb, xb = Cn.wire vals g.b := ⟨_, rfl⟩
              have hfin : ∀ b, b = (xa && xb) → ∀ W9, W9 = (wr.setCell ⟨bv, t, none⟩ (.bool b)).alloc (.cells #[.int .i64 g.op, .int .i64 g.a, .int .i64 g.b] 48) → Hid (EvI W2 bv N n (t + 1) k W9 (vals ++ [b])) := fun b hb W9 hW9 => by
                refine Lib.hid ⟨?_, ?_, ?_, ?_, ?_⟩
                · rw [List.length_append, HX.out.1.len]; rfl
                · rw [hb, hxa, hxb]; exact HY.out
                · rw [HCS.out]; exact HX.out.1.k
                · have hs := row_set9 (b := b) HX.out.1.row (by rw [HX.out.1.len]; exact hlt)
                  rw [HX.out.1.len] at hs
                  rw [hW9]; exact ((World.grownBy_alloc _ _ none).block bv (gl hs) (by simp)).trans hs
                · rw [hW9]; exact (HX.out.1.kp.set (by simp) _).trans (Kp.of0 (World.grownBy_alloc _ _ _) _)
              have hwa := HWI.out g.a (.inl rfl)
              have hwb := HWI.out g.b (.inr rfl)
              rw [HAB.out.1, ← hxa] at hwa
              rw [HAB.out.2, ← hxb] at hwb
              have HAW := Lib.hid (And.intro hwa hwb)
              have HFN := Lib.hid hfin
              clear hwa hwb hxa hxb hfin
              cases xa with
              | true =>
                cases xb with
                | true =>
                  go_wp2_with (first | (go_at_call 20; have q := HQ1.out; refine HAW.out.2.mono ?_; rintro e w8 ⟨rfl, hw8⟩; obtain rfl := hw8.symm) | (go_at_call 20; refine HAW.out.1.mono ?_; rintro e w8 ⟨rfl, hw8⟩; have HQ1 : Hid True := Lib.hid trivial; obtain rfl := hw8.symm))
                  exact ⟨⟨t + 1, k, by omega, rfl, by go_num, Lib.hid ⟨_, (HFN.out true rfl _ rfl).out⟩⟩, by simp [intOf]; omega⟩
                | false =>
                  go_wp2_with (first | (go_at_call 20; have q := HQ1.out; refine HAW.out.2.mono ?_; rintro e w8 ⟨rfl, hw8⟩; obtain rfl := hw8.symm) | (go_at_call 20; refine HAW.out.1.mono ?_; rintro e w8 ⟨rfl, hw8⟩; have HQ1 : Hid True := Lib.hid trivial; obtain rfl := hw8.symm))
                  exact ⟨⟨t + 1, k, by omega, rfl, by go_num, Lib.hid ⟨_, (HFN.out false rfl _ rfl).out⟩⟩, by simp [intOf]; omega⟩
              | false =>
                go_wp2_with (first | (go_at_call 20; have q := HQ1.out; refine HAW.out.2.mono ?_; rintro e w8 ⟨rfl, hw8⟩; obtain rfl := hw8.symm) | (go_at_call 20; refine HAW.out.1.mono ?_; rintro e w8 ⟨rfl, hw8⟩; have HQ1 : Hid True := Lib.hid trivial; obtain rfl := hw8.symm))
                exact ⟨⟨t + 1, k, by omega, rfl, by go_num, Lib.hid ⟨_, (HFN.out false rfl _ rfl).out⟩⟩, by simp [intOf]; omega⟩
            · have e3 : (g.op == 3) = false := by simp [h3']
              have HY : Hid (Cn.Goods n (vals ++ [false])) := Lib.hid (hei.good.app (Cn.net_ok.1 HE.out).2 hgg ⟨fun _ => rfl, fun h => absurd h h3'⟩)
              rw [if_neg h2', Nat.add_zero] at hcs
              have HCS := Lib.hid hcs
              have HR := Lib.hid hrow
              clear hei hWr hg hok hcs hct hfl hgg hrow h2' h3' HT
              go_wp2
              refine ⟨⟨t + 1, k, by omega, rfl, by go_num, Lib.hid ⟨vals ++ [false], ?_, HY.out, ?_, ?_, HX.out.1.kp.trans (Kp.of0 HW.out.1 _)⟩⟩, by simp [intOf]; omega⟩
              · rw [List.length_append, HX.out.1.len]; rfl
              · rw [HCS.out]; exact HX.out.1.k
              · rw [← full_next (by rw [HX.out.1.len]; exact hlt)]; exact HR.out
        · obtain rfl : t = N := by omega
          have hfl : full t vals = vals := by unfold full; rw [hei.len, Nat.sub_self]; simp
          have hrow := hei.row
          rw [hfl] at hrow
          have HZ := Lib.hid (show EvP w n (.returned (.tuple #[.slice (some ⟨bv, 0, none⟩) t t, .int .i64 0])) wr from ⟨HG.out.2.2.1.trans hWr, _, _, _, _, rfl, .inr ⟨rfl, HE.out, ⟨_, _, rfl⟩, vals, HN.out.1, by rw [hei.len]; exact HN.out.1, hei.good.all (by rw [hei.len]; exact HN.out.1), bools_row hrow⟩⟩)
          clear hei hWr hfl hrow HT
          go_wp2
          refine bodyPost_ret (results_tmp2 rfl _ _ _) rfl ?_
          exact HZ.out
    · have e2 : ((C : Int) != (I : Int)) = true := by simp; omega
      clear hci
      go_enter Tryd.func19, Tryd.ntmps19
      go_wp2_with (first
        | (rw [← hW]; go_at_call 32; refine HG.out.2.2.2.1.mono ?_; rintro e w1 ⟨rfl, hg1⟩; have d0 := hg1.cell c0 (by simp); have H1 := Lib.hid hg1; clear hg1 c0 hW)
        | (go_at_call 34; refine (HG.out.2.2.2.2 _ H1.out).mono ?_; rintro e w2 ⟨⟨b, c, rfl⟩, hg2⟩; have H2 := Lib.hid (H1.out.trans hg2); clear hg2 d0))
      exact bodyPost_ret (results_tmp2 rfl _ _ _) rfl ⟨HG.out.2.2.1.trans H2.out, none, 0, 0, 23, rfl, .inl (by decide)⟩
  · have e1 : (E != 0) = true := by simp [h0]
    have HE := Lib.hid h0
    clear h0 hE
    go_enter Tryd.func19, Tryd.ntmps19
    go_wp2_with (rw [← hW]; go_at_call 32; refine HG.out.2.2.2.1.mono ?_; rintro e w1 ⟨rfl, hg1⟩; have H1 := Lib.hid hg1; clear hg1 c0 hW)
    exact bodyPost_ret (results_tmp2 rfl _ _ _) rfl ⟨HG.out.2.2.1.trans H1.out, none, 0, 0, E, rfl, .inl HE.out⟩
end Go.Proofs.YtdhgopcfjomjaaaDoor
