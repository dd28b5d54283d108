/- cnf.written. -/
import Derived.Test.YtdhgopcfjomjaaaDoorCnT
namespace Go.Proofs.YtdhgopcfjomjaaaDoor
open Go.RowKit Go.Maps Go.WideMaps
open Go.Lib hiding intOf
open Cn (I64)

theorem NumsAt.bl {W wr : World} {a : Option Addr} {l : List Int} (h : NumsAt W a l) (hb : Below W.heap.size W wr) : NumsAt wr a l := fun i n hi => by
  obtain ⟨b, o, e, hc⟩ := h i n hi
  exact ⟨b, o, e, (cell_of_block (hb.block b (lt_of_some hc))).trans hc⟩
theorem RowsAt.bl {W wr : World} {a : Option Addr} {L : List (List Int)} (h : RowsAt W a L) (hb : Below W.heap.size W wr) : RowsAt wr a L := fun i l hi => by
  obtain ⟨b, o, ra, rc, e, h1, h2, h3⟩ := h i l hi
  exact ⟨b, o, ra, rc, e, (cell_of_block (hb.block b (lt_of_some h1))).trans h1, h2.bl hb, h3⟩
/-- a text under way: bytes of one's own from block B on -/
def Tx (B : Nat) (W0 : World) (T : List UInt8) (v : Value) (w : World) : Prop := Below B W0 w ∧ w.ownsRow B 5 1 v T.length (byteCells T) ∧ B ≤ w.heap.size
theorem Tx.next {B : Nat} {W0 w w' : World} {T T' : List UInt8} {v v' : Value} (h : Tx B W0 T v w) (hb : Below B w w') (ho : w'.ownsRow B 5 1 v' T'.length (byteCells T')) : Tx B W0 T' v' w' := ⟨h.1.trans hb, ho, Nat.le_trans h.2.2 hb.size⟩
theorem Tx.alloc {B : Nat} {W0 w : World} {T : List UInt8} {v : Value} (h : Tx B W0 T v w) (o : Obj) : Tx B W0 T v (w.alloc o) := ⟨h.1.trans (below_none (World.grownBy_alloc w o none) h.2.2), h.2.1.alloc o, by rw [World.size_alloc]; have := h.2.2; omega⟩
theorem appInt {B : Nat} {W0 w : World} {T : List UInt8} {v : Value} (htb : TabBelow Tryd.prog B W0 "internal/strconv.uint64pow10" .u64 pow10Tab) (h : Tx B W0 T v w) (i : Int) (hi : I64 i) (hl : T.length ≤ 1000000000) :
    Calls Tryd.prog 45 #[v, .int .i64 i, .int .i64 10] w fun e w' => ∃ v', e = .returned v' ∧ Tx B W0 (T ++ itoa i) v' w' := by
  refine (Tryd.strconv_AppendInt_10 B T.length i hi.1 hi.2 v (byteCells T) w h.2.1 h.2.2 (by omega) (fun w' hb => htb w' (h.1.trans hb))).mono ?_
  rintro e w' ⟨v', he, h1, h2, _⟩
  rw [← byteCells_app, ← List.length_append] at h1
  exact ⟨v', he, h.next h2 h1⟩
theorem itoa_pos (n : Int) : 0 < (itoa n).length := by
  by_cases hneg : n < 0
  · obtain ⟨u, rfl⟩ : ∃ u : Nat, n = -(u : Int) := ⟨n.natAbs, by omega⟩
    rw [itoa_neg u (by omega), List.length_cons]
    omega
  · obtain ⟨u, rfl⟩ : ∃ u : Nat, n = (u : Int) := ⟨n.toNat, by omega⟩
    rw [itoa_nonneg, decDigits_length]
    exact nDigits_pos u

abbrev hd6 : List UInt8 := [112, 32, 99, 110, 102, 32]
set_option maxHeartbeats 4000000 in
set_option maxRecDepth 100000 in
theorem written_any (w : World) (f : Cn.Fm) (a : Option Addr) (cap : Nat) (h : RowsAt w a f.cl) (hw : Cn.wt f.cl ≤ 200000) (hv : I64 f.vars) (ht : Tab w) :
    Calls Tryd.prog 35 #[.agg #[.int .i64 f.vars, .slice a f.cl.length cap]] w fun e w' => ∃ v, e = .returned v ∧ w'.ownsRow (w.heap.size + 1) 5 1 v (Cn.txt f).length (byteCells (Cn.txt f)) ∧ w.grownBy w' none := by
  obtain ⟨T, hT⟩ : ∃ T, T = Cn.txt f := ⟨_, rfl⟩
  rw [← hT]
  obtain ⟨vs, L⟩ := f
  simp only at *
  have hln := Cn.wt_len L
  have hm63 : L.length ≤ 9223372036854775807 := by omega
  have hct := Cn.clsT_len L h.i64
  obtain ⟨N, hN⟩ : ∃ N, N = L.length := ⟨_, rfl⟩
  obtain ⟨W0, hW0⟩ : ∃ W0, W0 = w.alloc (.cells #[.int .i64 vs, .slice a N cap] 24) := ⟨_, rfl⟩
  obtain ⟨B, hB⟩ : ∃ B, B = w.heap.size + 1 := ⟨_, rfl⟩
  have hs0 : W0.heap.size = B := by rw [hW0, hB]; simp
  have hg0 : w.grownBy W0 none := by rw [hW0]; exact World.grownBy_alloc _ _ _
  obtain ⟨W1, hW1⟩ : ∃ W1, W1 = W0.alloc (.cells #[.int .u8 112, .int .u8 32, .int .u8 99, .int .u8 110, .int .u8 102, .int .u8 32] 5 (6, 7)) := ⟨_, rfl⟩
  have hg1 : W0.grownBy W1 none := by rw [hW1]; exact World.grownBy_alloc _ _ _
  have hr1 : W1.heap[B]? = some (.cells #[.int .u8 112, .int .u8 32, .int .u8 99, .int .u8 110, .int .u8 102, .int .u8 32] 5 (6, 7)) := by rw [hW1, ← hs0]; exact heap_alloc_new _ _
  have hcvt : (convert 66 66 (.slice (some ⟨w.heap.size + 1, 0, none⟩) 6 6)).run Tryd.prog (W0.alloc (.cells #[.int .u8 112, .int .u8 32, .int .u8 99, .int .u8 110, .int .u8 102, .int .u8 32] 5)) = .ok (.slice (some ⟨w.heap.size + 1, 0, none⟩) 6 6) W1 := by
    have := run_convert_bytes_const (P := Tryd.prog) W0 66 5 #[.int .u8 112, .int .u8 32, .int .u8 99, .int .u8 110, .int .u8 102, .int .u8 32] 6 6 Tryd.underlying66 Tryd.underlying5
    rw [hs0, hB] at this
    rw [hW1]
    exact this
  rw [hW0] at hcvt
  have c0 : W1.cell? ⟨w.heap.size, 0, none⟩ = some (.int .i64 vs) := hg1.cell (by rw [hW0]; simp) (by simp)
  have c1 : W1.cell? ⟨w.heap.size, 1, none⟩ = some (.slice a N cap) := hg1.cell (by rw [hW0]; simp) (by simp)
  have hia : Calls Tryd.prog 44 #[.int .i64 vs] W1 fun e w' => e = .returned (.string ⟨(itoa vs).toArray⟩) ∧ W1.grownBy w' none := (Tryd.strconv_Itoa vs hv.1 hv.2 W1 ((ht.on hg0).on hg1)).mono (by rintro e w' ⟨h1, k, os, rfl⟩; exact ⟨h1, fz_grow W1 k os⟩)
  have htb : TabBelow Tryd.prog B W0 "internal/strconv.uint64pow10" .u64 pow10Tab := by rw [← hs0]; exact tabBelow_of_tabIs (ht.on hg0)
  have HTB := Lib.hid htb
  have HC0 : Hid (W0.cell? ⟨w.heap.size, 1, none⟩ = some (.slice a N cap)) := Lib.hid (by rw [hW0]; simp)
  have HG := Lib.hid (And.intro hg0 (And.intro hg1 (And.intro hr1 hs0)))
  have HL := Lib.hid (And.intro h (And.intro hct hw))
  have hiv := itoa_length_le vs hv.1 hv.2
  have HI := Lib.hid (And.intro hiv (itoa_pos vs))
  have HN := Lib.hid hN
  have HB := Lib.hid hB
  have HT := Lib.hid hT
  rw [← hN] at hm63 ⊢
  clear hT hct hg0 hg1 hr1 htb h hln hN hs0 hB hiv hv hw ht hW1 hW0
  go_enter Tryd.func35, Tryd.ntmps35
  go_upto_region 2 with (first
    | (go_at_call 44; refine hia.mono ?_; rintro e w2 ⟨rfl, hg2⟩; have H2 := Lib.hid hg2; have d1 := hg2.cell c1 (by simp); clear hg2)
    | (at_builtin; refine wpList_txn rfl _ _ rfl (B := B) (g := w.heap.size + 1) (t := hd6) rfl (fun j u hj => H2.out.cell ((cell_of_row _ _ _ _ _ _ (HB.out ▸ HG.out.2.2.1)).trans (by simpa [byteCells] using hj)) (by simp)) (itoa vs) rfl HI.out.2 (by have := HI.out.1; omega) (by decide) (by have := HG.out.2.2.2; have := HG.out.2.1.size; have := H2.out.size; omega) ?_; intro v3 w3 ho3 hb3; have H3 : Hid (Tx B W0 (hd6 ++ itoa vs) v3 w3) := Lib.hid ⟨((below_none (HG.out.2.1.trans H2.out) (Nat.le_of_eq HG.out.2.2.2.symm))).trans hb3, ho3, by have := HG.out.2.2.2; have := HG.out.2.1.size; have := H2.out.size; have := hb3.size; omega⟩; clear ho3 hb3))
  clear hcvt hia c0 c1
  go_upto_region 3 with (at_builtin; refine wpList_tx1 rfl _ _ rfl rfl (H3.out.alloc _).2.1 w3.heap.size 32 rfl (heap_alloc_new w3 _) (by have := HI.out.1; simp only [List.length_append, List.length_cons, List.length_nil]; omega) (H3.out.alloc _).2.2 ?_; intro v4 w4 ho4 hb4; have H4 : Hid (Tx B W0 (hd6 ++ itoa vs ++ [32]) v4 w4) := Lib.hid ((H3.out.alloc _).next hb4 ho4); clear ho4 hb4)
  have c0 : w4.cell? ⟨w.heap.size, 1, none⟩ = some (.slice a N cap) := (cell_of_block (H4.out.1.block _ (by have := HB.out; omega))).trans HC0.out
  go_upto_region 4 with (go_at_call 45; refine (appInt HTB.out H4.out (N : Int) (by unfold I64; omega) (by have := HI.out.1; simp only [List.length_append, List.length_cons, List.length_nil]; omega)).mono ?_; rintro e w5 ⟨v5, rfl, h5⟩; have H5 := Lib.hid h5; clear h5)
  have hi2 := itoa_length_le (N : Int) (by omega) (by omega)
  have HI2 := Lib.hid hi2
  clear hi2
  go_upto_region 5 with (at_builtin; refine wpList_tx1 rfl _ _ rfl rfl (H5.out.alloc _).2.1 w5.heap.size 10 rfl (heap_alloc_new w5 _) (by have := HI.out.1; have := HI2.out; simp only [List.length_append, List.length_cons, List.length_nil]; omega) (H5.out.alloc _).2.2 ?_; intro v6 w6 ho6 hb6; have H6 : Hid (Tx B W0 (hd6 ++ itoa vs ++ [32] ++ itoa (N : Int) ++ [10]) v6 w6) := Lib.hid ((H5.out.alloc _).next hb6 ho6); clear ho6 hb6)
  clear c0
  have c0 : w6.cell? ⟨w.heap.size, 1, none⟩ = some (.slice a N cap) := (cell_of_block (H6.out.1.block _ (by have := HB.out; omega))).trans HC0.out
  obtain ⟨hd, hhd⟩ : ∃ hd, hd = hd6 ++ itoa vs ++ [32] ++ itoa (N : Int) ++ [10] := ⟨_, rfl⟩
  have hdl : hd.length ≤ 60 := by rw [hhd]; have := HI.out.1; have := HI2.out; simp only [List.length_append, List.length_cons, List.length_nil]; omega
  rw [← hhd] at H6
  have HHD := Lib.hid (And.intro hhd hdl)
  clear hhd hdl
  go_wp2
  go_loopw [3, 28] (fun tv iv wr => ∃ t : Nat, t ≤ N ∧ iv = .int .i64 (t : Int) ∧ Hid (Tx B W0 (hd ++ Cn.clsT (L.take t)) tv wr)) (fun _ iv _ => N - (intOf iv).toNat)
  case atStart => exact ⟨0, Nat.zero_le _, rfl, Lib.hid (by have := H6.out; simpa [Cn.clsT] using this)⟩
  case round =>
    obtain ⟨t, ht, rfl, HT2⟩ := hrel
    by_cases hlt : t < N
    · obtain ⟨l, hl⟩ : ∃ l, L[t]? = some l := ⟨_, List.getElem?_eq_getElem (by rw [← HN.out]; exact hlt)⟩
      obtain ⟨bb, o, ra, rc, rfl, hc, hnum, _, hlm, h64⟩ := ((HL.out.1.on HG.out.1).bl (by rw [HG.out.2.2.2]; exact HT2.out.1)) t l hl
      have hst := Cn.clsT_step hl
      have hsz := Cn.clsT_len (L.take (t + 1)) (fun l2 h2 => HL.out.1.i64 l2 (List.mem_of_mem_take h2))
      have hwt := Cn.wt_take L (t + 1)
      rw [hst, List.length_append, Cn.clT_eq, List.length_append] at hsz
      have hm64 : l.length ≤ 9223372036854775807 := by omega
      have hnum0 : NumsAt (W0) ra l := by
        obtain ⟨_, _, ra2, rc2, e2, hc2, hn2, _⟩ := (HL.out.1.on HG.out.1) t l hl
        cases e2
        have hc3 := (cell_of_block ((HT2.out.1.block bb (by rw [← HG.out.2.2.2]; exact lt_of_some hc2)))).trans hc2
        rw [hc] at hc3
        cases hc3
        exact hn2
      have HS := Lib.hid (And.intro hst (And.intro h64 (And.intro hnum0 (show (Cn.clsT (L.take t)).length + (Cn.litsT l).length ≤ 4400000 by have := HL.out.2.2; omega))))
      obtain ⟨M, hM⟩ : ∃ M, M = l.length := ⟨_, rfl⟩
      rw [← hM] at hc hm64
      have HM := Lib.hid hM
      clear hst hsz hwt hnum h64 hnum0 hlm hl hM
      obtain ⟨P, hP⟩ : ∃ P, P = hd ++ Cn.clsT (L.take t) := ⟨_, rfl⟩
      rw [← hP] at HT2
      have hpl : P.length ≤ 60 + (Cn.clsT (L.take t)).length := by rw [hP, List.length_append]; have := HHD.out.2; omega
      have HP := Lib.hid (And.intro hP hpl)
      clear hP hpl
      go_wp2
      go_loopw [3, 34] (fun tv iv wr => ∃ u : Nat, u ≤ M ∧ iv = .int .i64 (u : Int) ∧ Hid (Tx B W0 (P ++ Cn.litsT (l.take u)) tv wr)) (fun _ iv _ => M - (intOf iv).toNat)
      case atStart => exact ⟨0, Nat.zero_le _, rfl, Lib.hid (by have := HT2.out; simpa [Cn.litsT] using this)⟩
      case round =>
        obtain ⟨u, hu, rfl, HU⟩ := hrel
        by_cases hul : u < M
        · obtain ⟨x, hx⟩ : ∃ x, l[u]? = some x := ⟨_, List.getElem?_eq_getElem (by rw [← HM.out]; exact hul)⟩
          obtain ⟨b1, o1, rfl, hd1⟩ := (HS.out.2.2.1.bl (by rw [HG.out.2.2.2]; exact HU.out.1)) u x hx
          have hxi := HS.out.2.1 x (List.mem_of_getElem? hx)
          have hls := Cn.litsT_step hx
          have hll : (Cn.litsT (l.take u)).length ≤ (Cn.litsT l).length := by
            have e := congrArg List.length (show Cn.litsT l = Cn.litsT (l.take u) ++ Cn.litsT (l.drop u) by unfold Cn.litsT; rw [← List.flatten_append, ← List.map_append, List.take_append_drop])
            rw [List.length_append] at e
            omega
          have hxl := itoa_length_le x hxi.1 hxi.2
          have HX := Lib.hid (And.intro hls (And.intro hxl (show (P ++ Cn.litsT (l.take u)).length ≤ 5000000 by rw [List.length_append]; have := HP.out.2; have := HS.out.2.2.2; omega)))
          have HXI := Lib.hid hxi
          clear hx hxi hls hll hxl
          go_upto_region 12 with (go_at_call 45; refine (appInt HTB.out HU.out x HXI.out (by have := HX.out.2.2; omega)).mono ?_; rintro e w7 ⟨v7, rfl, h7⟩; have H7 := Lib.hid h7; clear h7)
          go_wp2_with (at_builtin; refine wpList_tx1 rfl _ _ rfl rfl (H7.out.alloc _).2.1 w7.heap.size 32 rfl (heap_alloc_new w7 _) (by have := HX.out.2.1; have := HX.out.2.2; rw [List.length_append]; omega) (H7.out.alloc _).2.2 ?_; intro v8 w8 ho8 hb8; have H8 : Hid (Tx B W0 (P ++ Cn.litsT (l.take u) ++ itoa x ++ [32]) v8 w8) := Lib.hid ((H7.out.alloc _).next hb8 ho8); clear ho8 hb8)
          refine ⟨⟨u + 1, by omega, by go_num, Lib.hid ?_⟩, by simp [intOf]; omega⟩
          rw [HX.out.1, ← List.append_assoc, ← List.append_assoc]
          exact H8.out
        · obtain rfl : u = M := by omega
          have hu1 := HU.out
          rw [HM.out, List.take_length] at hu1
          have H9 := Lib.hid hu1
          have HPL : Hid ((P ++ Cn.litsT l).length ≤ 5000000) := Lib.hid (by rw [List.length_append]; have := HP.out.2; have := HS.out.2.2.2; omega)
          clear hu1
          go_wp2_with (at_builtin; refine wpList_txs rfl _ _ rfl rfl H9.out.2.1 [48, 10] rfl (by decide) (by have := HPL.out; omega) H9.out.2.2 ?_; intro v8 w8 ho8 hb8; have H8 : Hid (Tx B W0 (P ++ Cn.litsT l ++ [48, 10]) v8 w8) := Lib.hid (H9.out.next hb8 ho8); clear ho8 hb8)
          refine ⟨⟨t + 1, by omega, by go_num, Lib.hid ?_⟩, by simp [intOf]; omega⟩
          rw [HS.out.1, Cn.clT_eq, ← List.append_assoc, ← List.append_assoc, ← HP.out.1]
          exact H8.out
    · obtain rfl : t = N := by omega
      go_wp2
      go_ret
      have h1 := HT2.out
      rw [HN.out, List.take_length] at h1
      have e1 : hd ++ Cn.clsT L = T := by rw [HT.out, HHD.out.1]; unfold Cn.txt Cn.headT; rw [HN.out]
      rw [e1] at h1
      refine ⟨_, rfl, by rw [← HB.out]; exact h1.2.1, ?_⟩
      have h2 := HG.out
      exact ⟨h1.1.os.trans h2.1.os, h1.1.tape.trans h2.1.tape, h1.1.output.trans h2.1.output, by have := h1.2.2; have := HB.out; omega, fun k hk _ => (h1.1.block k (by have := HB.out; omega)).trans (h2.1.block k hk (by simp))⟩
end Go.Proofs.YtdhgopcfjomjaaaDoor
