/- metronomeref22.Text. -/
import Derived.Test.YtdhgopcfjomjaaaDoorCqB
namespace Go.Proofs.YtdhgopcfjomjaaaDoor
open Go.RowKit Go.Maps Go.WideMaps
open Go.Lib hiding intOf run_convert_string_bytes
open Cn (I64)

def Ty (B : Nat) (W0 : World) (T : List UInt8) (v : Value) (w : World) : Prop := Below B W0 w ∧ OwX w B v T ∧ B ≤ w.heap.size
theorem Ty.next {B : Nat} {W0 w w' : World} {T T' : List UInt8} {v v' : Value} (h : Ty B W0 T v w) (ho : OwX w' B v' T') (hb : Below B w w') : Ty B W0 T' v' w' := ⟨h.1.trans hb, ho, Nat.le_trans h.2.2 hb.size⟩
theorem Ty.alloc {B : Nat} {W0 w : World} {T : List UInt8} {v : Value} (h : Ty B W0 T v w) (o : Obj) : Ty B W0 T v (w.alloc o) := ⟨h.1.trans (below_none (World.grownBy_alloc w o none) h.2.2), h.2.1.block (World.grownBy_alloc w o none), by rw [World.size_alloc]; have := h.2.2; omega⟩
theorem OwX.str {w : World} {B : Nat} {v : Value} {T : List UInt8} (h : OwX w B v T) : (convert 66 9 v).run Tryd.prog w = .ok (.string ⟨T.toArray⟩) w := by
  obtain ⟨g, cap, rfl, _, _, _, _, h3, _⟩ := h
  exact run_convert_bytes_back (P := Tryd.prog) w 66 9 5 ⟨g, 0, none⟩ cap T Tryd.underlying66 Tryd.underlying5 Tryd.underlying9 (fun j hj => by
    have := h3 j _ (by unfold byteCells; rw [List.getElem?_map, List.getElem?_eq_getElem hj]; rfl)
    simpa [addr_at] using this)
theorem gdal (V : World) (o : Obj) : V.grownBy (V.drew.alloc o) none := ⟨rfl, rfl, rfl, by simp, fun k hk _ => heap_alloc_old V.drew _ hk⟩
theorem wpList_ox {ops : Array Oper} {rest : List Oper} {o : Oper} {a : Act} {Q : Exit → Act → World → Prop} {w : World} (hgd : o.guard = none) (s x : Operand) (t1 t2 : TypeId)
    (ho : o.op = .call { callee := .builtin .append, args := #[s, x], argTypes := #[t1, t2] }) {v y : Value} (hs : a.eval s = v) (hx : a.eval x = y) {R : Value → World → Prop}
    (hrun : ∃ v' w', (Builtin.append_ #[t1, t2] o.type #[v, y]).run Tryd.prog w = .ok v' w' ∧ R v' w')
    (h : ∀ v' w', R v' w' → wpList Tryd.prog ops Q rest (a.put o.dst v') w') : wpList Tryd.prog ops Q (o :: rest) a w := by
  obtain ⟨v', w', hr, hR⟩ := hrun
  refine wpList_plain hgd fun K hK => ?_
  unfold Oper.wp execOp
  simp only [ho, resolve, invoke, builtin, Sem.run_bind, Sem.run_pure, Result.andThen_ok, List.map_toArray, List.map_cons, List.map_nil, hs, hx, hr]
  exact hK _ _ (h v' w' hR)

theorem wpL_put {P : Program} {ops : Array Oper} {Q : Exit → Act → World → Prop} {md : Region.Mode} {S : World → Prop} {Z : List Nat} {i d : Nat} {oi : Oper} {f : Nat} {l : Array Bool} {a : Act} {w w' : World} {v : Value} (hr : Region.ready md ops l = [i]) (hi : ops[i]? = some oi)
    (hdst : oi.dst = some d) (hw : Region.wanted oi (yielded ops a.tmps) = true) (hrun : (execOp a.eval oi).run P w = .ok (.value v) w') (hS : i ∉ Z → S w') (h : wpL P md ops Q S Z f (l.setIfInBounds i true) (a.put (some d) v) w') : wpL P md ops Q S Z (f + 1) l a w := by
  refine wpL_one hr (wpOp_now hi hw (fun K' hK => ?_))
  unfold Oper.wp
  rw [hrun]
  refine hK _ _ ⟨hS, ?_⟩
  rw [hdst]
  exact h
set_option maxHeartbeats 4000000 in
set_option maxRecDepth 100000 in
theorem rtext_any (w : World) (f : Cn.Fm) (a : Option Addr) (cap : Nat) (h : RowsAt w a f.cl) (hm : f.cl.length ≤ 140737488351232) (hv : I64 f.vars) :
    Calls Tryd.prog 22 #[.agg #[.int .i64 f.vars, .slice a f.cl.length cap]] w fun e w' => e = .returned (.string ⟨(Cn.textOf f).toArray⟩) ∧ w.grownBy w' none := by
  obtain ⟨W0, hW0⟩ : ∃ W0, W0 = w.alloc (.cells #[.int .i64 f.vars, .slice a f.cl.length cap] 24) := ⟨_, rfl⟩
  have hg0 : w.grownBy W0 none := by rw [hW0]; exact World.grownBy_alloc _ _ _
  have c0 : W0.cell? ⟨w.heap.size, 0, none⟩ = some (.int .i64 f.vars) := by rw [hW0]; simp
  have c1 : W0.cell? ⟨w.heap.size, 1, none⟩ = some (.slice a f.cl.length cap) := by rw [hW0]; simp
  have hch := rcheck_any W0 f a cap (h.on hg0) hm hv
  obtain ⟨T, hT⟩ : ∃ T, T = Cn.textOf f := ⟨_, rfl⟩
  rw [← hT]
  unfold Cn.textOf at hT
  by_cases hc : Cn.check f = 0
  · rw [if_pos hc] at hT
    rw [hc] at hch
    have hok := Cn.check_ok.1 hc
    obtain ⟨vs, L⟩ := f
    simp only at *
    have hln := Cn.wt_len L
    have hct := Cn.clsT_len L h.i64
    have hi1 := itoa_length_le vs hv.1 hv.2
    have hi2 := itoa_length_le (L.length : Int) (by omega) (by omega)
    have hb1 : -9000000000000000000 ≤ vs ∧ vs ≤ 9000000000000000000 := by omega
    have hb2 : -9000000000000000000 ≤ (L.length : Int) ∧ (L.length : Int) ≤ 9000000000000000000 := by omega
    obtain ⟨N, hN⟩ : ∃ N, N = L.length := ⟨_, rfl⟩
    rw [← hN] at hi2 hb2 c1 hch hW0 ⊢
    have hm63 : N ≤ 9223372036854775807 := by omega
    have hbb : ∀ x, x = vs ∨ x = (N : Int) → -9000000000000000000 ≤ x ∧ x ≤ 9000000000000000000 := fun x h => by rcases h with rfl | rfl; exact hb1; exact hb2
    have HH := Lib.hid (And.intro hch hg0)
    have HL := Lib.hid (And.intro h (And.intro hct (And.intro hok (And.intro hT hN))))
    have hcv := fun (V : World) (s : ByteArray) => run_bytes_of_string (P := Tryd.prog) V 9 66 5 s Tryd.underlying9 Tryd.underlying66 Tryd.underlying5
    have q1 : ¬ 9223372036854775807 < 6 + (itoa vs).length := by omega
    have q2 : ¬ 9223372036854775807 < 6 + (itoa vs).length + 1 := by omega
    have q3 : ¬ 9223372036854775807 < 6 + (itoa vs).length + 1 + (itoa (N : Int)).length := by omega
    have q4 : ¬ 9223372036854775807 < 6 + (itoa vs).length + 1 + (itoa (N : Int)).length + 1 := by omega
    have HI := Lib.hid (And.intro hi1 hi2)
    clear hi1 hi2
    clear hch hg0 h hct hok hT hN hln hm hv hc
    go_enter Tryd.func22, Tryd.ntmps22
    go_upto_region 3 with (rw [← hW0]; go_at_call 12; refine HH.out.1.mono ?_; rintro e w1 ⟨rfl, hg1⟩; have d0 := hg1.cell c0 (by simp); have d1 := hg1.cell c1 (by simp); have H1 := Lib.hid hg1; clear hg1 c0 c1)
    have hS : w1.cell? ⟨w.heap.size, 0, none⟩ = some (.int .i64 vs) ∧ w1.cell? ⟨w.heap.size, 1, none⟩ = some (.slice a N cap) ∧ Hid (w1.grownBy w1 none) := ⟨d0, d1, Lib.hid (World.grownBy.refl _ _)⟩
    have hSd := hsDrew hS
    have HC := Lib.hid hS
    clear hW0 d0 d1
    go_wp2
    obtain ⟨hd, hhd⟩ : ∃ hd, hd = hd6 ++ itoa vs ++ [32] ++ itoa (N : Int) ++ [10] := ⟨_, rfl⟩
    have hdl : hd.length ≤ 60 := by have := HI.out; rw [hhd]; simp only [List.length_append, List.length_cons, List.length_nil]; omega
    refine wp_region_L (S := fun V' => V'.cell? ⟨w.heap.size, 0, none⟩ = some (.int .i64 vs) ∧ V'.cell? ⟨w.heap.size, 1, none⟩ = some (.slice a N cap)) (Z := [12]) (by kernel_rfl) ?_
    obtain ⟨V, hV⟩ : ∃ V, V = w1.drew := ⟨_, rfl⟩
    rw [← hV] at hSd ⊢
    have hS2 : V.cell? ⟨w.heap.size, 0, none⟩ = some (.int .i64 vs) ∧ V.cell? ⟨w.heap.size, 1, none⟩ = some (.slice a N cap) := ⟨hSd.1, hSd.2.1⟩
    have HS2 := Lib.hid hS2
    clear hSd hS
    obtain ⟨T1, hT1⟩ : ∃ T1, T1 = hd6 ++ itoa vs := ⟨_, rfl⟩
    obtain ⟨T2, hT2⟩ : ∃ T2, T2 = T1 ++ [32] := ⟨_, rfl⟩
    obtain ⟨T3, hT3⟩ : ∃ T3, T3 = T2 ++ itoa (N : Int) := ⟨_, rfl⟩
    have hh4 : hd = T3 ++ [10] := by rw [hhd, hT3, hT2, hT1]
    have a1 : (⟨#[112, 32, 99, 110, 102, 32]⟩ : ByteArray) ++ ⟨(itoa vs).toArray⟩ = ⟨T1.toArray⟩ := by rw [hT1]; exact bs_app hd6 _
    have a2 : (⟨T1.toArray⟩ : ByteArray) ++ ⟨#[32]⟩ = ⟨T2.toArray⟩ := by rw [hT2]; exact bs_app _ [32]
    have a3 : (⟨T2.toArray⟩ : ByteArray) ++ ⟨(itoa (N : Int)).toArray⟩ = ⟨T3.toArray⟩ := by rw [hT3]; exact bs_app _ _
    have a4 : (⟨T3.toArray⟩ : ByteArray) ++ ⟨#[10]⟩ = ⟨hd.toArray⟩ := by rw [hh4]; exact bs_app _ [10]
    have l1 : T1.length ≤ 30 := by have := HI.out; rw [hT1]; simp only [List.length_append, List.length_cons, List.length_nil]; omega
    have l2 : T2.length ≤ 31 := by rw [hT2]; simp only [List.length_append, List.length_cons, List.length_nil]; omega
    have l3 : T3.length ≤ 52 := by have := HI.out; rw [hT3]; simp only [List.length_append]; omega
    have hi2 := HI.out.2
    have u1 : ¬ 9223372036854775807 < T1.length + 1 := by omega
    have u2 : ¬ 9223372036854775807 < T2.length + (itoa (N : Int)).length := by omega
    have u3 : ¬ 9223372036854775807 < T3.length + 1 := by omega
    clear hi2 l1 l2 l3 hT1 hT2 hT3 hh4
    clear hS2
    (try simp only [Act.put, sA, sB, sC])
    refine t2 0 9 (.pointer (some ⟨w.heap.size, 0, none⟩)) (fun w' hw' => ?_) HS2.out ?_
    · obtain ⟨x0, x1⟩ := hw'; go_simp
    (try simp only [Act.put, sA, sB, sC])
    refine t2 1 10 (.int .i64 vs) (fun w' hw' => ?_) HS2.out ?_
    · obtain ⟨x0, x1⟩ := hw'; go_simp
    (try simp only [Act.put, sA, sB, sC])
    refine t2 5 14 (.pointer (some ⟨w.heap.size, 1, none⟩)) (fun w' hw' => ?_) HS2.out ?_
    · obtain ⟨x0, x1⟩ := hw'; go_simp
    (try simp only [Act.put, sA, sB, sC])
    refine t2 6 15 (.slice a N cap) (fun w' hw' => ?_) HS2.out ?_
    · obtain ⟨x0, x1⟩ := hw'; go_simp
    (try simp only [Act.put, sA, sB, sC])
    refine t2 7 16 (.int .i64 (N : Int)) (fun w' hw' => ?_) HS2.out ?_
    · obtain ⟨x0, x1⟩ := hw'; go_simp
    (try simp only [Act.put, sA, sB, sC])
    refine wpL_call (i := 2) (d := 11) (R := fun v w' => v = .string ⟨(itoa vs).toArray⟩ ∧ w' = V) (by kernel_rfl) rfl (by kernel_rfl) (by kernel_rfl) (by kernel_rfl) ((rnumber_any vs hb1 V).mono fun e w' he => ⟨_, he.1, rfl, he.2⟩) (fun v w' h => by rw [h.2]; exact HS2.out) (fun v w' h => ?_)
    rw [h.1, h.2]
    clear h w' v
    (try simp only [Act.put, sA, sB, sC])
    refine t2 3 12 (.string ⟨T1.toArray⟩) (fun w' hw' => ?_) HS2.out ?_
    · obtain ⟨x0, x1⟩ := hw'; go_simp
    (try simp only [Act.put, sA, sB, sC])
    refine t2 4 13 (.string ⟨T2.toArray⟩) (fun w' hw' => ?_) HS2.out ?_
    · obtain ⟨x0, x1⟩ := hw'; go_simp
    (try simp only [Act.put, sA, sB, sC])
    refine wpL_call (i := 8) (d := 17) (R := fun v w' => v = .string ⟨(itoa (N : Int)).toArray⟩ ∧ w' = V) (by kernel_rfl) rfl (by kernel_rfl) (by kernel_rfl) (by kernel_rfl) ((rnumber_any (N : Int) hb2 V).mono fun e w' he => ⟨_, he.1, rfl, he.2⟩) (fun v w' h => by rw [h.2]; exact HS2.out) (fun v w' h => ?_)
    rw [h.1, h.2]
    clear h w' v
    (try simp only [Act.put, sA, sB, sC])
    refine t2 9 18 (.string ⟨T3.toArray⟩) (fun w' hw' => ?_) HS2.out ?_
    · obtain ⟨x0, x1⟩ := hw'; go_simp
    (try simp only [Act.put, sA, sB, sC])
    refine t2 10 19 (.string ⟨hd.toArray⟩) (fun w' hw' => ?_) HS2.out ?_
    · obtain ⟨x0, x1⟩ := hw'; go_simp
    (try simp only [Act.put, sA, sB, sC])
    have HVV := Lib.hid (And.intro hV (And.intro hhd hdl))
    obtain ⟨v5, V3, hcv5, hox, hgx⟩ := owx_conv V hd (by omega)
    clear hV hhd hdl hcv
    refine wpL_put (i := 11) (d := 20) (v := v5) (w' := V3) (by kernel_rfl) rfl rfl (by kernel_rfl) (by go_simp) (fun _ => ⟨hgx.cell HS2.out.1 (by simp), hgx.cell HS2.out.2 (by simp)⟩) ?_
    (try simp only [Act.put, sA, sB, sC])
    refine wpL_put (i := 12) (d := 3) (v := v5) (w' := V3) (by kernel_rfl) rfl rfl (by kernel_rfl) (by go_simp) (fun hz => absurd (by simp) hz) ?_
    (try simp only [Act.put, sA, sB, sC])
    refine wpL_done (by kernel_rfl) ?_ _
    have hg1 : w1.grownBy V3 none := (show w1.grownBy V none by rw [HVV.out.1]; exact gdrew _ _).trans hgx
    have hsV : V.heap.size = w1.heap.size := by rw [HVV.out.1]; rfl
    rw [hsV] at hox
    have HY : Hid (Ty w1.heap.size w1 hd v5 V3) := Lib.hid ⟨below_none hg1 (Nat.le_refl _), hox, hg1.size⟩
    have HHD := Lib.hid HVV.out.2
    clear HVV hox hgx hcv5 hg1 hsV q1 q2 q3 q4 a1 a2 a3 a4 u1 u2 u3
    have hlw : w.heap.size < w1.heap.size := lt_of_some HC.out.1
    have HLW := Lib.hid hlw
    have HR : Hid (RowsAt w1 a L) := Lib.hid ((HL.out.1.on HH.out.2).on H1.out)
    clear hlw hb1 hb2
    go_wp2
    go_loopw [3, 4] (fun tv iv wr => ∃ t : Nat, t ≤ N ∧ iv = .int .i64 (t : Int) ∧ Hid (Ty w1.heap.size w1 (hd ++ Cn.clsT (L.take t)) tv wr)) (fun _ iv _ => N - (intOf iv).toNat)
    case atStart => exact ⟨0, Nat.zero_le _, rfl, Lib.hid (by have := HY.out; simpa [Cn.clsT] using this)⟩
    case round =>
      obtain ⟨t, ht, rfl, HT2⟩ := hrel
      have d1 : wr.cell? ⟨w.heap.size, 1, none⟩ = some (.slice a N cap) := (cell_of_block (HT2.out.1.block _ HLW.out)).trans HC.out.2.1
      by_cases hlt : t < N
      · obtain ⟨l, hl⟩ : ∃ l, L[t]? = some l := ⟨_, List.getElem?_eq_getElem (by rw [← HL.out.2.2.2.2]; exact hlt)⟩
        have hst := Cn.clsT_step hl
        have hsz := Cn.clsT_len (L.take (t + 1)) (fun l2 h2 => HL.out.1.i64 l2 (List.mem_of_mem_take h2))
        have hwt := Cn.wt_take L (t + 1)
        rw [hst, List.length_append, Cn.clT_eq, List.length_append] at hsz
        obtain ⟨M, hM⟩ : ∃ M, M = l.length := ⟨_, rfl⟩
        have hm64 : M ≤ 9223372036854775807 := by have := HL.out.1.len l (List.mem_of_getElem? hl); omega
        have HS := Lib.hid (And.intro hst (And.intro hl (And.intro hM (show (Cn.clsT (L.take t)).length + (Cn.litsT l).length ≤ 4400000 by have := HL.out.2.2.1.2.1; omega))))
        clear hst hsz hwt hl hM
        obtain ⟨P, hP⟩ : ∃ P, P = hd ++ Cn.clsT (L.take t) := ⟨_, rfl⟩
        rw [← hP] at HT2
        have hpl : P.length ≤ 60 + (Cn.clsT (L.take t)).length := by rw [hP, List.length_append]; have := HHD.out.2; omega
        have HP := Lib.hid (And.intro hP hpl)
        clear hP hpl
        go_wp2
        clear d1
        go_loopw [3, 5] (fun tv iv wr => ∃ u : Nat, u ≤ M ∧ iv = .int .i64 (u : Int) ∧ Hid (Ty w1.heap.size w1 (P ++ Cn.litsT (l.take u)) tv wr)) (fun _ iv _ => M - (intOf iv).toNat)
        case atStart => exact ⟨0, Nat.zero_le _, rfl, Lib.hid (by have := HT2.out; simpa [Cn.litsT] using this)⟩
        case round =>
          obtain ⟨u, hu, rfl, HU⟩ := hrel
          have d1 : wr.cell? ⟨w.heap.size, 1, none⟩ = some (.slice a N cap) := (cell_of_block (HU.out.1.block _ HLW.out)).trans HC.out.2.1
          obtain ⟨bb, o, ra, rc, rfl, hc, hnum, _, hlm, h64⟩ := (HR.out.bl HU.out.1) t l HS.out.2.1
          rw [← HS.out.2.2.1] at hc
          by_cases hul : u < M
          · obtain ⟨x, hx⟩ : ∃ x, l[u]? = some x := ⟨_, List.getElem?_eq_getElem (by rw [← HS.out.2.2.1]; exact hul)⟩
            obtain ⟨b1, o1, rfl, hd1⟩ := hnum u x hx
            have hxf := Cn.fair_bnd (Cn.fairs_mem HL.out.2.2.1.2.2.2 (List.mem_of_getElem? HS.out.2.1) (List.mem_of_getElem? hx))
            have hls := Cn.litsT_step hx
            have hll : (Cn.litsT (l.take u)).length ≤ (Cn.litsT l).length := by
              have e := congrArg List.length (show Cn.litsT l = Cn.litsT (l.take u) ++ Cn.litsT (l.drop u) by unfold Cn.litsT; rw [← List.flatten_append, ← List.map_append, List.take_append_drop])
              rw [List.length_append] at e
              omega
            have hxl := itoa_length_le x (by have := HL.out.2.2.1; omega) (by have := HL.out.2.2.1; omega)
            have hrn := rnumber_any x (by have := HL.out.2.2.1; omega)
            have HX := Lib.hid (And.intro hls (And.intro hxl (And.intro (show (P ++ Cn.litsT (l.take u)).length ≤ 5000000 by rw [List.length_append]; have := HP.out.2; have := HS.out.2.2.2; omega) hrn)))
            clear hx hxf hls hll hxl hrn hnum hlm h64
            go_wp2_with (first
              | (go_at_call 36; refine (HX.out.2.2.2 _).mono ?_; rintro e w8 ⟨rfl, hw8⟩; obtain rfl := hw8.symm)
              | (at_builtin; refine wpList_ox rfl _ _ _ _ rfl rfl rfl (owx_str HU.out.2.1 HU.out.2.2 (itoa x) (itoa_pos x) (by have := HX.out.2.1; omega) (by have := HX.out.2.2.1; omega) _) ?_; rintro v3 w3 ⟨ho3, hb3⟩; have H3 := Lib.hid (HU.out.next ho3 hb3); clear ho3 hb3)
              | (at_builtin; refine wpList_ox rfl _ _ _ _ rfl rfl rfl (owx_bytes (H3.out.alloc _).2.1 (H3.out.alloc _).2.2 ⟨w3.heap.size, 0, none⟩ 1 [32] (fun j u hj => by rw [addr_at, Nat.zero_add, row_cell (heap_alloc_new w3 _)]; simpa [byteCells] using hj) (by decide) (by decide) (by rw [List.length_append]; have := HX.out; omega) _) ?_; rintro v4 w4 ⟨ho4, hb4⟩; have H4 := Lib.hid ((H3.out.alloc _).next ho4 hb4); clear ho4 hb4))
            refine ⟨⟨u + 1, by omega, by go_num, Lib.hid ?_⟩, by simp [intOf]; omega⟩
            rw [HX.out.1, ← List.append_assoc, ← List.append_assoc]
            exact H4.out
          · obtain rfl : u = M := by omega
            have hu1 := HU.out
            rw [HS.out.2.2.1, List.take_length] at hu1
            have H9 := Lib.hid hu1
            have HPL : Hid ((P ++ Cn.litsT l).length ≤ 5000000) := Lib.hid (by rw [List.length_append]; have := HP.out.2; have := HS.out.2.2.2; omega)
            clear hu1 hnum hlm h64
            go_wp2_with (at_builtin; refine wpList_ox rfl _ _ _ _ rfl rfl rfl (owx_bytes (H9.out.alloc _).2.1 (H9.out.alloc _).2.2 ⟨wr.heap.size, 0, none⟩ 2 [48, 10] (fun j u hj => by rw [addr_at, Nat.zero_add, row_cell (heap_alloc_new wr _)]; simpa [byteCells] using hj) (by decide) (by decide) (by have := HPL.out; omega) _) ?_; rintro v4 w4 ⟨ho4, hb4⟩; have H4 := Lib.hid ((H9.out.alloc _).next ho4 hb4); clear ho4 hb4)
            refine ⟨⟨t + 1, by omega, by go_num, Lib.hid ?_⟩, by simp [intOf]; omega⟩
            rw [HS.out.1, Cn.clT_eq, ← List.append_assoc, ← List.append_assoc, ← HP.out.1]
            exact H4.out
      · obtain rfl : t = N := by omega
        have h1 := HT2.out
        rw [HL.out.2.2.2.2, List.take_length] at h1
        have e1 : hd ++ Cn.clsT L = T := by rw [HL.out.2.2.2.1, HHD.out.1]; unfold Cn.txt Cn.headT; rw [HL.out.2.2.2.2]
        rw [e1] at h1
        have hcv := h1.2.1.str
        have HF : Hid (w.grownBy wr none) := Lib.hid ((HH.out.2.trans H1.out).trans ⟨h1.1.os, h1.1.tape, h1.1.output, h1.2.2, fun k hk _ => h1.1.block k hk⟩)
        clear h1 e1
        go_wp2
        go_ret
        exact ⟨rfl, HF.out⟩
  · rw [if_neg hc] at hT
    obtain ⟨C, hC⟩ : ∃ C, C = Cn.check f := ⟨_, rfl⟩
    rw [← hC] at hch hc
    have e1 : (C != 0) = true := by simp [hc]
    have HH := Lib.hid (And.intro hch hg0)
    have HT := Lib.hid hT
    clear hch hg0 hT hc hC
    go_enter Tryd.func22, Tryd.ntmps22
    go_wp2_with (rw [← hW0]; go_at_call 12; refine HH.out.1.mono ?_; rintro e w1 ⟨rfl, hg1⟩; have H1 := Lib.hid hg1; clear hg1)
    go_ret
    exact ⟨by rw [HT.out]; rfl, HH.out.2.trans H1.out⟩
end Go.Proofs.YtdhgopcfjomjaaaDoor
