/- Stage 21: metronomeref11.Fits without kinds, metronomeref19.Run. -/
import Derived.Test.YthcejnfnamhpfaaGreatEyE
import Derived.Test.YthcejnfnamhpfaaGreatJnK
namespace Go.Proofs.YthcejnfnamhpfaaGreat
open Go.RowKit Go.Maps Go.WideMaps

set_option maxRecDepth 100000 in
set_option maxHeartbeats 4000000 in
theorem fits_any (w : World) (L : List (List Int)) (a : Option Addr) (cap : Nat) (h : RowsAt w a L) (hm : L.length ≤ 2000) :
    Calls Tryz.prog 41 #[.slice none 0 0, .slice a L.length cap] w fun e w' => (∃ k : Int, e = .returned (.int .i64 k) ∧ (k == 2) = decide (1000 < L.length)) ∧ w.grownBy w' none := by
  obtain ⟨N, hN⟩ : ∃ N, N = L.length := ⟨_, rfl⟩
  rw [← hN] at hm ⊢
  have HL := Lib.hid (And.intro h hN)
  have hn63 : N ≤ 9223372036854775807 := by omega
  clear h hN
  by_cases hlong : 1000 < N
  · have q1 : (1000 : Int) < (N : Int) := by omega
    have e1 : decide ((1000 : Int) < (N : Int)) = true := xdT q1
    go_enter Tryz.func41, Tryz.ntmps41
    go_wp2
    go_ret
    exact ⟨⟨2, rfl, by rw [decide_eq_true hlong]; rfl⟩, World.grownBy.refl _ _⟩
  · have q1 : ¬ (1000 : Int) < (N : Int) := by omega
    have e1 : decide ((1000 : Int) < (N : Int)) = false := xdF q1
    have HD : Hid (decide (1000 < N) = false) := Lib.hid (decide_eq_false hlong)
    clear hlong
    go_enter Tryz.func41, Tryz.ntmps41
    go_wp2
    go_loopw [5] (fun iv wr => ∃ t : Nat, t ≤ N ∧ iv = .int .i64 (t : Int) ∧ Hid (w.grownBy wr none)) (fun iv _ => N - (intOf iv).toNat)
    case atStart => exact ⟨0, Nat.zero_le _, rfl, Lib.hid (World.grownBy.refl _ _)⟩
    case round =>
      obtain ⟨t, ht, rfl, HT⟩ := hrel
      by_cases hlt : t < N
      · obtain ⟨l, hl⟩ : ∃ l, L[t]? = some l := ⟨_, List.getElem?_eq_getElem (by rw [← HL.out.2]; exact hlt)⟩
        obtain ⟨b, o, ra, rc, rfl, hc, _, _, hlm, _⟩ := (HL.out.1.on HT.out) t l hl
        have hm64 : l.length ≤ 9223372036854775807 := by simpa [maxLen] using hlm
        obtain ⟨M, hM⟩ : ∃ M, M = l.length := ⟨_, rfl⟩
        rw [← hM] at hc hm64
        clear hl hlm hM
        by_cases hM0 : M = 0
        · subst hM0
          go_wp2
          go_loopw [6] (fun iv wr2 => iv = .int .i64 0 ∧ Hid (w.grownBy wr2 none)) (fun _ _ => 0)
          case atStart => exact ⟨rfl, HT⟩
          case round =>
            obtain ⟨rfl, HU⟩ := hrel
            go_wp2
            exact ⟨⟨t + 1, by omega, by go_num, HU⟩, by simp [intOf]; omega⟩
        · have e2 : ((M : Int) != 0) = true := by simp [hM0]
          have e3 : ((M : Int) == 0) = false := by simp [hM0]
          go_wp2
          go_ret
          exact ⟨⟨23, rfl, by rw [HD.out]; rfl⟩, HT.out⟩
      · obtain rfl : t = N := by omega
        go_wp2
        go_ret
        exact ⟨⟨0, rfl, by rw [HD.out]; rfl⟩, HT.out⟩
structure EbI (w0 W : World) (Bm m : Nat) (c : Cd.Code) (L : List (List Int)) (R : List (List Int) × Int) (t : Nat) (cells : List Int) (xs : List Lx) (v : Value) : Prop where
  ls : LsI w0 W [m] xs v
  M : ∃ ka kc ia ic ba bc cv, RMachR w0 Bm W m c cells ka kc ia ic ba bc cv ∧ Apx v.ownBlock.toList cv
  go : Ex.runGo c cells (L.drop t) (xs.map (·.l)) = R
  st : ∀ x ∈ xs, x.st = x.fu
  xl : xs.length = t
set_option maxRecDepth 100000 in
set_option maxHeartbeats 8000000 in
theorem rruns_any (w : World) (c : Cd.Code) (ka : Option Addr) (kc : Nat) (ia : Option Addr) (ic : Nat) (ba : Option Addr) (bc : Nat) (hc : CodeAt w c ka ia ba) (h64 : I64s c) (L : List (List Int)) (a : Option Addr) (cap : Nat) (hR : RowsAt w a L) (hm : L.length ≤ 2000) :
    Calls Tryz.prog 21 #[.agg (codeV c ka kc ia ic ba bc), .slice a L.length cap] w (RunP w (Ex.runR c L)) := by
  obtain ⟨W0, hW0⟩ : ∃ W0, W0 = w.alloc (.cells (codeV c ka kc ia ic ba bc) 25) := ⟨_, rfl⟩
  have hg0 : w.grownBy W0 none := by rw [hW0]; exact World.grownBy_alloc _ _ _
  have hr0 : W0.heap[w.heap.size]? = some (.cells (codeV c ka kc ia ic ba bc) 25 (0, 0)) := by rw [hW0]; exact heap_alloc_new _ _
  have hchk := rcheck_any W0 c ka kc ia ic ba bc (hc.on hg0) h64
  have hrn := fun V (hg2 : w.grownBy V none) (hok : Cd.check c = 0) => rnew_any w V hg2 c ka kc ia ic ba bc hc h64 hok
  obtain ⟨N, hN⟩ : ∃ N, N = L.length := ⟨_, rfl⟩
  have hn63 : N ≤ 9223372036854775807 := by omega
  have hfi := fun V (hg : w.grownBy V none) => fits_any V L a cap (hR.on hg) hm
  rw [← hN] at hfi hm ⊢
  have u0 := cell_of_row W0 _ 0 _ _ _ hr0
  have u1 := cell_of_row W0 _ 1 _ _ _ hr0
  have u2 := cell_of_row W0 _ 2 _ _ _ hr0
  have u3 := cell_of_row W0 _ 3 _ _ _ hr0
  have u4 := cell_of_row W0 _ 4 _ _ _ hr0
  have u5 := cell_of_row W0 _ 5 _ _ _ hr0
  have u6 := cell_of_row W0 _ 6 _ _ _ hr0
  obtain ⟨R, hRR⟩ : ∃ R, R = Ex.runR c L := ⟨_, rfl⟩
  rw [← hRR]
  unfold Ex.runR at hRR
  rw [← hN] at hRR
  obtain ⟨CK, hCK⟩ : ∃ CK, CK = Cd.check c := ⟨_, rfl⟩
  rw [← hCK] at hchk hRR
  have HH := Lib.hid (And.intro hchk (And.intro hfi (And.intro hrn (And.intro hg0 (And.intro hRR (And.intro hr0 hCK))))))
  have HL := Lib.hid (And.intro hR (And.intro hN h64))
  clear hchk hfi hrn hg0 hRR hc h64 hR hN hr0
  unfold codeV at HH hW0 u0 u1 u2 u3 u4 u5 u6 ⊢
  generalize c.kinds.length = nk at *
  generalize c.init.length = ni at *
  generalize c.body.length = nb at *
  by_cases hck : CK = 0
  · subst hck
    by_cases hlong : 1000 < N
    · have HR : Hid (R = ([], 2)) := Lib.hid (by rw [HH.out.2.2.2.2.1, if_pos rfl, if_pos hlong])
      have HD : Hid (decide (1000 < N) = true) := Lib.hid (decide_eq_true hlong)
      clear hlong hCK
      go_enter Tryz.func21, Tryz.ntmps21
      go_upto_region 1 with fail
      rw [← hW0]
      clear hW0
      go_wp2_with (first
        | (go_at_call 11; refine HH.out.1.mono ?_; rintro e w2 ⟨rfl, hg2⟩; have H2 := Lib.hid hg2; clear hg2)
        | (go_at_call 41; refine (HH.out.2.1 _ (HH.out.2.2.2.1.trans H2.out)).mono ?_; rintro e w3 ⟨⟨k, rfl, hk⟩, hg3⟩; have hk2 : (k == 2) = true := hk.trans HD.out; have H3 := Lib.hid hg3; clear hg3 hk))
      refine bodyPost_ret (results_tmp2 rfl _ _ _) rfl ?_
      rw [HR.out]
      exact ⟨none, 0, rfl, RowsQ.nil _ _, HH.out.2.2.2.1.trans (H2.out.trans H3.out)⟩
    · have HR : Hid (R = Ex.runGo c c.init L []) := Lib.hid (by rw [HH.out.2.2.2.2.1, if_pos rfl, if_neg hlong])
      have HD : Hid (decide (1000 < N) = false) := Lib.hid (decide_eq_false hlong)
      clear hlong hCK
      go_enter Tryz.func21, Tryz.ntmps21
      go_upto_region 1 with fail
      rw [← hW0]
      clear hW0
      go_wp2_with (first
        | (go_at_call 11; refine HH.out.1.mono ?_; rintro e w2 ⟨rfl, hg2⟩; have H2 := Lib.hid hg2; clear hg2)
        | (go_at_call 41; refine (HH.out.2.1 _ (HH.out.2.2.2.1.trans H2.out)).mono ?_; rintro e w3 ⟨⟨k, rfl, hk⟩, hg3⟩; have hk2 : (k == 2) = false := hk.trans HD.out; have hr3 := (hg3.block _ (gl ((H2.out.block _ (gl HH.out.2.2.2.2.2.1) (by simp)).trans HH.out.2.2.2.2.2.1)) (by simp)).trans ((H2.out.block _ (gl HH.out.2.2.2.2.2.1) (by simp)).trans HH.out.2.2.2.2.2.1); have H3 := Lib.hid (HH.out.2.2.2.1.trans (H2.out.trans hg3)); clear hg3 hk; clear u0 u1 u2 u3 u4 u5 u6; have u0 := cell_of_row w3 _ 0 _ _ _ hr3; have u1 := cell_of_row w3 _ 1 _ _ _ hr3; have u2 := cell_of_row w3 _ 2 _ _ _ hr3; have u3 := cell_of_row w3 _ 3 _ _ _ hr3; have u4 := cell_of_row w3 _ 4 _ _ _ hr3; have u5 := cell_of_row w3 _ 5 _ _ _ hr3; have u6 := cell_of_row w3 _ 6 _ _ _ hr3; clear hr3)
        | (go_at_call 13; refine (HH.out.2.2.1 _ H3.out HH.out.2.2.2.2.2.2.symm).mono ?_; rintro e w4 ⟨hg4, m, rfl, hM4⟩; have H4 := Lib.hid (And.intro (H3.out.trans hg4) (And.intro H3.out hM4)); clear hg4 hM4))
      have HL2 := Lib.hid H4.out.1
      have HS : Hid (EbI w w4 w3.heap.size m c L R 0 c.init [] (.slice none 0 0)) := Lib.hid (by
        obtain ⟨ka2, kc2, ia2, ic2, ba2, bc2, cv2, hM⟩ := H4.out.2.2
        exact ⟨LsI.nil H4.out.1 (fun k hk => by rw [List.mem_singleton.1 hk]; exact Nat.le_trans hM.mb.1 hM.mb.2), ⟨ka2, kc2, ia2, ic2, ba2, bc2, cv2, hM, (fun k _ h => by cases h)⟩, HR.out.symm, (fun x hx => by cases hx), rfl⟩)
      clear u0 u1 u2 u3 u4 u5 u6 hk2
      go_loopw [8, 9] (fun vv iv wr => ∃ (t : Nat) (cells : List Int) (xs : List Lx), t ≤ N ∧ iv = .int .i64 (t : Int) ∧ Hid (EbI w wr w3.heap.size m c L R t cells xs vv)) (fun _ iv _ => N - (intOf iv).toNat)
      case atStart => exact ⟨0, c.init, [], Nat.zero_le _, rfl, HS⟩
      case round =>
        obtain ⟨t, cells, xs, ht, rfl, HT⟩ := hrel
        by_cases hlt : t < N
        · obtain ⟨l, hl⟩ : ∃ l, L[t]? = some l := ⟨_, List.getElem?_eq_getElem (by rw [← HL.out.2.1]; exact hlt)⟩
          obtain ⟨b, o, ra, rc, rfl, hc, hn, hrc, hlm, hl64⟩ := (HL.out.1.on HT.out.ls.gw) t l hl
          obtain ⟨ka2, kc2, ia2, ic2, ba2, bc2, cv, hM, a2⟩ := HT.out.M
          have htk := rtick_any hM HH.out.2.2.2.2.2.2.symm HL.out.2.2 rc hn hlm hl64
          have hstep := Ex.runGo_step (c := c) (cells := cells) (acc := xs.map (·.l)) hl
          rw [HT.out.go] at hstep
          obtain ⟨T, hT⟩ : ∃ T, T = Ex.tickR c cells l := ⟨_, rfl⟩
          unfold RTickP at htk
          rw [← hT] at htk hstep
          obtain ⟨M, hMl⟩ : ∃ M, M = l.length := ⟨_, rfl⟩
          rw [← hMl] at hc htk
          have HTK := Lib.hid (And.intro htk (And.intro hM a2))
          have HST := Lib.hid hstep
          have hM63 : M ≤ 9223372036854775807 := by rw [hMl]; simpa [maxLen] using hlm
          clear hl hn hlm hl64 hM a2 htk hstep hT hMl hrc
          go_upto_region 12 with (go_at_call 15; refine HTK.out.1.mono ?_; rintro e w6 ⟨hk2, ⟨cv2, hM2, hn2⟩, ov, rfl, ho2⟩; have H6 := Lib.hid (And.intro hk2 (And.intro hM2 (And.intro hn2 ho2))); clear hk2 hM2 hn2 ho2)
          have hq2 := HT.out.ls.turn H6.out.1
          obtain ⟨E, hE⟩ : ∃ E, E = T.2.2.1 := ⟨_, rfl⟩
          rw [← hE] at HST ⊢
          by_cases hE0 : E = 0
          · have e6 : (E != 0) = false := by simp [hE0]
            obtain ⟨oa, oc, hov⟩ := xowns_form H6.out.2.2.2
            subst hov
            have hml : m < wr.heap.size := gl HTK.out.2.1.row
            have hst := HST.out
            rw [if_pos hE0] at hst
            obtain ⟨K, hK⟩ : ∃ K, K = T.1.length := ⟨_, rfl⟩
            obtain ⟨W1, hW1⟩ : ∃ W1, W1 = w6.alloc (.cells #[.slice oa K oc] 22) := ⟨_, rfl⟩
            have hg1 : w6.grownBy W1 none := by rw [hW1]; exact World.grownBy_alloc _ _ _
            have hnr : W1.heap[w6.heap.size]? = some (.cells #[.slice oa K oc] 22 (0, 0)) := by rw [hW1]; exact heap_alloc_new _ _
            have hq1 := hq2.fresh hg1
            obtain ⟨it, hit, hz, hsz, hby⟩ := info_parts xinfo_sl
            have hone : ∀ u ∈ [Value.slice oa K oc], u.oneCell' = true := fun u hu => by rw [List.mem_singleton.1 hu]; rfl
            have hnews : ∀ j u, [Value.slice oa K oc][j]? = some u → W1.cell? ((⟨w6.heap.size, 0, none⟩ : Addr).add j) = some u := fun j u hu => by
              cases j with
              | zero => simp at hu; subst hu; rw [addr_at]; exact cell_of_row _ _ 0 _ _ _ hnr
              | succ j => simp at hu
            have hxl := HT.out.xl
            have hbase : w.heap.size ≤ W1.heap.size := hq1.gw.size
            have b63 : xs.length + 1 ≤ maxLen := by unfold maxLen; omega
            have bby : (xs.length + 1) * 24 ≤ 140737488355328 := by omega
            have HO := Lib.hid (And.intro hq1.own (And.intro hnews (And.intro hone (And.intro b63 (And.intro bby hbase)))))
            have H7 := Lib.hid (And.intro hq2 (And.intro hg1 (And.intro hml (And.intro hst hK))))
            clear hnews hone b63 bby hbase hq1 hnr hst hml hxl hE hE0 hq2 hc
            rw [← hK]
            clear hK
            go_wp2_with (at_builtin; rw [← hW1]; refine wpList_append_own_at _ rfl _ _ 26 rfl w.heap.size 22 it _ 1 24 Tryz.underlying26 hit hz hsz hby rfl (by decide) u8 xs.length (xs.map (·.st)) rfl HO.out.1 ⟨w6.heap.size, 0, none⟩ 1 1 [.slice oa K oc] rfl rfl HO.out.2.1 HO.out.2.2.1 HO.out.2.2.2.1 HO.out.2.2.2.2.1 HO.out.2.2.2.2.2 ?_; intro v' w8 ho3 hg3 _ hat3; have H8 := Lib.hid (And.intro ho3 (And.intro hg3 hat3)); clear ho3 hg3 hat3)
            obtain ⟨hq2, hg1, hml, hst, hK⟩ := H7.out
            obtain ⟨hk2, hM2, hn2, ho2⟩ := H6.out
            obtain ⟨_, hM, a2⟩ := HTK.out
            obtain ⟨ho3, hg3, hat3⟩ := H8.out
            have hXlt : ∀ k ∈ u8.ownBlock.toList, k < wr.heap.size := fun k hk => (HT.out.ls.own.lt k (by simpa using hk)).2
            have a2' : Apx u8.ownBlock.toList cv2 := Apx.next (w := wr) a2 hXlt hn2
            have hM1 := hM2.on hg1
            have hmX : m ∉ u8.ownBlock.toList := fun hx => HT.out.ls.vm m (List.mem_singleton.2 rfl) (by simpa using hx)
            have hM3 := hM1.kp (kp_own hg3) hmX a2' (fun k hk => (HT.out.ls.own.lt k (by simpa using hk)).1)
            have hm1 : ∀ k ∈ [m], k < W1.heap.size := fun k hk => by rw [List.mem_singleton.1 hk]; exact gl hM1.row
            have hx : w6.ownsRow w.heap.size 3 1 (.slice oa K oc) T.1.length (ints T.1) := by
              rw [hK]
              exact xowns_base ho2 HT.out.ls.gw.size
            have hfin := hq2.app (x := ⟨.slice oa K oc, .slice oa K oc, T.1⟩) hx (fun k hk e => by
              rw [List.mem_singleton.1 hk] at e
              have h7 := (ho2.lt m (by rw [← hK]; exact e)).1
              omega) (fun k e e2 => by
              have h7 := (ho2.lt k (by rw [← hK]; exact e2)).1
              have h8 := hXlt k (by simp [e])
              omega) hg1 ho3 hg3 hat3 hm1
            refine ⟨⟨t + 1, T.2.2.2, xs ++ [⟨.slice oa K oc, .slice oa K oc, T.1⟩], by omega, by go_num, Lib.hid ⟨hfin, ⟨ka2, kc2, ia2, ic2, ba2, bc2, cv2, hM3, apx_next hM1.now a2' hat3⟩, ?_, ?_, ?_⟩⟩, by simp [intOf]; omega⟩
            · rw [hst, List.map_append]
              rfl
            · intro x hx
              rcases List.mem_append.1 hx with hx | hx
              · exact HT.out.st x hx
              · rw [List.mem_singleton.1 hx]
            · rw [List.length_append, List.length_singleton, HT.out.xl]
          · have e6 : (E != 0) = true := by simp [hE0]
            have hst := HST.out
            rw [if_neg hE0] at hst
            have HG := Lib.hid (And.intro hq2.gw hst)
            clear hst hE hE0 hq2 hc
            go_wp2
            refine bodyPost_ret (results_tmp2 rfl _ _ _) rfl ?_
            rw [HG.out.2]
            exact ⟨none, 0, rfl, RowsQ.nil _ _, HG.out.1⟩
        · obtain rfl : t = N := by omega
          obtain ⟨va, vc, hv⟩ := xowns_form HT.out.ls.own
          subst hv
          go_wp2
          refine bodyPost_ret (results_tmp2 rfl _ _ _) rfl ?_
          have hq := HT.out.ls.q HT.out.st
          have hgo := HT.out.go
          rw [HL.out.2.1, List.drop_length, Ex.runGo] at hgo
          rw [← hgo]
          exact ⟨va, vc, by simp only [List.length_map]; rfl, hq.2, HT.out.ls.gw⟩
  · have e6 : (CK != 0) = true := by simp [hck]
    have HR : Hid (R = ([], 40)) := Lib.hid (by rw [HH.out.2.2.2.2.1, if_neg hck])
    clear hck hCK
    go_enter Tryz.func21, Tryz.ntmps21
    go_upto_region 1 with fail
    rw [← hW0]
    clear hW0
    go_wp2_with (go_at_call 11; refine HH.out.1.mono ?_; rintro e w2 ⟨rfl, hg2⟩; have H2 := Lib.hid hg2; clear hg2)
    refine bodyPost_ret (results_tmp2 rfl _ _ _) rfl ?_
    rw [HR.out]
    exact ⟨none, 0, rfl, RowsQ.nil _ _, HH.out.2.2.2.1.trans H2.out⟩
end Go.Proofs.YthcejnfnamhpfaaGreat
