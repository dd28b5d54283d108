/- Stage 21: exec.Run: each over a method value. -/
import Derived.Test.YthcejnfnamhpfaaGreatEyD
namespace Go.Proofs.YthcejnfnamhpfaaGreat
open Go.RowKit Go.Maps Go.WideMaps

/-- what a run answers -/
def RunP (w0 : World) (R : List (List Int) × Int) (e : Ending) (w' : World) : Prop := ∃ (va : Option Addr) (vc : Nat), e = .returned (.tuple #[.slice va R.1.length vc, .int .i64 R.2]) ∧ RowsQ w' va R.1 ∧ w0.grownBy w' none
structure EaI (w0 W : World) (Bm m : Nat) (c : Cd.Code) (L : List (List Int)) (R : List (List Int) × Int) (t : Nat) (cells : List Int) (xs : List Lx) (v : Value) : Prop where
  ls : LsI w0 W [m] xs v
  M : ∃ iv nv kv bv, MachR Bm W m c cells iv nv kv bv ∧ Apx v.ownBlock.toList iv ∧ Apx v.ownBlock.toList nv ∧ Apx v.ownBlock.toList kv ∧ Apx v.ownBlock.toList bv
  go : Ex.runGo c cells (L.drop t) (xs.map (·.l)) = R
  st : ∀ x ∈ xs, x.st = x.fu
  xl : xs.length = t
theorem apx_next {B : Nat} {w : World} {T : TypeId} {z n : Nat} {u v v' : Value} {xs : List Value} (ho : w.ownsRow B T z u n xs) (h : Apx v.ownBlock.toList u) (hat : v'.ownBlock = v.ownBlock ∨ v'.ownBlock = some w.heap.size) : Apx v'.ownBlock.toList u := fun k e hk => by
  rcases hat with h2 | h2
  · rw [h2] at hk; exact h k e hk
  · rw [h2] at hk
    simp at hk
    have := (ho.lt k e).2
    omega
theorem kp_own {W W' : World} {v : Value} (h : W.grownBy W' v.ownBlock) : Kp v.ownBlock.toList W W' := Kp.of h _ (fun k e _ => by rw [e]; simp)
set_option maxRecDepth 100000 in
set_option maxHeartbeats 8000000 in
theorem xeach_any (w0 w : World) (Bm m : Nat) (c : Cd.Code) (hMach : Mach Bm w m c c.init) (hg0 : w0.grownBy w none) (hlo : w0.heap.size ≤ Bm) (hok : Cd.check c = 0) (h64 : I64s c) (L : List (List Int)) (a : Option Addr) (cap : Nat) (hR : RowsAt w0 a L) (hm : L.length ≤ 2000) :
    Calls Tryz.prog 40 #[.slice a L.length cap, .func (.func 14) #[.pointer (some ⟨m, 0, none⟩)] #[]] w (RunP w0 (Ex.runGo c c.init L [])) := by
  obtain ⟨iv, nv, kv, bv, hM⟩ := hMach
  obtain ⟨R, hRR⟩ : ∃ R, R = Ex.runGo c c.init L [] := ⟨_, rfl⟩
  rw [← hRR]
  obtain ⟨N, hN⟩ : ∃ N, N = L.length := ⟨_, rfl⟩
  rw [← hN] at hm ⊢
  have hn63 : N ≤ 9223372036854775807 := by omega
  have HS : Hid (EaI w0 w Bm m c L R 0 c.init [] (.slice none 0 0)) := Lib.hid ⟨LsI.nil hg0 (fun k hk => by rw [List.mem_singleton.1 hk]; exact Nat.le_trans hlo hM.mb), ⟨iv, nv, kv, bv, hM, (fun k _ h => by cases h), (fun k _ h => by cases h), (fun k _ h => by cases h), (fun k _ h => by cases h)⟩, hRR.symm, (fun x hx => by cases hx), rfl⟩
  have HL := Lib.hid (And.intro hR (And.intro hN (And.intro hok h64)))
  clear hM hR hN hok h64 hRR hg0 hlo
  go_enter Tryz.func40, Tryz.ntmps40
  go_wp2
  go_loopw [6, 14] (fun vv iv wr => ∃ (t : Nat) (cells : List Int) (xs : List Lx), t ≤ N ∧ iv = .int .i64 (t : Int) ∧ Hid (EaI w0 wr Bm m c L R t cells xs vv)) (fun _ iv _ => N - (intOf iv).toNat)
  case atStart => exact ⟨0, c.init, [], Nat.zero_le _, rfl, HS⟩
  case round =>
    obtain ⟨t, cells, xs, ht, rfl, HT⟩ := hrel
    by_cases hlt : t < N
    · obtain ⟨l, hl⟩ : ∃ l, L[t]? = some l := ⟨_, List.getElem?_eq_getElem (by rw [← HL.out.2.1]; exact hlt)⟩
      obtain ⟨b, o, ra, rc, rfl, hc, hn, hrc, hlm, hl64⟩ := (HL.out.1.on HT.out.ls.gw) t l hl
      obtain ⟨iv, nv, kv, bv, hM, a1, a2, a3, a4⟩ := HT.out.M
      have htk := xtickq_any hM HL.out.2.2.1 HL.out.2.2.2 rc hn hlm hl64
      have hstep := Ex.runGo_step (c := c) (cells := cells) (acc := xs.map (·.l)) hl
      rw [HT.out.go] at hstep
      obtain ⟨T, hT⟩ : ∃ T, T = Ex.tickR c cells l := ⟨_, rfl⟩
      unfold TickQ at htk
      rw [← hT] at htk hstep
      obtain ⟨M, hMl⟩ : ∃ M, M = l.length := ⟨_, rfl⟩
      rw [← hMl] at hc htk
      have HTK := Lib.hid (And.intro htk (And.intro hM (And.intro a1 (And.intro a2 (And.intro a3 a4)))))
      have HST := Lib.hid hstep
      have hM63 : M ≤ 9223372036854775807 := by rw [hMl]; simpa [maxLen] using hlm
      clear hl hn hlm hl64 hM a1 a2 a3 a4 htk hstep hT hMl hrc
      go_upto_region 6 with (go_at_call 14; refine HTK.out.1.mono ?_; rintro e w2 ⟨hk2, nv2, ov, hM2, hn2, hap2, rfl, ho2⟩; have H2 := Lib.hid (And.intro hk2 (And.intro hM2 (And.intro hn2 (And.intro hap2 ho2)))); clear hk2 hM2 hn2 hap2 ho2)
      have hq2 := HT.out.ls.turn H2.out.1
      obtain ⟨E, hE⟩ : ∃ E, E = T.2.2.1 := ⟨_, rfl⟩
      rw [← hE] at HST ⊢
      by_cases hE0 : E = 0
      · have e6 : (E != 0) = false := by simp [hE0]
        obtain ⟨oa, oc, hov⟩ := xowns_form H2.out.2.2.2.2
        subst hov
        have hml : m < wr.heap.size := gl HTK.out.2.1.row
        have hst := HST.out
        rw [if_pos hE0] at hst
        obtain ⟨K, hK⟩ : ∃ K, K = T.1.length := ⟨_, rfl⟩
        obtain ⟨W1, hW1⟩ : ∃ W1, W1 = w2.alloc (.cells #[.slice oa K oc] 22) := ⟨_, rfl⟩
        have hg1 : w2.grownBy W1 none := by rw [hW1]; exact World.grownBy_alloc _ _ _
        have hnr : W1.heap[w2.heap.size]? = some (.cells #[.slice oa K oc] 22 (0, 0)) := by rw [hW1]; exact heap_alloc_new _ _
        have hq1 := hq2.fresh hg1
        obtain ⟨it, hit, hz, hsz, hby⟩ := info_parts xinfo_sl
        have hone : ∀ u ∈ [Value.slice oa K oc], u.oneCell' = true := fun u hu => by rw [List.mem_singleton.1 hu]; rfl
        have hnews : ∀ j u, [Value.slice oa K oc][j]? = some u → W1.cell? ((⟨w2.heap.size, 0, none⟩ : Addr).add j) = some u := fun j u hu => by
          cases j with
          | zero => simp at hu; subst hu; rw [addr_at]; exact cell_of_row _ _ 0 _ _ _ hnr
          | succ j => simp at hu
        have hxl := HT.out.xl
        have hbase : w0.heap.size ≤ W1.heap.size := hq1.gw.size
        have b63 : xs.length + 1 ≤ maxLen := by unfold maxLen; omega
        have bby : (xs.length + 1) * 24 ≤ 140737488355328 := by omega
        have HO := Lib.hid (And.intro hq1.own (And.intro hnews (And.intro hone (And.intro b63 (And.intro bby hbase)))))
        have H1 := Lib.hid (And.intro hq2 (And.intro hg1 (And.intro hml (And.intro hst hK))))
        clear hnews hone b63 bby hbase hq1 hnr hst hml hxl hE hE0 hq2 hc
        rw [← hK]
        clear hK
        go_wp2_with (at_builtin; rw [← hW1]; refine wpList_append_own_at _ rfl _ _ 26 rfl w0.heap.size 22 it _ 1 24 Tryz.underlying26 hit hz hsz hby rfl (by decide) u6 xs.length (xs.map (·.st)) rfl HO.out.1 ⟨w2.heap.size, 0, none⟩ 1 1 [.slice oa K oc] rfl rfl HO.out.2.1 HO.out.2.2.1 HO.out.2.2.2.1 HO.out.2.2.2.2.1 HO.out.2.2.2.2.2 ?_; intro v' w3 ho3 hg3 _ hat3; have H3 := Lib.hid (And.intro ho3 (And.intro hg3 hat3)); clear ho3 hg3 hat3)
        obtain ⟨hq2, hg1, hml, hst, hK⟩ := H1.out
        obtain ⟨hk2, hM2, hn2, hap2, ho2⟩ := H2.out
        obtain ⟨_, hM, a1, a2, a3, a4⟩ := HTK.out
        obtain ⟨ho3, hg3, hat3⟩ := H3.out
        have hXlt : ∀ k ∈ u6.ownBlock.toList, k < wr.heap.size := fun k hk => (HT.out.ls.own.lt k (by simpa using hk)).2
        have a2' : Apx u6.ownBlock.toList nv2 := Apx.next (w := wr) a2 hXlt hn2
        have hM1 := hM2.on hg1
        have hmX : m ∉ u6.ownBlock.toList := fun hx => HT.out.ls.vm m (List.mem_singleton.2 rfl) (by simpa using hx)
        have hM3 := hM1.kp (kp_own hg3) hmX a1 a2' a3 a4
        have hm1 : ∀ k ∈ [m], k < W1.heap.size := fun k hk => by rw [List.mem_singleton.1 hk]; exact gl hM1.row
        have hx : w2.ownsRow w0.heap.size 3 1 (.slice oa K oc) T.1.length (ints T.1) := by
          rw [hK]
          exact xowns_base ho2 HT.out.ls.gw.size
        have hfin := hq2.app (x := ⟨.slice oa K oc, .slice oa K oc, T.1⟩) hx (fun k hk e => by
          rw [List.mem_singleton.1 hk] at e
          have h7 := (ho2.lt m (by rw [← hK]; exact e)).1
          omega) (fun k e e2 => by
          have h7 := (ho2.lt k (by rw [← hK]; exact e2)).1
          have h8 := hXlt k (by simp [e])
          omega) hg1 ho3 hg3 hat3 hm1
        refine ⟨⟨t + 1, T.2.2.2, xs ++ [⟨.slice oa K oc, .slice oa K oc, T.1⟩], by omega, by go_num, Lib.hid ⟨hfin, ⟨iv, nv2, kv, bv, hM3, apx_next hM1.init a1 hat3, apx_next hM1.now a2' hat3, apx_next hM1.kinds a3 hat3, apx_next hM1.body a4 hat3⟩, ?_, ?_, ?_⟩⟩, by simp [intOf]; omega⟩
        · rw [hst, List.map_append]
          rfl
        · intro x hx
          rcases List.mem_append.1 hx with hx | hx
          · exact HT.out.st x hx
          · rw [List.mem_singleton.1 hx]
        · rw [List.length_append, List.length_singleton, HT.out.xl]
      · have e6 : (E != 0) = true := by simp [hE0]
        have hst := HST.out
        rw [if_neg hE0] at hst
        have HG := Lib.hid (And.intro hq2.gw hst)
        clear hst hE hE0 hq2 hc
        go_wp2
        refine bodyPost_ret (results_tmp2 rfl _ _ _) rfl ?_
        rw [HG.out.2]
        exact ⟨none, 0, rfl, RowsQ.nil _ _, HG.out.1⟩
    · obtain rfl : t = N := by omega
      obtain ⟨va, vc, hv⟩ := xowns_form HT.out.ls.own
      subst hv
      go_wp2
      refine bodyPost_ret (results_tmp2 rfl _ _ _) rfl ?_
      have hq := HT.out.ls.q HT.out.st
      have hgo := HT.out.go
      rw [HL.out.2.1, List.drop_length, Ex.runGo] at hgo
      rw [← hgo]
      exact ⟨va, vc, by simp only [List.length_map]; rfl, hq.2, HT.out.ls.gw⟩

set_option maxRecDepth 100000 in
set_option maxHeartbeats 8000000 in
theorem xruns_any (w : World) (c : Cd.Code) (ka : Option Addr) (kc : Nat) (ia : Option Addr) (ic : Nat) (ba : Option Addr) (bc : Nat) (hc : CodeAt w c ka ia ba) (h64 : I64s c) (hkc : c.kinds.length ≤ kc) (L : List (List Int)) (a : Option Addr) (cap : Nat) (hR : RowsAt w a L) (hm : L.length ≤ 2000) :
    Calls Tryz.prog 20 #[.agg (codeV c ka kc ia ic ba bc), .slice a L.length cap] w (RunP w (Ex.runR c L)) := by
  obtain ⟨W0, hW0⟩ : ∃ W0, W0 = w.alloc (.cells (codeV c ka kc ia ic ba bc) 25) := ⟨_, rfl⟩
  have hg0 : w.grownBy W0 none := by rw [hW0]; exact World.grownBy_alloc _ _ _
  have hr0 : W0.heap[w.heap.size]? = some (.cells (codeV c ka kc ia ic ba bc) 25 (0, 0)) := by rw [hW0]; exact heap_alloc_new _ _
  have hnew := new_any W0 c ka kc ia ic ba bc (hc.on hg0) h64 hkc
  obtain ⟨N, hN⟩ : ∃ N, N = L.length := ⟨_, rfl⟩
  have hn63 : N ≤ 9223372036854775807 := by omega
  have hea := fun (W : World) (m : Nat) (hg : w.grownBy W none) (hM : Mach W0.heap.size W m c c.init) (hok : Cd.check c = 0) => xeach_any w W W0.heap.size m c hM hg hg0.size hok h64 L a cap hR hm
  rw [← hN] at hea ⊢
  have u0 := cell_of_row W0 _ 0 _ _ _ hr0
  have u1 := cell_of_row W0 _ 1 _ _ _ hr0
  have u2 := cell_of_row W0 _ 2 _ _ _ hr0
  have u3 := cell_of_row W0 _ 3 _ _ _ hr0
  have u4 := cell_of_row W0 _ 4 _ _ _ hr0
  have u5 := cell_of_row W0 _ 5 _ _ _ hr0
  have u6 := cell_of_row W0 _ 6 _ _ _ hr0
  obtain ⟨R, hRR⟩ : ∃ R, R = Ex.runR c L := ⟨_, rfl⟩
  rw [← hRR]
  unfold Ex.runR at hRR
  rw [← hN] at hRR
  have HH := Lib.hid (And.intro hnew (And.intro hea (And.intro hg0 hRR)))
  clear hnew hea hg0 hRR hc h64 hkc hR hm hN hr0
  unfold codeV at HH hW0 u0 u1 u2 u3 u4 u5 u6 ⊢
  generalize c.kinds.length = nk at *
  generalize c.init.length = ni at *
  generalize c.body.length = nb at *
  by_cases hck : Cd.check c = 0
  · by_cases hlong : 1000 < N
    · have q1 : (1000 : Int) < (N : Int) := by omega
      have e1 : decide ((1000 : Int) < (N : Int)) = true := xdT q1
      have HR : Hid (R = ([], 2)) := Lib.hid (by rw [HH.out.2.2.2, if_pos hck, if_pos hlong])
      have HC := Lib.hid hck
      clear hck hlong
      go_enter Tryz.func20, Tryz.ntmps20
      go_upto_region 1 with fail
      rw [← hW0]
      clear hW0
      go_wp2_with (go_at_call 10; refine HH.out.1.mono ?_; rintro e w2 ⟨hg2, hbad, hgood⟩; obtain ⟨m, rfl, hM⟩ := hgood HC.out; have H2 := Lib.hid (And.intro hg2 hM); clear hg2 hbad hgood hM)
      refine bodyPost_ret (results_tmp2 rfl _ _ _) rfl ?_
      rw [HR.out]
      exact ⟨none, 0, rfl, RowsQ.nil _ _, HH.out.2.2.1.trans H2.out.1⟩
    · have q1 : ¬ (1000 : Int) < (N : Int) := by omega
      have e1 : decide ((1000 : Int) < (N : Int)) = false := xdF q1
      have HR : Hid (R = Ex.runGo c c.init L []) := Lib.hid (by rw [HH.out.2.2.2, if_pos hck, if_neg hlong])
      have HC := Lib.hid hck
      clear hck hlong
      go_enter Tryz.func20, Tryz.ntmps20
      go_upto_region 1 with fail
      rw [← hW0]
      clear hW0
      go_wp2_with (first
        | (go_at_call 10; refine HH.out.1.mono ?_; rintro e w2 ⟨hg2, hbad, hgood⟩; obtain ⟨m, rfl, hM⟩ := hgood HC.out; have H2 := Lib.hid (And.intro hg2 hM); clear hg2 hbad hgood hM)
        | (go_at_call 40; refine (HH.out.2.1 _ _ (HH.out.2.2.1.trans H2.out.1) H2.out.2 HC.out).mono ?_; rintro e w3 ⟨va, vc, rfl, hq, hg3⟩; have H3 := Lib.hid (And.intro hq hg3); clear hq hg3))
      refine bodyPost_ret (results_tmp2 rfl _ _ _) rfl ?_
      rw [HR.out]
      exact ⟨va, vc, rfl, H3.out.1, H3.out.2⟩
  · have HR : Hid (R = ([], 40)) := Lib.hid (by rw [HH.out.2.2.2, if_neg hck])
    have HC := Lib.hid hck
    clear hck
    go_enter Tryz.func20, Tryz.ntmps20
    go_upto_region 1 with fail
    rw [← hW0]
    clear hW0
    go_wp2_with (go_at_call 10; refine HH.out.1.mono ?_; rintro e w2 ⟨hg2, hbad, hgood⟩; obtain rfl := hbad HC.out; have H2 := Lib.hid hg2; clear hg2 hbad hgood)
    refine bodyPost_ret (results_tmp2 rfl _ _ _) rfl ?_
    rw [HR.out]
    exact ⟨none, 0, rfl, RowsQ.nil _ _, HH.out.2.2.1.trans H2.out⟩
end Go.Proofs.YthcejnfnamhpfaaGreat
