/- cnf.told: the clauses, one behind the other. -/
import Derived.Test.YtdhgopcfjomjaaaDoorCnI
namespace Go.Proofs.YtdhgopcfjomjaaaDoor
open Go.RowKit Go.Maps Go.WideMaps Go.Shelf
open Cn (I64)
attribute [local go_sem] Oper.semAt_some

def LkT (Bn Bw : Nat) (na : Option Addr) (n : List Cn.Gt) (nc : Nat) (wa : Option Addr) (ws : List Int) (wc : Nat) (W : World) : Prop :=
  W.heap[Bn]? = some (.cells #[.slice na n.length nc] 35 (0, 0)) ∧ W.heap[Bw]? = some (.cells #[.slice wa ws.length wc] 36 (0, 0)) ∧ GatesAt W na n ∧ NumsAt W wa ws
theorem wcls_step {ws : List Int} {u : Nat} {x : Int} (h : ws[u]? = some x) : Cn.wcls (ws.take (u + 1)) = Cn.wcls (ws.take u) ++ [[Cn.lit x]] := by
  unfold Cn.wcls
  rw [List.take_add_one, h]
  simp
theorem take_step {α : Type} {l : List α} {u : Nat} {x : α} (h : l[u]? = some x) : l.take (u + 1) = l.take u ++ [x] := by rw [List.take_add_one, h]; rfl
theorem gcl_small {i : Nat} {g : Cn.Gt} : (Cn.gcl ((i : Int) + 1) g).length ≤ 3 ∧ ∀ l ∈ Cn.gcl ((i : Int) + 1) g, l.length ≤ 3 := by
  unfold Cn.gcl
  split
  · simp
  · split
    · simp
    · simp

theorem gcls_wt_take (n : List Cn.Gt) (t : Nat) : Cn.wt (Cn.gcls 0 (n.take t)) ≤ Cn.wt (Cn.gcls 0 n) := by
  have h := Cn.gcls_app 0 (n.take t) (n.drop t)
  rw [List.take_append_drop] at h
  rw [h, Cn.wt_app]
  omega
theorem told_wt1 {n : List Cn.Gt} {ws : List Int} {t u : Nat} {T : List (List Int)} {x : List Int} (h1 : Cn.gcls 0 (n.take (t + 1)) = Cn.gcls 0 (n.take t) ++ T) (h2 : T[u]? = some x) : Cn.wt (Cn.gcls 0 (n.take t) ++ T.take u ++ [x]) ≤ Cn.wt (Cn.ofC n ws) := by
  have h3 := gcls_wt_take n (t + 1)
  rw [h1, Cn.wt_app] at h3
  have h4 := Cn.wt_take T (u + 1)
  rw [take_step h2, Cn.wt_app] at h4
  unfold Cn.ofC
  simp only [Cn.wt_app]
  omega
theorem told_wt2 {n : List Cn.Gt} {ws : List Int} {u : Nat} {x : Int} (h : ws[u]? = some x) : Cn.wt (Cn.gcls 0 n ++ Cn.wcls (ws.take u) ++ [[Cn.lit x]]) ≤ Cn.wt (Cn.ofC n ws) := by
  have h3 : Cn.wcls (ws.take (u + 1)) = (Cn.wcls ws).take (u + 1) := by unfold Cn.wcls; rw [List.map_take]
  have h4 := Cn.wt_take (Cn.wcls ws) (u + 1)
  rw [← h3, wcls_step h, Cn.wt_app] at h4
  unfold Cn.ofC
  simp only [Cn.wt_app]
  omega
set_option maxRecDepth 100000 in
set_option maxHeartbeats 4000000 in
theorem told_seq (m0 : Nat) (Bn Bw : Nat) (na : Option Addr) (n : List Cn.Gt) (nc : Nat) (wa : Option Addr) (ws : List Int) (wc : Nat) (hn : Cn.netE n = 0) (hw : Cn.wiresOk n ws = true) (hwl : ws.length ≤ 140737488351232) :
    SeqC m0 41 #[.pointer (some ⟨Bn, 0, none⟩), .pointer (some ⟨Bw, 0, none⟩)] (LkT Bn Bw na n nc wa ws wc) (Cn.ofC n ws) := by
  intro l0 J A0 W hJf hJd hJL hY h0
  have hdd : ∀ k : Nat, (Fence.wide.depth.isSome = true → 1 ≤ k) := fun k h => by cases h
  have hno := Cn.net_ok.1 hn
  have hlk := hJL _ _ _ h0
  have c0 := cell_of_row W Bn 0 _ _ _ hlk.1
  have hm63 : n.length ≤ 200000 := hno.1
  obtain ⟨N, hN⟩ : ∃ N, N = n.length := ⟨_, rfl⟩
  rw [← hN] at c0 hm63
  have HN := Lib.hid hN
  have HNO := Lib.hid hno
  have HWO := Lib.hid (And.intro hw hwl)
  have HJF := Lib.hid (And.intro hJf hJd)
  have HJL := Lib.hid hJL
  have HY := Lib.hid hY
  have H0 := Lib.hid h0
  have HM := Lib.hid hm63
  have hm64 : N ≤ 9223372036854775807 := by omega
  clear hN hno hw hwl hJf hJd hJL hY h0 hlk hn hm63
  simp only [List.append_toArray, List.nil_append, List.cons_append]
  refine callsIn_of_wp Tryd.func41 rfl trivial ?_ rfl
  simp only [Tryd.ntmps41, List.size_toArray, List.length_cons, List.length_nil, Nat.reduceAdd, Nat.reduceSub, Array.replicate_succ, Array.replicate_zero, List.push_toArray, List.append_toArray, List.nil_append, List.cons_append]
  gi_wp2
  gi_loopw [13] (fun iv wr => ∃ t : Nat, t ≤ N ∧ iv = .int .i64 (t : Int) ∧ Hid (J A0 (Cn.gcls 0 (n.take t)) wr)) (fun iv _ => N - (intOf iv).toNat)
  case atStart => exact ⟨0, Nat.zero_le _, rfl, Lib.hid H0.out⟩
  case round =>
    obtain ⟨t, ht, rfl, HT⟩ := hrel
    by_cases hlt : t < N
    · obtain ⟨g, hg⟩ : ∃ g, n[t]? = some g := ⟨_, List.getElem?_eq_getElem (by rw [← HN.out]; exact hlt)⟩
      obtain ⟨b, o, rfl, h1, h2, h3, _⟩ := (HJL.out _ _ _ HT.out).2.2.1 t g hg
      have hgk : Cn.gok t g = true := by have := Cn.goks_at 0 n HNO.out.2 t g hg; rwa [Nat.zero_add] at this
      have ht2 : t ≤ 200000 := by have := HM.out; omega
      have hog := fun V => ofGate_any g t ht2 hgk V
      have hst := Cn.gcls_step hg
      have hsm := gcl_small (i := t) (g := g)
      obtain ⟨T, hT⟩ : ∃ T, T = Cn.gcl ((t : Int) + 1) g := ⟨_, rfl⟩
      rw [← hT] at hog hst hsm
      have HS := Lib.hid (And.intro hst hsm)
      have hw1 : wrap64 ((t : Int) + 1) = (t : Int) + 1 := by unfold wrap64; omega
      have HGA := Lib.hid (World.grownBy_alloc wr (.cells #[.int .i64 g.op, .int .i64 g.a, .int .i64 g.b] 48) none)
      obtain ⟨K, hK⟩ : ∃ K, K = T.length := ⟨_, rfl⟩
      have hk64 : K ≤ 9223372036854775807 := by have := hsm.1; omega
      have HK := Lib.hid hK
      clear hst hg hgk hT hsm
      gi_wp2_with (refine ⟨trivial, hdd _, ?_⟩; gi_at_call 42; refine (callsIn_wide.2 (hog _)).mono ?_; rintro e w2 ⟨va, vc, X, rfl, hvc, hri, hX, hgw⟩; have HRI := Lib.hid (And.intro hri (And.intro hX (HGA.out.trans hgw))); rw [← HK.out] at hvc ⊢; clear hri hX hgw hog hw1)
      have HJ2 : Hid (J (X ++ A0) (Cn.gcls 0 (n.take t) ++ T.take 0) w2) := Lib.hid (by rw [List.take_zero, List.append_nil]; exact HJF.out.1 X A0 _ wr w2 HT.out HRI.out.2.2 (fun k hk => ⟨by have := (HRI.out.2.1 k hk).1; rw [World.size_alloc] at this; omega, (HRI.out.2.1 k hk).2⟩))
      gi_loopw [23] (fun iv wr => ∃ u : Nat, u ≤ K ∧ iv = .int .i64 (u : Int) ∧ Hid (J (X ++ A0) (Cn.gcls 0 (n.take t) ++ T.take u) wr ∧ ∀ k ∈ X, wr.heap[k]? = w2.heap[k]?)) (fun iv _ => K - (intOf iv).toNat)
      case atStart => exact ⟨0, Nat.zero_le _, rfl, Lib.hid ⟨HJ2.out, fun _ _ => rfl⟩⟩
      case round =>
        obtain ⟨u, hu, rfl, HU⟩ := hrel
        by_cases hul : u < K
        · obtain ⟨x, hx⟩ : ∃ x, T[u]? = some x := ⟨_, List.getElem?_eq_getElem (by rw [← HK.out]; exact hul)⟩
          obtain ⟨b2, o2, ra, rc, rfl, _, hc, _, hni, hrl, _, h64⟩ := (HRI.out.1.keep HU.out.2) u x hx
          have hx3 := HS.out.2.2 x (List.mem_of_getElem? hx)
          obtain ⟨fn, tmps, assign, body, hy, hR⟩ := HY.out (X ++ A0) (m0 - 1) _ ra rc x wr HU.out.1 (told_wt1 HS.out.1 hx) (hni.mono (fun k hk => List.mem_append.2 (.inl hk))) hrl hx3 h64
          have hts := take_step hx
          have HTS := Lib.hid hts
          obtain ⟨xl, hxl⟩ : ∃ xl, xl = x.length := ⟨_, rfl⟩
          rw [← hxl] at hc hy
          clear hx hni hrl hx3 h64 hts hxl h1 h2 h3
          gi_wp2
          refine ⟨hdd _, hR.mono ?_⟩
          clear hR
          rintro e W3 ⟨rfl, hJ3, hk3⟩
          have HW3 := Lib.hid (And.intro hJ3 hk3)
          clear hJ3 hk3
          gi_wp2
          refine ⟨⟨u + 1, by omega, by go_num, Lib.hid ⟨?_, fun k hk => ?_⟩⟩, by simp [intOf]; omega⟩
          · rw [HTS.out, ← List.append_assoc]; exact HW3.out.1
          · exact (HW3.out.2 k (List.mem_append.2 (.inl hk))).trans (HU.out.2 k hk)
        · obtain rfl : u = K := by omega
          clear h1 h2 h3
          gi_wp2
          refine ⟨⟨t + 1, by omega, by go_num, Lib.hid ?_⟩, by simp [intOf]; omega⟩
          have := HJF.out.2 X A0 _ _ HU.out.1
          rw [HK.out, List.take_length] at this
          rw [HS.out.1]
          exact this
    · obtain rfl : t = N := by omega
      have hJ0 := HT.out
      rw [HN.out, List.take_length] at hJ0
      have hlk := HJL.out _ _ _ hJ0
      have d0 := cell_of_row _ Bw 0 _ _ _ hlk.2.1
      have HJ0 := Lib.hid hJ0
      obtain ⟨M, hM⟩ : ∃ M, M = ws.length := ⟨_, rfl⟩
      rw [← hM] at d0
      have hm2 : M ≤ 9223372036854775807 := by have := HWO.out.2; omega
      have HMM := Lib.hid hM
      clear hJ0 hlk hM HT
      gi_wp2
      gi_loopw [35] (fun iv wr => ∃ u : Nat, u ≤ M ∧ iv = .int .i64 (u : Int) ∧ Hid (J A0 (Cn.gcls 0 n ++ Cn.wcls (ws.take u)) wr)) (fun iv _ => M - (intOf iv).toNat)
      case atStart => exact ⟨0, Nat.zero_le _, rfl, Lib.hid (by have := HJ0.out; simpa [Cn.wcls] using this)⟩
      case round =>
        obtain ⟨u, hu, rfl, HU⟩ := hrel
        by_cases hul : u < M
        · obtain ⟨x, hx⟩ : ∃ x, ws[u]? = some x := ⟨_, List.getElem?_eq_getElem (by rw [← HMM.out]; exact hul)⟩
          obtain ⟨b2, o2, rfl, hc⟩ := (HJL.out _ _ _ HU.out).2.2.2 u x hx
          have hxb : 0 ≤ x ∧ x < 2 * n.length := by
            have := List.all_eq_true.1 HWO.out.1 x (List.mem_of_getElem? hx)
            simpa using this
          have hx1 : x ≤ 1000000 := by have := HM.out; have := HN.out; omega
          have hli := fun V => literalOf_any x hxb.1 hx1 V
          have hl64 := (lit_i64 hxb.1 hx1).1
          have hws := wcls_step hx
          have hwt := told_wt2 (n := n) hx
          have HWS := Lib.hid (And.intro hws hl64)
          have HGA := Lib.hid (World.grownBy_alloc wr (.cells #[.int .i64 (Cn.lit x)] 3) none)
          clear hx hxb hx1 hws hl64
          obtain ⟨A, hA⟩ : ∃ A, A = Cn.lit x := ⟨_, rfl⟩
          rw [← hA] at hli HWS HGA hwt
          have hnr := heap_alloc_new wr (.cells #[.int .i64 A] 3)
          have hJ2 := HJF.out.1 [wr.heap.size] A0 _ wr (wr.alloc (.cells #[.int .i64 A] 3)) HU.out HGA.out (fun k hk => by simp at hk ⊢; omega)
          obtain ⟨fn, tmps, assign, body, hy, hR⟩ := HY.out ([wr.heap.size] ++ A0) (m0 - 1) _ (some ⟨wr.heap.size, 0, none⟩) 1 [A] _ hJ2 hwt (numsIn_row (l := [A]) hnr (by simp)) (Nat.le_refl _) (by simp) (fun y hy => by simp at hy; subst hy; exact HWS.out.2)
          rw [show [A].length = 1 from rfl] at hy
          clear hA hnr hJ2 hwt
          gi_wp2_with (refine ⟨trivial, hdd _, ?_⟩; gi_at_call 43; refine (callsIn_wide.2 (hli _)).mono ?_; rintro e w2 ⟨rfl, hw2⟩; obtain rfl := hw2.symm)
          refine ⟨hdd _, hR.mono ?_⟩
          clear hR
          rintro e W3 ⟨rfl, hJ3, hk3⟩
          have HW3 := Lib.hid (And.intro hJ3 hk3)
          clear hJ3 hk3
          gi_wp2
          refine ⟨⟨u + 1, by omega, by go_num, Lib.hid ?_⟩, by simp [intOf]; omega⟩
          rw [HWS.out.1, ← List.append_assoc]
          exact HJF.out.2 [wr.heap.size] A0 _ _ HW3.out.1
        · obtain rfl : u = M := by omega
          gi_wp2
          go_end0
          have := HU.out
          rw [HMM.out, List.take_length] at this
          exact ⟨⟨_, rfl⟩, this⟩
end Go.Proofs.YtdhgopcfjomjaaaDoor
