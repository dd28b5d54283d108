/- My texts NmE NmF NmG NmH NmI NmJ NmK NmK0 NmK1 NmL, joined. -/
import Derived.Test.YtonafedbehnneaaGreatMhI
import Derived.RangeFuncNested
import Derived.RangeFuncBound
import Derived.RangeFuncCalls
import Derived.RangeFuncLeaves
import Derived.Shelf.Abstract
import Derived.Shelf.RegionOpen
import Derived.OwnWalkIn
import Derived.TacticsInMore
import Derived.LoopNIn
import Derived.LoopIn
import Derived.Test.YtonafedbehnneaaGreatMhC
import Derived.Deep.Light
set_option linter.unusedVariables false
set_option linter.unusedSimpArgs false
set_option linter.unnecessarySimpa false
set_option linter.unusedSectionVars false
set_option maxHeartbeats 12800000
set_option maxRecDepth 20000
namespace Go.Proofs.YtonafedbehnneaaGreat
open Go.RowKit Go.Maps Go.WideMaps
open Nam (St F)
section
variable {w0 w w' : World} {A : Adr} {st : St}
theorem Ck.bs (h : Ck w0 w A st) : A.b1 ∉ [A.c, A.m, A.b0, A.b2] ∧ A.b2 ∉ [A.c, A.m, A.b0, A.b1] ∧ A.b0 ∉ [A.c, A.m, A.b1, A.b2] := by
 obtain ⟨n1, n2, n3, n4, n5⟩ := h.ne
 simp only [List.mem_cons, List.not_mem_nil, or_false, not_or] at n1 n2 ⊢
 omega
theorem Ck.own2 (h : Ck w0 w A st) (hg : w.grownBy w' (some A.b2)) {L : List (List UInt8)} {n : Nat} (hs : SetAt w' A.b2 n L) (hn : st.cnt ≤ n) (hd : L.Nodup) : Ck w0 w' A { st with owns := L, cnt := n } := by
 have hk : Kp [A.b2] w w' := Kp.of hg _ (fun k e _ => by cases e; simp)
 obtain ⟨l1, l2, l3, l4, l5⟩ := h.lo
 obtain ⟨n1, n2, n3, n4, n5⟩ := h.ne
 simp only [List.mem_cons, List.not_mem_nil, or_false, not_or] at n1 n2
 exact ⟨Kp.grown h.base hk (by simpa using l5), h.lo, h.ne, (hk.block _ h.lt.1 (by simp; omega)).trans h.cc, h.mm.keptK hk (by simp; omega), (h.s0.keptK hk (by simp; omega)).mono hn, (h.s1.keptK hk (by simp; omega)).mono hn, hs, h.nd.1, h.nd.2.1, hd⟩
theorem Ck.own1 (h : Ck w0 w A st) (hg : w.grownBy w' (some A.b1)) {L : List (List UInt8)} {n : Nat} (hs : SetAt w' A.b1 n L) (hn : st.cnt ≤ n) (hd : L.Nodup) : Ck w0 w' A { st with ins := L, cnt := n } := by
 have hk : Kp [A.b1] w w' := Kp.of hg _ (fun k e _ => by cases e; simp)
 obtain ⟨l1, l2, l3, l4, l5⟩ := h.lo
 obtain ⟨n1, n2, n3, n4, n5⟩ := h.ne
 simp only [List.mem_cons, List.not_mem_nil, or_false, not_or] at n1 n2
 exact ⟨Kp.grown h.base hk (by simpa using l4), h.lo, h.ne, (hk.block _ h.lt.1 (by simp; omega)).trans h.cc, h.mm.keptK hk (by simp; omega), (h.s0.keptK hk (by simp; omega)).mono hn, hs, (h.s2.keptK hk (by simp; omega)).mono hn, h.nd.1, hd, h.nd.2.2⟩
theorem Ck.own0 (h : Ck w0 w A st) (hg : w.grownBy w' (some A.b0)) {L : List (List UInt8)} {n : Nat} (hs : SetAt w' A.b0 n L) (hn : st.cnt ≤ n) (hd : L.Nodup) : Ck w0 w' A { st with nodes := L, cnt := n } := by
 have hk : Kp [A.b0] w w' := Kp.of hg _ (fun k e _ => by cases e; simp)
 obtain ⟨l1, l2, l3, l4, l5⟩ := h.lo
 obtain ⟨n1, n2, n3, n4, n5⟩ := h.ne
 simp only [List.mem_cons, List.not_mem_nil, or_false, not_or] at n1 n2
 exact ⟨Kp.grown h.base hk (by simpa using l3), h.lo, h.ne, (hk.block _ h.lt.1 (by simp; omega)).trans h.cc, h.mm.keptK hk (by simp; omega), hs, (h.s1.keptK hk (by simp; omega)).mono hn, (h.s2.keptK hk (by simp; omega)).mono hn, hd, h.nd.2.1, h.nd.2.2⟩
end
theorem nodup_snoc {L : List (List UInt8)} {s : List UInt8} (h : L.Nodup) (hc : L.contains s = false) : (L ++ [s]).Nodup := by
 rw [List.nodup_append]
 refine ⟨h, by simp, fun a ha b hb e => ?_⟩
 simp at hb
 subst hb e
 simp at hc
 exact hc ha
theorem nodup_drop {L : List (List UInt8)} (s : List UInt8) (h : L.Nodup) : (Nam.drop L s).Nodup := h.filter _
theorem kp1 {w w' : World} {A : Adr} (h : w.grownBy w' none) : Kp [A.b1, A.b2] w w' := Kp.of0 h _
theorem kpb1 {w w' : World} {A : Adr} (h : w.grownBy w' (some A.b1)) : Kp [A.b1, A.b2] w w' := Kp.of h _ (fun k e _ => by cases e; simp)
theorem kpb2 {w w' : World} {A : Adr} (h : w.grownBy w' (some A.b2)) : Kp [A.b1, A.b2] w w' := Kp.of h _ (fun k e _ => by cases e; simp)
theorem Kp.at {X : List Nat} {w w' : World} (h : Kp X w w') {b : Nat} {o : Obj} (hb : w.heap[b]? = some o) (hx : b ∉ X) : w'.heap[b]? = some o := (h.block b (gl hb) hx).trans hb
theorem Mm.lt {w : World} {A : Adr} (h : Mm w A) : A.m < w.heap.size := by
 obtain ⟨D, n, h1, _⟩ := h
 exact h1.lt
theorem Kp.trans' {X : List Nat} {a b c : World} (h : Kp X a b) {n : Nat} (hg : b.grownBy c (some n)) (hn : a.heap.size ≤ n) : Kp X a c :=
 ⟨hg.os.trans h.os, hg.tape.trans h.tape, hg.output.trans h.output, Nat.le_trans h.size hg.size, fun i hi hx => (hg.block i (Nat.lt_of_lt_of_le hi h.size) (by simp; omega)).trans (h.block i hi hx)⟩
theorem drop_at {α : Type} {l : List α} {t : Nat} {x : α} (h : l[t]? = some x) : l.drop t = x :: l.drop (t + 1) := by
 obtain ⟨h1, h2⟩ := List.getElem?_eq_some_iff.1 h
 rw [List.drop_eq_getElem_cons h1, h2]
theorem declare2_any (A : Adr) (vs : List Gram.Var) (a : Option Addr) (L cap : Nat) (st : St) (w0 w : World) (r : F × St) (h : Ck w0 w A st) (hv : RepC w0 0 [] (.l 112 5 (vs.map varD)) (.slice a L cap)) (hr : Nam.declare true vs st = some r) :
  Calls Tryz.prog 52 #[.pointer (some ⟨A.c, 0, none⟩), .int .i64 2, .slice a L cap] w fun e w' => e = .returned (fv r.1) ∧ Ck w0 w' A r.2 ∧ Kp [A.b1, A.b2] w w' := by
 obtain ⟨hL, hLm⟩ := nLen hv
 rw [List.length_map] at hL
 unfold maxLen at hLm
 have HL := ld hL
 have HR := ld hr
 have hlt2 := h.lt
 have HH := ld h
 clear hL hr h
 go_enter Tryz.func52, Tryz.ntmps52
 go_wp2
 go_loopw [11] (fun iv wr => ∃ (t : Nat) (st' : St), t ≤ L ∧ iv = .int .i64 (t : Int) ∧ Hid (Ck w0 wr A st' ∧ Kp [A.b1, A.b2] w wr ∧ wr.heap[w.heap.size]? = some fo ∧ Nam.declare true (vs.drop t) st' = some r)) (fun i _ => L - (intOf i).toNat)
 case atStart => exact ⟨0, st, Nat.zero_le _, rfl, ld ⟨HH.out.kept (ga _ _ _), kp1 (ga _ _ _), heap_alloc_new w fo, HR.out⟩⟩
 case round =>
  obtain ⟨t, st', ht, rfl, HG⟩ := hrel
  obtain ⟨hck, hkp, hcell, hm⟩ := HG.out
  clear HG HR
  have hsz := (gl hcell)
  have hne : w.heap.size ∉ [A.b1, A.b2] := by simp; omega
  by_cases hlt : t < L
  ·obtain ⟨x, hx⟩ : ∃ x, vs[t]? = some x := ⟨_, List.getElem?_eq_getElem (by rw [← HL.out]; exact hlt)⟩
   rw [drop_at hx] at hm
   unfold Nam.declare at hm
   obtain ⟨g, p, q, r', rfl, c0, c1, c2, c3, c4, hc⟩ := varAt (RepC.kept hck.base (fun k e => by cases e) hv) hx
   by_cases hs : (Nam.short x.name && Nam.room st') = true
   ·rw [if_pos hs] at hm
    rw [Bool.and_eq_true] at hs
    have hroom : st'.cnt < 1000000 := by simpa [Nam.room] using hs.2
    have hh := fun wx (hgx : Ck w0 wx A st') => variable_any A st' x.name hs.1 w0 wx hgx
    unfold strV at hh
    have HC := ld hck
    have HK := ld hkp
    have HCe := ld hcell
    clear hx hck hkp
    cases hq : Nam.seen st' x.name with
    | true =>
     rw [hq] at hh hm
     rw [if_pos rfl] at hm
     have HM := ld (Option.some.inj hm)
     clear hm
     go_wp2_with (go_at_call 70; refine (hh _ (HC.out.kept (ga wr _ none))).mono ?_; rintro e w1 ⟨rfl, hg1⟩; have d4 := hg1.cell (cell_of_row _ _ 4 _ _ _ (heap_alloc_new wr _)) (by simp); have hc1 := (hg1.block _ (by simp; omega) (by simp)).trans ((ga wr _ none).block _ hsz (by simp) |>.trans HCe.out); refine Hid.out ?_)
     refine ld ?_
     go_wp2_with (with_reducible refine hold_st 6 ?_)
     refine ld ?_
     refine sg hc1 ?_
     intro w7 hh7 hg7
     go_wp2
     (try simp only [Exit.inBlock, Exit.then])
     refine br hh7 Tryz.underlying63 ?_
     rw [← HM.out]
     have hC1 := (HC.out.kept (ga wr _ none)).kept hg1
     have hg0 : w0.heap.size ≤ w.heap.size := HH.out.base.size
     exact ⟨rfl, hC1.keptB hg7 ⟨hg0, by obtain ⟨l1, l2, l3, l4⟩ := hlt2; have l5 := (HH.out.mm.lt); simp; omega⟩, (HK.out.trans ((kp1 (ga wr _ none)).trans (kp1 hg1))).trans' hg7 (Nat.le_refl _)⟩
    | false =>
     rw [hq] at hh hm
     rw [if_neg (by decide), if_pos rfl] at hm
     have HM := ld hm
     clear hm
     have hcf : st'.owns.contains x.name = false := by have h9 := hq; unfold Nam.seen at h9; rw [Bool.or_eq_false_iff] at h9; exact h9.2
     go_wp2_with (go_at_call 70; refine (hh _ (HC.out.kept (ga wr _ none))).mono ?_; rintro e w1 ⟨rfl, hg1⟩; have d0 := hg1.cell (cell_of_row _ _ 0 _ _ _ (heap_alloc_new wr _)) (by simp); refine Hid.out ?_)
     have hC1 := ((HC.out.kept (ga wr _ none)).kept hg1)
     have hC2 : Ck w0 w1.drew A st' := hC1.kept (gdrew (World.grownBy.refl _ _))
     have hadd := add_any A.b2 st'.cnt st'.owns x.name hs.1 hcf (by omega) w1.drew hC2.s2
     unfold strV at hadd
     have hwl : wr.heap.size < w1.heap.size := by have := hg1.size; simp at this; omega
     have hbl := HC.out.lt
     have hml := HC.out.mm.lt
     obtain ⟨SS, hSS⟩ : ∃ SS : World → Prop, SS = fun W => W.cell? ⟨A.c, 0, none⟩ = some (.map (some A.m)) ∧ W.cell? ⟨wr.heap.size, 0, none⟩ = some (.string ⟨x.name.toArray⟩) ∧ (Instr.lookup 75 (.map (some A.m)) (.int .i64 2) false).run Tryz.prog W = .ok (.map (some A.b2)) W := ⟨_, rfl⟩
     have hS0 : w1.drew.cell? ⟨A.c, 0, none⟩ = some (.map (some A.m)) ∧ w1.drew.cell? ⟨wr.heap.size, 0, none⟩ = some (.string ⟨x.name.toArray⟩) ∧ (Instr.lookup 75 (.map (some A.m)) (.int .i64 2) false).run Tryz.prog w1.drew = .ok (.map (some A.b2)) w1.drew := ⟨hC2.cell, d0, hC2.mm.look.2.2⟩
     have hS1 : ∀ w2, w1.drew.grownBy w2 (some A.b2) → (w2.cell? ⟨A.c, 0, none⟩ = some (.map (some A.m)) ∧ w2.cell? ⟨wr.heap.size, 0, none⟩ = some (.string ⟨x.name.toArray⟩) ∧ (Instr.lookup 75 (.map (some A.m)) (.int .i64 2) false).run Tryz.prog w2 = .ok (.map (some A.b2)) w2) := fun w2 hg2 => by
      have hb := HC.out.bs
      simp only [List.mem_cons, List.not_mem_nil, or_false, not_or] at hb
      have hk2 : Kp [A.b2] w1.drew w2 := Kp.of hg2 _ (fun k e _ => by cases e; simp)
      exact ⟨hg2.cell hS0.1 (by simp; omega), hg2.cell hS0.2.1 (by simp; omega), (hC2.mm.keptK hk2 (by simp; omega)).look.2.2⟩
     have HS1 := ld hS1
     have HC1 := ld hC1
     have HC2 := ld hC2
     clear hS1 hC1 hC2 hSS SS hh
     refine ld ?_
     go_wp2
     go_region_held3 (fun W => W.cell? ⟨A.c, 0, none⟩ = some (.map (some A.m)) ∧ W.cell? ⟨wr.heap.size, 0, none⟩ = some (.string ⟨x.name.toArray⟩) ∧ (Instr.lookup 75 (.map (some A.m)) (.int .i64 2) false).run Tryz.prog W = .ok (.map (some A.b2)) W) (first | with_reducible exact hS0 | with_reducible exact hS2)
      (first | (go_at_call 57; refine hadd.mono ?_; rintro e w2 ⟨rfl, hset2, hg2⟩; have hS2 := HS1.out w2 hg2))
     have hg3 : w1.grownBy w2 (some A.b2) := (gdrew (World.grownBy.refl w1 (some A.b2))).trans hg2
     have hK3 : Kp [A.b1, A.b2] wr w2 := ((kp1 (ga wr _ none)).trans (kp1 hg1)).trans (kpb2 hg3)
     have hK2 : Kp [A.b1, A.b2] w w2 := HK.out.trans hK3
     have hck2 := HC1.out.own2 hg3 hset2 (Nat.le_succ _) (nodup_snoc HC1.out.nd.2.2 hcf)
     have hce2 : w2.heap[w.heap.size]? = some fo := hK3.at HCe.out hne
     have HF := ld (And.intro hck2 (And.intro hK2 hce2))
     clear hck2 hK2 hce2 hset2 hS2 hS0
     go_wp2
     exact ⟨⟨t + 1, st'.addOwn x.name, by omega, by go_num, ld ⟨HF.out.1, HF.out.2.1, HF.out.2.2, HM.out⟩⟩, by simp [intOf]; omega⟩
   ·rw [if_neg hs] at hm; cases hm
  ·have e : t = L := by omega
   subst e
   rw [List.drop_eq_nil_of_le (by rw [← HL.out]; exact Nat.le_refl _)] at hm
   have HM := ld (Option.some.inj hm)
   clear hm
   go_wp2_with (with_reducible refine hold_st 6 ?_)
   refine ld ?_
   refine sg hcell ?_
   intro w7 hh7 hg7
   go_wp2
   (try simp only [Exit.inBlock, Exit.then])
   refine br hh7 Tryz.underlying63 ?_
   rw [← HM.out]
   have hg0 : w0.heap.size ≤ w.heap.size := HH.out.base.size
   exact ⟨rfl, hck.keptB hg7 ⟨hg0, by obtain ⟨l1, l2, l3, l4⟩ := hlt2; have l5 := (HH.out.mm.lt); simp; omega⟩, hkp.trans' hg7 (Nat.le_refl _)⟩
theorem declare1_any (A : Adr) (vs : List Gram.Var) (a : Option Addr) (L cap : Nat) (st : St) (w0 w : World) (r : F × St) (h : Ck w0 w A st) (hv : RepC w0 0 [] (.l 112 5 (vs.map varD)) (.slice a L cap)) (hr : Nam.declare false vs st = some r) :
  Calls Tryz.prog 52 #[.pointer (some ⟨A.c, 0, none⟩), .int .i64 1, .slice a L cap] w fun e w' => e = .returned (fv r.1) ∧ Ck w0 w' A r.2 ∧ Kp [A.b1, A.b2] w w' := by
 obtain ⟨hL, hLm⟩ := nLen hv
 rw [List.length_map] at hL
 unfold maxLen at hLm
 have HL := ld hL
 have HR := ld hr
 have hlt2 := h.lt
 have HH := ld h
 clear hL hr h
 go_enter Tryz.func52, Tryz.ntmps52
 go_wp2
 go_loopw [11] (fun iv wr => ∃ (t : Nat) (st' : St), t ≤ L ∧ iv = .int .i64 (t : Int) ∧ Hid (Ck w0 wr A st' ∧ Kp [A.b1, A.b2] w wr ∧ wr.heap[w.heap.size]? = some fo ∧ Nam.declare false (vs.drop t) st' = some r)) (fun i _ => L - (intOf i).toNat)
 case atStart => exact ⟨0, st, Nat.zero_le _, rfl, ld ⟨HH.out.kept (ga _ _ _), kp1 (ga _ _ _), heap_alloc_new w fo, HR.out⟩⟩
 case round =>
  obtain ⟨t, st', ht, rfl, HG⟩ := hrel
  obtain ⟨hck, hkp, hcell, hm⟩ := HG.out
  clear HG HR
  have hsz := (gl hcell)
  have hne : w.heap.size ∉ [A.b1, A.b2] := by simp; omega
  by_cases hlt : t < L
  ·obtain ⟨x, hx⟩ : ∃ x, vs[t]? = some x := ⟨_, List.getElem?_eq_getElem (by rw [← HL.out]; exact hlt)⟩
   rw [drop_at hx] at hm
   unfold Nam.declare at hm
   obtain ⟨g, p, q, r', rfl, c0, c1, c2, c3, c4, hc⟩ := varAt (RepC.kept hck.base (fun k e => by cases e) hv) hx
   by_cases hs : (Nam.short x.name && Nam.room st') = true
   ·rw [if_pos hs] at hm
    rw [Bool.and_eq_true] at hs
    have hroom : st'.cnt < 1000000 := by simpa [Nam.room] using hs.2
    have hh := fun wx (hgx : Ck w0 wx A st') => variable_any A st' x.name hs.1 w0 wx hgx
    unfold strV at hh
    have HC := ld hck
    have HK := ld hkp
    have HCe := ld hcell
    clear hx hck hkp
    cases hq : Nam.seen st' x.name with
    | true =>
     rw [hq] at hh hm
     rw [if_pos rfl] at hm
     have HM := ld (Option.some.inj hm)
     clear hm
     go_wp2_with (go_at_call 70; refine (hh _ (HC.out.kept (ga wr _ none))).mono ?_; rintro e w1 ⟨rfl, hg1⟩; have d4 := hg1.cell (cell_of_row _ _ 4 _ _ _ (heap_alloc_new wr _)) (by simp); have hc1 := (hg1.block _ (by simp; omega) (by simp)).trans ((ga wr _ none).block _ hsz (by simp) |>.trans HCe.out); refine Hid.out ?_)
     refine ld ?_
     go_wp2_with (with_reducible refine hold_st 6 ?_)
     refine ld ?_
     refine sg hc1 ?_
     intro w7 hh7 hg7
     go_wp2
     (try simp only [Exit.inBlock, Exit.then])
     refine br hh7 Tryz.underlying63 ?_
     rw [← HM.out]
     have hC1 := (HC.out.kept (ga wr _ none)).kept hg1
     have hg0 : w0.heap.size ≤ w.heap.size := HH.out.base.size
     exact ⟨rfl, hC1.keptB hg7 ⟨hg0, by obtain ⟨l1, l2, l3, l4⟩ := hlt2; have l5 := (HH.out.mm.lt); simp; omega⟩, (HK.out.trans ((kp1 (ga wr _ none)).trans (kp1 hg1))).trans' hg7 (Nat.le_refl _)⟩
    | false =>
     rw [hq] at hh hm
     rw [if_neg (by decide), if_neg (by decide)] at hm
     have HM := ld hm
     clear hm
     have hcf : st'.ins.contains x.name = false := by have h9 := hq; unfold Nam.seen at h9; rw [Bool.or_eq_false_iff] at h9; exact h9.1
     go_wp2_with (go_at_call 70; refine (hh _ (HC.out.kept (ga wr _ none))).mono ?_; rintro e w1 ⟨rfl, hg1⟩; have d0 := hg1.cell (cell_of_row _ _ 0 _ _ _ (heap_alloc_new wr _)) (by simp); refine Hid.out ?_)
     have hC1 := ((HC.out.kept (ga wr _ none)).kept hg1)
     have hC2 : Ck w0 w1.drew A st' := hC1.kept (gdrew (World.grownBy.refl _ _))
     have hadd := add_any A.b1 st'.cnt st'.ins x.name hs.1 hcf (by omega) w1.drew hC2.s1
     unfold strV at hadd
     have hwl : wr.heap.size < w1.heap.size := by have := hg1.size; simp at this; omega
     have hbl := HC.out.lt
     have hml := HC.out.mm.lt
     obtain ⟨SS, hSS⟩ : ∃ SS : World → Prop, SS = fun W => W.cell? ⟨A.c, 0, none⟩ = some (.map (some A.m)) ∧ W.cell? ⟨wr.heap.size, 0, none⟩ = some (.string ⟨x.name.toArray⟩) ∧ (Instr.lookup 75 (.map (some A.m)) (.int .i64 1) false).run Tryz.prog W = .ok (.map (some A.b1)) W := ⟨_, rfl⟩
     have hS0 : w1.drew.cell? ⟨A.c, 0, none⟩ = some (.map (some A.m)) ∧ w1.drew.cell? ⟨wr.heap.size, 0, none⟩ = some (.string ⟨x.name.toArray⟩) ∧ (Instr.lookup 75 (.map (some A.m)) (.int .i64 1) false).run Tryz.prog w1.drew = .ok (.map (some A.b1)) w1.drew := ⟨hC2.cell, d0, hC2.mm.look.2.1⟩
     have hS1 : ∀ w2, w1.drew.grownBy w2 (some A.b1) → (w2.cell? ⟨A.c, 0, none⟩ = some (.map (some A.m)) ∧ w2.cell? ⟨wr.heap.size, 0, none⟩ = some (.string ⟨x.name.toArray⟩) ∧ (Instr.lookup 75 (.map (some A.m)) (.int .i64 1) false).run Tryz.prog w2 = .ok (.map (some A.b1)) w2) := fun w2 hg2 => by
      have hb := HC.out.bs
      simp only [List.mem_cons, List.not_mem_nil, or_false, not_or] at hb
      have hk2 : Kp [A.b1] w1.drew w2 := Kp.of hg2 _ (fun k e _ => by cases e; simp)
      exact ⟨hg2.cell hS0.1 (by simp; omega), hg2.cell hS0.2.1 (by simp; omega), (hC2.mm.keptK hk2 (by simp; omega)).look.2.1⟩
     have HS1 := ld hS1
     have HC1 := ld hC1
     have HC2 := ld hC2
     clear hS1 hC1 hC2 hSS SS hh
     refine ld ?_
     go_wp2
     go_region_held3 (fun W => W.cell? ⟨A.c, 0, none⟩ = some (.map (some A.m)) ∧ W.cell? ⟨wr.heap.size, 0, none⟩ = some (.string ⟨x.name.toArray⟩) ∧ (Instr.lookup 75 (.map (some A.m)) (.int .i64 1) false).run Tryz.prog W = .ok (.map (some A.b1)) W) (first | with_reducible exact hS0 | with_reducible exact hS2)
      (first | (go_at_call 57; refine hadd.mono ?_; rintro e w2 ⟨rfl, hset2, hg2⟩; have hS2 := HS1.out w2 hg2))
     have hg3 : w1.grownBy w2 (some A.b1) := (gdrew (World.grownBy.refl w1 (some A.b1))).trans hg2
     have hK3 : Kp [A.b1, A.b2] wr w2 := ((kp1 (ga wr _ none)).trans (kp1 hg1)).trans (kpb1 hg3)
     have hK2 : Kp [A.b1, A.b2] w w2 := HK.out.trans hK3
     have hck2 := HC1.out.own1 hg3 hset2 (Nat.le_succ _) (nodup_snoc HC1.out.nd.2.1 hcf)
     have hce2 : w2.heap[w.heap.size]? = some fo := hK3.at HCe.out hne
     have HF := ld (And.intro hck2 (And.intro hK2 hce2))
     clear hck2 hK2 hce2 hset2 hS2 hS0
     go_wp2
     exact ⟨⟨t + 1, st'.addIn x.name, by omega, by go_num, ld ⟨HF.out.1, HF.out.2.1, HF.out.2.2, HM.out⟩⟩, by simp [intOf]; omega⟩
   ·rw [if_neg hs] at hm; cases hm
  ·have e : t = L := by omega
   subst e
   rw [List.drop_eq_nil_of_le (by rw [← HL.out]; exact Nat.le_refl _)] at hm
   have HM := ld (Option.some.inj hm)
   clear hm
   go_wp2_with (with_reducible refine hold_st 6 ?_)
   refine ld ?_
   refine sg hcell ?_
   intro w7 hh7 hg7
   go_wp2
   (try simp only [Exit.inBlock, Exit.then])
   refine br hh7 Tryz.underlying63 ?_
   rw [← HM.out]
   have hg0 : w0.heap.size ≤ w.heap.size := HH.out.base.size
   exact ⟨rfl, hck.keptB hg7 ⟨hg0, by obtain ⟨l1, l2, l3, l4⟩ := hlt2; have l5 := (HH.out.mm.lt); simp; omega⟩, hkp.trans' hg7 (Nat.le_refl _)⟩
open Go.RowKit Go.Maps Go.WideMaps
open Nam (St F)
theorem forget2_any (A : Adr) (vs : List Gram.Var) (a : Option Addr) (L cap : Nat) (st : St) (w0 w : World) (r : St) (h : Ck w0 w A st) (hv : RepC w0 0 [] (.l 112 5 (vs.map varD)) (.slice a L cap)) (hr : Nam.forget true vs st = some r) :
  Calls Tryz.prog 56 #[.pointer (some ⟨A.c, 0, none⟩), .int .i64 2, .slice a L cap] w fun e w' => e = .returned (.tuple #[]) ∧ Ck w0 w' A r ∧ Kp [A.b1, A.b2] w w' := by
 obtain ⟨hL, hLm⟩ := nLen hv
 rw [List.length_map] at hL
 unfold maxLen at hLm
 have HL := ld hL
 have HR := ld hr
 have hlt2 := h.lt
 have HH := ld h
 clear hL hr h
 go_enter Tryz.func56, Tryz.ntmps56
 go_wp2
 go_loopw [10] (fun iv wr => ∃ (t : Nat) (st' : St), t ≤ L ∧ iv = .int .i64 (t : Int) ∧ Hid (Ck w0 wr A st' ∧ Kp [A.b1, A.b2] w wr ∧ Nam.forget true (vs.drop t) st' = some r)) (fun i _ => L - (intOf i).toNat)
 case atStart => exact ⟨0, st, Nat.zero_le _, rfl, ld ⟨HH.out, Kp.refl _ _, HR.out⟩⟩
 case round =>
  obtain ⟨t, st', ht, rfl, HG⟩ := hrel
  obtain ⟨hck, hkp, hm⟩ := HG.out
  clear HG HR
  by_cases hlt : t < L
  ·obtain ⟨x, hx⟩ : ∃ x, vs[t]? = some x := ⟨_, List.getElem?_eq_getElem (by rw [← HL.out]; exact hlt)⟩
   rw [drop_at hx] at hm
   unfold Nam.forget at hm
   obtain ⟨g, p, q, r', rfl, c0, c1, c2, c3, c4, hc⟩ := varAt (RepC.kept hck.base (fun k e => by cases e) hv) hx
   by_cases hs : Nam.short x.name = true
   ·rw [if_pos hs, if_pos rfl] at hm
    have HC := ld hck
    have HK := ld hkp
    have HM := ld hm
    clear hx hck hkp hm
    obtain ⟨w1, hw1⟩ : ∃ w1, w1 = wr.alloc (.cells #[.string ⟨x.name.toArray⟩, .int .i64 x.tk, .int .i64 x.tl, .slice p q r', .int .i64 x.at_] 112) := ⟨_, rfl⟩
    have hg1 : wr.grownBy w1 none := by rw [hw1]; exact ga wr _ none
    have d0 : w1.cell? ⟨wr.heap.size, 0, none⟩ = some (.string ⟨x.name.toArray⟩) := by rw [hw1]; exact cell_of_row _ _ 0 _ _ _ (heap_alloc_new wr _)
    have hC1 := HC.out.kept hg1
    have hC2 : Ck w0 w1.drew A st' := hC1.kept (gdrew (World.grownBy.refl _ _))
    have hwl : wr.heap.size < w1.heap.size := by rw [hw1]; simp
    have hbl := HC.out.lt
    have hml := HC.out.mm.lt
    obtain ⟨D', h1, h2, h3⟩ := hC2.s2
    obtain ⟨w2, hrun, ho2, htn⟩ := h1.drop kLaw Tryz.underlying74 (key_of x.name hs) 0
    have hset2 := SetAt.del hC2.nd.2.2 h1 h2 h3 ho2
    have hg2 := htn.grown
    unfold strV at hrun
    have hb := HC.out.bs
    simp only [List.mem_cons, List.not_mem_nil, or_false, not_or] at hb
    have hk2 : Kp [A.b2] w1.drew w2 := Kp.of hg2 _ (fun k e _ => by cases e; simp)
    have hS0 : w1.drew.cell? ⟨A.c, 0, none⟩ = some (.map (some A.m)) ∧ w1.drew.cell? ⟨wr.heap.size, 0, none⟩ = some (.string ⟨x.name.toArray⟩) ∧ (Instr.lookup 75 (.map (some A.m)) (.int .i64 2) false).run Tryz.prog w1.drew = .ok (.map (some A.b2)) w1.drew := ⟨hC2.cell, d0, hC2.mm.look.2.2⟩
    have hS2 : w2.cell? ⟨A.c, 0, none⟩ = some (.map (some A.m)) ∧ w2.cell? ⟨wr.heap.size, 0, none⟩ = some (.string ⟨x.name.toArray⟩) ∧ (Instr.lookup 75 (.map (some A.m)) (.int .i64 2) false).run Tryz.prog w2 = .ok (.map (some A.b2)) w2 := ⟨hg2.cell hS0.1 (by simp; omega), hg2.cell hS0.2.1 (by simp; omega), (hC2.mm.keptK hk2 (by simp; omega)).look.2.2⟩
    have hg3 : w1.grownBy w2 (some A.b2) := (gdrew (World.grownBy.refl w1 (some A.b2))).trans hg2
    have hK2 : Kp [A.b1, A.b2] w w2 := HK.out.trans ((kp1 hg1).trans (kpb2 hg3))
    have hck2 := hC1.own2 hg3 hset2 (Nat.le_refl _) (nodup_drop _ hC1.nd.2.2)
    have HF := ld (And.intro hck2 hK2)
    have HW := ld hw1
    clear hck2 hK2 hset2 h1 h2 h3 ho2 htn hg2 hg3 hk2 hC1 hC2 hb hw1 D'
    go_wp2
    rw [← HW.out]
    go_region_held3 (fun W => W.cell? ⟨A.c, 0, none⟩ = some (.map (some A.m)) ∧ W.cell? ⟨wr.heap.size, 0, none⟩ = some (.string ⟨x.name.toArray⟩) ∧ (Instr.lookup 75 (.map (some A.m)) (.int .i64 2) false).run Tryz.prog W = .ok (.map (some A.b2)) W) (first | with_reducible exact hS0 | with_reducible exact hS2)
     (fail)
    go_wp2
    exact ⟨⟨t + 1, st'.dropOwn x.name, by omega, by go_num, ld ⟨HF.out.1, HF.out.2, HM.out⟩⟩, by simp [intOf]; omega⟩
   ·rw [if_neg hs] at hm; cases hm
  ·have e : t = L := by omega
   subst e
   rw [List.drop_eq_nil_of_le (by rw [← HL.out]; exact Nat.le_refl _)] at hm
   have HM := ld (Option.some.inj hm)
   clear hm
   go_wp2
   go_end0
   rw [← HM.out]
   exact ⟨rfl, hck, hkp⟩
theorem forget1_any (A : Adr) (vs : List Gram.Var) (a : Option Addr) (L cap : Nat) (st : St) (w0 w : World) (r : St) (h : Ck w0 w A st) (hv : RepC w0 0 [] (.l 112 5 (vs.map varD)) (.slice a L cap)) (hr : Nam.forget false vs st = some r) :
  Calls Tryz.prog 56 #[.pointer (some ⟨A.c, 0, none⟩), .int .i64 1, .slice a L cap] w fun e w' => e = .returned (.tuple #[]) ∧ Ck w0 w' A r ∧ Kp [A.b1, A.b2] w w' := by
 obtain ⟨hL, hLm⟩ := nLen hv
 rw [List.length_map] at hL
 unfold maxLen at hLm
 have HL := ld hL
 have HR := ld hr
 have hlt2 := h.lt
 have HH := ld h
 clear hL hr h
 go_enter Tryz.func56, Tryz.ntmps56
 go_wp2
 go_loopw [10] (fun iv wr => ∃ (t : Nat) (st' : St), t ≤ L ∧ iv = .int .i64 (t : Int) ∧ Hid (Ck w0 wr A st' ∧ Kp [A.b1, A.b2] w wr ∧ Nam.forget false (vs.drop t) st' = some r)) (fun i _ => L - (intOf i).toNat)
 case atStart => exact ⟨0, st, Nat.zero_le _, rfl, ld ⟨HH.out, Kp.refl _ _, HR.out⟩⟩
 case round =>
  obtain ⟨t, st', ht, rfl, HG⟩ := hrel
  obtain ⟨hck, hkp, hm⟩ := HG.out
  clear HG HR
  by_cases hlt : t < L
  ·obtain ⟨x, hx⟩ : ∃ x, vs[t]? = some x := ⟨_, List.getElem?_eq_getElem (by rw [← HL.out]; exact hlt)⟩
   rw [drop_at hx] at hm
   unfold Nam.forget at hm
   obtain ⟨g, p, q, r', rfl, c0, c1, c2, c3, c4, hc⟩ := varAt (RepC.kept hck.base (fun k e => by cases e) hv) hx
   by_cases hs : Nam.short x.name = true
   ·rw [if_pos hs, if_neg (by decide)] at hm
    have HC := ld hck
    have HK := ld hkp
    have HM := ld hm
    clear hx hck hkp hm
    obtain ⟨w1, hw1⟩ : ∃ w1, w1 = wr.alloc (.cells #[.string ⟨x.name.toArray⟩, .int .i64 x.tk, .int .i64 x.tl, .slice p q r', .int .i64 x.at_] 112) := ⟨_, rfl⟩
    have hg1 : wr.grownBy w1 none := by rw [hw1]; exact ga wr _ none
    have d0 : w1.cell? ⟨wr.heap.size, 0, none⟩ = some (.string ⟨x.name.toArray⟩) := by rw [hw1]; exact cell_of_row _ _ 0 _ _ _ (heap_alloc_new wr _)
    have hC1 := HC.out.kept hg1
    have hC2 : Ck w0 w1.drew A st' := hC1.kept (gdrew (World.grownBy.refl _ _))
    have hwl : wr.heap.size < w1.heap.size := by rw [hw1]; simp
    have hbl := HC.out.lt
    have hml := HC.out.mm.lt
    obtain ⟨D', h1, h2, h3⟩ := hC2.s1
    obtain ⟨w2, hrun, ho2, htn⟩ := h1.drop kLaw Tryz.underlying74 (key_of x.name hs) 0
    have hset2 := SetAt.del hC2.nd.2.1 h1 h2 h3 ho2
    have hg2 := htn.grown
    unfold strV at hrun
    have hb := HC.out.bs
    simp only [List.mem_cons, List.not_mem_nil, or_false, not_or] at hb
    have hk2 : Kp [A.b1] w1.drew w2 := Kp.of hg2 _ (fun k e _ => by cases e; simp)
    have hS0 : w1.drew.cell? ⟨A.c, 0, none⟩ = some (.map (some A.m)) ∧ w1.drew.cell? ⟨wr.heap.size, 0, none⟩ = some (.string ⟨x.name.toArray⟩) ∧ (Instr.lookup 75 (.map (some A.m)) (.int .i64 1) false).run Tryz.prog w1.drew = .ok (.map (some A.b1)) w1.drew := ⟨hC2.cell, d0, hC2.mm.look.2.1⟩
    have hS2 : w2.cell? ⟨A.c, 0, none⟩ = some (.map (some A.m)) ∧ w2.cell? ⟨wr.heap.size, 0, none⟩ = some (.string ⟨x.name.toArray⟩) ∧ (Instr.lookup 75 (.map (some A.m)) (.int .i64 1) false).run Tryz.prog w2 = .ok (.map (some A.b1)) w2 := ⟨hg2.cell hS0.1 (by simp; omega), hg2.cell hS0.2.1 (by simp; omega), (hC2.mm.keptK hk2 (by simp; omega)).look.2.1⟩
    have hg3 : w1.grownBy w2 (some A.b1) := (gdrew (World.grownBy.refl w1 (some A.b1))).trans hg2
    have hK2 : Kp [A.b1, A.b2] w w2 := HK.out.trans ((kp1 hg1).trans (kpb1 hg3))
    have hck2 := hC1.own1 hg3 hset2 (Nat.le_refl _) (nodup_drop _ hC1.nd.2.1)
    have HF := ld (And.intro hck2 hK2)
    have HW := ld hw1
    clear hck2 hK2 hset2 h1 h2 h3 ho2 htn hg2 hg3 hk2 hC1 hC2 hb hw1 D'
    go_wp2
    rw [← HW.out]
    go_region_held3 (fun W => W.cell? ⟨A.c, 0, none⟩ = some (.map (some A.m)) ∧ W.cell? ⟨wr.heap.size, 0, none⟩ = some (.string ⟨x.name.toArray⟩) ∧ (Instr.lookup 75 (.map (some A.m)) (.int .i64 1) false).run Tryz.prog W = .ok (.map (some A.b1)) W) (first | with_reducible exact hS0 | with_reducible exact hS2)
     (fail)
    go_wp2
    exact ⟨⟨t + 1, st'.dropIn x.name, by omega, by go_num, ld ⟨HF.out.1, HF.out.2, HM.out⟩⟩, by simp [intOf]; omega⟩
   ·rw [if_neg hs] at hm; cases hm
  ·have e : t = L := by omega
   subst e
   rw [List.drop_eq_nil_of_le (by rw [← HL.out]; exact Nat.le_refl _)] at hm
   have HM := ld (Option.some.inj hm)
   clear hm
   go_wp2
   go_end0
   rw [← HM.out]
   exact ⟨rfl, hck, hkp⟩
open Go.RowKit Go.Maps Go.WideMaps
open Nam (St F)
theorem edgeAt {w : World} {B : Nat} {E : List Nat} {L cap t : Nat} {a : Option Addr} {es : List Gram.Edge} {x : Gram.Edge} (h : RepC w B E (.l 126 2 (es.map edgeD)) (.slice a L cap)) (hx : es[t]? = some x) :
  ∃ g, a = some ⟨g, 0, none⟩ ∧ w.cell? ⟨g, t * 2, none⟩ = some (.string ⟨x.name.toArray⟩) ∧ w.cell? ⟨g, t * 2 + 1, none⟩ = some (.bool x.on) := by
 obtain ⟨g, us, ha, hr, hq⟩ := nRowAt h (nMap edgeD (fun _ => rfl) es) t (nAt edgeD hx)
 obtain rfl := edgeInv hr
 exact ⟨g, ha, by have := hq 0 _ rfl; rwa [Nat.add_zero] at this, hq 1 _ rfl⟩
theorem clock_any (A : Adr) (v : Gram.Var) (a : Option Addr) (L cap : Nat) (st : St) (w0 w : World) (r : Bool) (h : Ck w0 w A st) (hv : RepC w0 0 [] (.l 126 2 (v.clock.map edgeD)) (.slice a L cap)) (hr : Nam.clock st v v.clock = some r) :
  Calls Tryz.prog 72 #[.pointer (some ⟨A.c, 0, none⟩), .agg #[.string ⟨v.name.toArray⟩, .int .i64 v.tk, .int .i64 v.tl, .slice a L cap, .int .i64 v.at_]] w fun e w' => e = .returned (.bool r) ∧ w.grownBy w' none := by
 obtain ⟨hL, hLm⟩ := nLen hv
 rw [List.length_map] at hL
 unfold maxLen at hLm
 have HL := ld hL
 have HR := ld hr
 have HH := ld h
 clear hL hr h
 go_enter Tryz.func72, Tryz.ntmps72
 go_wp2
 go_loopw [10] (fun iv wr => ∃ t : Nat, t ≤ L ∧ iv = .int .i64 (t : Int) ∧ Hid (w.grownBy wr none ∧ wr.heap[w.heap.size]? = some (.cells #[.string ⟨v.name.toArray⟩, .int .i64 v.tk, .int .i64 v.tl, .slice a L cap, .int .i64 v.at_] 112) ∧ Nam.clock st v (v.clock.drop t) = some r)) (fun i _ => L - (intOf i).toNat)
 case atStart => exact ⟨0, Nat.zero_le _, rfl, ld ⟨ga _ _ _, heap_alloc_new w _, HR.out⟩⟩
 case round =>
  obtain ⟨t, ht, rfl, HG⟩ := hrel
  obtain ⟨hg, hcell, hm⟩ := HG.out
  clear HG
  have f0 := cell_of_row wr _ 0 _ _ _ hcell
  have hsz := (gl hcell)
  by_cases hlt : t < L
  ·obtain ⟨x, hx⟩ : ∃ x, v.clock[t]? = some x := ⟨_, List.getElem?_eq_getElem (by rw [← HL.out]; exact hlt)⟩
   rw [drop_at hx] at hm
   unfold Nam.clock at hm
   have hck := HH.out.kept hg
   obtain ⟨g, rfl, c0, c1⟩ := edgeAt (RepC.kept hck.base (fun k e => by cases e) hv) hx
   by_cases hs : Nam.short x.name = true
   ·rw [if_pos hs] at hm
    have hh := fun wx (hgx : Ck w0 wx A st) => variable_any A st x.name hs w0 wx hgx
    unfold strV at hh
    have HC := ld hck
    clear hck hx
    cases hq : (x.name == v.name) with
    | true =>
     rw [hq, Bool.true_or, if_pos rfl] at hm
     have HM := ld (Option.some.inj hm)
     clear hm hh
     go_wp2
     go_ret
     exact ⟨(by rw [← HM.out]; rfl), galloc hg _⟩
    | false =>
     rw [hq, Bool.false_or] at hm
     cases hq2 : Nam.seen st x.name with
     | true =>
      rw [hq2] at hm hh
      rw [if_neg (by decide)] at hm
      have HM := ld hm
      clear hm
      go_wp2_with (go_at_call 70; refine (hh _ (HC.out.kept (ga wr _ none))).mono ?_; rintro e w1 ⟨rfl, hg1⟩)
      have hg2 := (ga wr _ none).trans hg1
      exact ⟨⟨t + 1, by omega, by go_num, ld ⟨hg.trans hg2, (hg2.block _ hsz (by simp)).trans hcell, HM.out⟩⟩, by simp [intOf]; omega⟩
     | false =>
      rw [hq2] at hm hh
      rw [if_pos (by decide)] at hm
      have HM := ld (Option.some.inj hm)
      clear hm
      go_wp2_with (go_at_call 70; refine (hh _ (HC.out.kept (ga wr _ none))).mono ?_; rintro e w1 ⟨rfl, hg1⟩)
      go_ret
      exact ⟨(by rw [← HM.out]; rfl), (galloc hg _).trans hg1⟩
   ·rw [if_neg hs] at hm; cases hm
  ·have e : t = L := by omega
   subst e
   rw [List.drop_eq_nil_of_le (by rw [← HL.out]; exact Nat.le_refl _)] at hm
   have HM := ld (Option.some.inj hm)
   clear hm
   go_wp2
   go_ret
   exact ⟨(by rw [← HM.out]; rfl), hg⟩
theorem leaf_any (f : Int) (w : World) : Calls Tryz.prog 50 #[.int .i64 f] w fun e w' => e = .returned (.bool (Nam.leaf f)) ∧ w' = w := by
 unfold Nam.leaf
 cases h1 : (f == 1) <;> cases h2 : (f == 2) <;> cases h3 : (f == 12) <;>
 ·go_enter Tryz.func50, Tryz.ntmps50
  go_wp2
  go_ret
  exact ⟨rfl, rfl⟩
theorem uses_any (f : Int) (w : World) : Calls Tryz.prog 22 #[.int .i64 f] w fun e w' => e = .returned (.bool (Nam.uses f)) ∧ w' = w := by
 unfold Nam.uses
 cases h1 : (f == 2) <;> cases h2 : (f == 9) <;> cases h3 : (f == 10) <;>
 ·go_enter Tryz.func22, Tryz.ntmps22
  go_wp2
  go_ret
  exact ⟨rfl, rfl⟩
theorem needsKid_any (f : Int) (w : World) : Calls Tryz.prog 97 #[.int .i64 f] w fun e w' => e = .returned (.bool (Nam.needsKid f)) ∧ w' = w := by
 unfold Nam.needsKid
 cases h1 : (f == 14) <;> cases h2 : (f == 15) <;> cases h3 : (f == 18) <;>
 ·go_enter Tryz.func97, Tryz.ntmps97
  go_wp2
  go_ret
  exact ⟨rfl, rfl⟩
theorem calls_any (f : Int) (w : World) : Calls Tryz.prog 23 #[.int .i64 f] w fun e w' => e = .returned (.bool (Nam.calls f)) ∧ w' = w := by
 unfold Nam.calls
 cases h1 : (f == 13) <;> cases h2 : (f == 14) <;> cases h3 : (f == 18) <;> cases h4 : (f == 19) <;>
 ·go_enter Tryz.func23, Tryz.ntmps23
  go_wp2
  go_ret
  exact ⟨rfl, rfl⟩
theorem remembers_any (f : Int) (w : World) : Calls Tryz.prog 26 #[.int .i64 f] w fun e w' => e = .returned (.bool (Nam.remembers f)) ∧ w' = w := by
 have hc := calls_any f
 unfold Nam.remembers
 generalize Nam.calls f = q at hc ⊢
 cases h1 : (f == 6) <;> cases h2 : (f == 7) <;> cases h3 : (f == 8) <;> cases h4 : (f == 12) <;>
 ·go_enter Tryz.func26, Tryz.ntmps26
  go_wp2_with (go_at_call 23; refine (hc _).mono ?_; rintro e w1 ⟨rfl, rfl⟩)
  go_ret
  exact ⟨rfl, rfl⟩
open Go.RowKit Go.Maps Go.WideMaps
open Nam (St F)
structure Kq (n0 : Nat) (X : List Nat) (w w' : World) : Prop where
 os : w'.os = w.os
 tape : w'.tape = w.tape
 output : w'.output = w.output
 size : w.heap.size ≤ w'.heap.size
 block : ∀ k, k < w.heap.size → k ≤ n0 → k ∉ X → w'.heap[k]? = w.heap[k]?
theorem Kp.q {X : List Nat} {w w' : World} (h : Kp X w w') (n0 : Nat) : Kq n0 X w w' := ⟨h.os, h.tape, h.output, h.size, fun k hk _ hx => h.block k hk hx⟩
theorem Kp.q1 {X Y : List Nat} {w w' : World} (h : Kp Y w w') {n0 : Nat} (hY : ∀ k ∈ Y, n0 < k ∨ k ∈ X) : Kq n0 X w w' :=
 ⟨h.os, h.tape, h.output, h.size, fun k hk hn hx => h.block k hk (fun e => by rcases hY k e with h1 | h1 <;> first | omega | exact hx h1)⟩
theorem Kp.onq {X : List Nat} {w wr w' : World} (h : Kp X w wr) (k : Kq w.heap.size X wr w') : Kp X w w' :=
 ⟨k.os.trans h.os, k.tape.trans h.tape, k.output.trans h.output, Nat.le_trans h.size k.size, fun i hi hx => (k.block i (Nat.lt_of_lt_of_le hi h.size) (Nat.le_of_lt hi) hx).trans (h.block i hi hx)⟩
theorem Kq.at {n0 : Nat} {X : List Nat} {w w' : World} (h : Kq n0 X w w') {b : Nat} {o : Obj} (hb : w.heap[b]? = some o) (hn : b ≤ n0) (hx : b ∉ X) : w'.heap[b]? = some o := (h.block b (gl hb) hn hx).trans hb
def Does {σ : Type} (Inv : σ → World → Prop) (Bad : World → Prop) (n0 : Nat) (X : List Nat) (f : Nat) (p : Value) (k : σ → Option (F × σ)) : Prop :=
 (∀ args w, (callFunc f args).run Tryz.prog w = .ok (.enter f args) w) ∧
 ∀ s w r, Inv s w → n0 < w.heap.size → k s = some r → Calls Tryz.prog f #[p] w fun e w' => e = .returned (fv r.1) ∧ Kq n0 X w w' ∧ (r.1.2 = 0 → Inv r.2 w') ∧ Bad w'
theorem inOrder_any {σ : Type} (Inv : σ → World → Prop) (Bad : World → Prop) (X : List Nat) (p : Value) (fs : List Nat) (ks : List (σ → Option (F × σ))) (g : Nat) (s : σ) (w : World) (r : F × σ) (hn : fs.length ≤ 100) (hl : ks.length = fs.length) (hg : w.heap[g]? = some (.cells (fs.map fun f => Value.func (.func f) #[p] #[]).toArray 82 (0, 0))) (hgX : g ∉ X) (hX : ∀ k ∈ X, k < w.heap.size)
  (hd : ∀ (i : Nat) (f : Nat) (k : σ → Option (F × σ)), fs[i]? = some f → ks[i]? = some k → Does Inv Bad w.heap.size X f p k) (hst : ∀ s a b (n : Nat), Inv s a → a.grownBy b (some n) → (n = w.heap.size ∨ a.heap.size ≤ n) → Inv s b) (hstB : ∀ a b (n : Nat), Bad a → a.grownBy b (some n) → (n = w.heap.size ∨ a.heap.size ≤ n) → Bad b) (hIB : ∀ s w, Inv s w → Bad w) (h0 : Inv s w) (hr : Nam.inOrder ks s = some r) :
  Calls Tryz.prog 34 #[.slice (some ⟨g, 0, none⟩) fs.length fs.length] w fun e w' => e = .returned (fv r.1) ∧ Kp X w w' ∧ (r.1.2 = 0 → Inv r.2 w') ∧ Bad w' := by
 have HR := ld hr
 have HH := ld h0
 have HX := ld hX
 have hlg := (gl hg)
 have hnX : w.heap.size ∉ X := fun e => by have := hX _ e; omega
 clear hr h0 hX
 obtain ⟨L, hL⟩ : ∃ L, L = fs.length := ⟨_, rfl⟩
 rw [← hL] at hn hl ⊢
 have HL := ld hL
 have Hl := ld hl
 have HGc := ld hg
 have HST := ld hst
 have HSB := ld hstB
 have HIB := ld hIB
 have HD := ld hd
 clear hL hl hg hst hd hstB hIB
 go_enter Tryz.func34, Tryz.ntmps34
 go_wp2
 go_loopw [8] (fun iv wr => ∃ (t : Nat) (s' : σ), t ≤ L ∧ iv = .int .i64 (t : Int) ∧ Hid (Inv s' wr ∧ Kp X w wr ∧ wr.heap[w.heap.size]? = some fo ∧ Nam.inOrder (ks.drop t) s' = some r)) (fun i _ => L - (intOf i).toNat)
 case atStart => exact ⟨0, s, Nat.zero_le _, rfl, ld ⟨HST.out s w _ w.heap.size HH.out (ga _ _ _) (.inl rfl), Kp.of0 (ga _ _ _) _, heap_alloc_new w fo, HR.out⟩⟩
 case round =>
  obtain ⟨t, s', ht, rfl, HG⟩ := hrel
  obtain ⟨hin, hkp, hcell, hm⟩ := HG.out
  clear HG HR
  have hsz := (gl hcell)
  by_cases hlt : t < L
  ·obtain ⟨f, hf⟩ : ∃ f, fs[t]? = some f := ⟨_, List.getElem?_eq_getElem (by rw [← HL.out]; exact hlt)⟩
   obtain ⟨k, hk⟩ : ∃ k, ks[t]? = some k := ⟨_, List.getElem?_eq_getElem (by rw [Hl.out]; exact hlt)⟩
   rw [drop_at hk] at hm
   unfold Nam.inOrder at hm
   obtain ⟨hen, hdo⟩ := HD.out t f k hf hk
   have hfc : wr.cell? ⟨g, t, none⟩ = some (.func (.func f) #[p] #[]) := by
    rw [cell_of_row wr g t _ _ _ (hkp.at HGc.out hgX)]
    simp [hf]
   cases hx : k s' with
   | none => rw [hx] at hm; cases hm
   | some x =>
    rw [hx] at hm
    simp only at hm
    have hc := hdo s' wr x hin hsz hx
    have HC := ld hcell
    have HK := ld hkp
    clear hin hx hdo hf hk hcell hkp
    obtain ⟨⟨xa, xe⟩, s2⟩ := x
    simp only [fv] at hc
    have hfd := found_any (xa, xe)
    simp only [fv] at hfd
    by_cases h0 : xe = 0
    ·rw [if_pos h0] at hm
     have HM := ld hm
     have hb : (xe != 0) = false := by simp [h0]
     rw [hb] at hfd
     have H0 := ld h0
     clear hm h0 hb
     go_wp2
     refine hc.mono ?_
     rintro e w1 ⟨rfl, hk1, hi1, hB1⟩
     have HI := ld (hi1 H0.out)
     clear hi1 hB1
     have hce1 := hk1.at HC.out (Nat.le_refl _) hnX
     have HF := ld (And.intro (HK.out.onq hk1) hce1)
     clear hk1 hce1
     go_wp2_with (go_at_call 29; refine (hfd _).mono ?_; rintro e w2 ⟨rfl, hg2⟩)
     have hg3 := (ga w1 _ none).trans hg2
     have hs1 := HF.out.1.size
     exact ⟨⟨t + 1, s2, by omega, by go_num, ld ⟨HST.out s2 w1 _ w1.heap.size HI.out (grown_some hg3 _) (.inr (Nat.le_refl _)), HF.out.1.trans (Kp.of0 hg3 _), (hg3.block _ (gl HF.out.2) (by simp)).trans HF.out.2, HM.out⟩⟩, by simp [intOf]; omega⟩
    ·rw [if_neg h0] at hm
     have HM := ld (Option.some.inj hm)
     have hb : (xe != 0) = true := by simp [h0]
     rw [hb] at hfd
     have H0 := ld h0
     clear hm h0 hb
     go_wp2
     refine hc.mono ?_
     rintro e w1 ⟨rfl, hk1, hi1, hB1⟩
     have HB1 := ld hB1
     clear hi1 hB1
     have hce1 := hk1.at HC.out (Nat.le_refl _) hnX
     have HF := ld (And.intro (HK.out.onq hk1) hce1)
     clear hk1 hce1
     go_wp2_with (go_at_call 29; refine (hfd _).mono ?_; rintro e w2 ⟨rfl, hg2⟩; have d0 := hg2.cell (cell_of_row _ _ 0 _ _ _ (heap_alloc_new w1 _)) (by simp); have d1 := hg2.cell (cell_of_row _ _ 1 _ _ _ (heap_alloc_new w1 _)) (by simp); refine Hid.out ?_)
     have hg3 := (ga w1 _ none).trans hg2
     have hce2 := (hg3.block _ (gl HF.out.2) (by simp)).trans HF.out.2
     refine ld ?_
     go_wp2_with (with_reducible refine hold_st 2 ?_)
     refine ld ?_
     refine sg hce2 ?_
     intro w7 hh7 hg7
     go_wp2
     (try simp only [Exit.inBlock, Exit.then])
     refine br hh7 Tryz.underlying63 ?_
     rw [← HM.out]
     exact ⟨rfl, (HF.out.1.trans (Kp.of0 hg3 _)).trans' hg7 (Nat.le_refl _), fun e => absurd e H0.out, HSB.out _ _ _ (HSB.out w1 _ w1.heap.size HB1.out (grown_some hg3 _) (.inr (Nat.le_refl _))) hg7 (.inl rfl)⟩
  ·have e : t = L := by omega
   subst e
   rw [List.drop_eq_nil_of_le (by rw [Hl.out]; exact Nat.le_refl _)] at hm
   have HM := ld (Option.some.inj hm)
   clear hm
   go_wp2_with (with_reducible refine hold_st 2 ?_)
   refine ld ?_
   refine sg hcell ?_
   intro w7 hh7 hg7
   go_wp2
   (try simp only [Exit.inBlock, Exit.then])
   refine br hh7 Tryz.underlying63 ?_
   rw [← HM.out]
   exact ⟨rfl, hkp.trans' hg7 (Nat.le_refl _), fun _ => HST.out s' wr _ _ hin hg7 (.inl rfl), HSB.out _ _ _ (HIB.out _ _ hin) hg7 (.inl rfl)⟩
open Go.RowKit Go.Maps Go.WideMaps Go.Shelf
open Nam (St F)
attribute [local go_sem] Oper.semAt_some
theorem roundAny {m m' : Nat} {P : Program} {l : Nat} {f : FuncId} {tmps : Array Value} {assign body : Code} {w : World} {R : Ending → World → Prop}
 (h : RoundIn Fence.wide m P l f tmps assign body w R) : RoundIn Fence.wide m' P l f tmps assign body w R := ⟨h.1, fun c cs _ => h.2 c cs (room_wide _)⟩
theorem yieldAny {m : Nat} (m' : Nat) {P : Program} {l : Nat} {args : Array Value} {W : World} {R : Ending → World → Prop} (h : YieldAt Fence.wide m P l args W R) : YieldAt Fence.wide m' P l args W R := by
 obtain ⟨fn, tmps, assign, body, hy, hR⟩ := h
 exact ⟨fn, tmps, assign, body, hy, roundAny hR⟩
structure EV (w0 : World) (pr : Gram.Exp → Bool) where
 x : Gram.Exp
 a : Option Addr
 n : Nat
 c : Nat
 h : KidsX w0 0 [] x.kids (.slice a n c)
 hp : (Nam.parts x).all pr = true
def EV.enc {w0 : World} {pr : Gram.Exp → Bool} (e : EV w0 pr) : Array Value := #[.agg (expCells e.x (.slice e.a e.n e.c)).toArray]
def KpC (w0 W W' : World) : Prop := W.heap.size ≤ W'.heap.size ∧ (∀ (k : Nat) (cs : Array Value), W.heap[k]? = some (.cells cs 37 (0, 0)) → W'.heap[k]? = some (.cells cs 37 (0, 0))) ∧ (w0.grownBy W none → w0.grownBy W' none)
theorem KpC.trans {w0 A B C : World} (h : KpC w0 A B) (k : KpC w0 B C) : KpC w0 A C := ⟨Nat.le_trans h.1 k.1, fun i o hi => k.2.1 i o (h.2.1 i o hi), fun hg => k.2.2 (h.2.2 hg)⟩
theorem KpC.of0 {w0 A B : World} (h : A.grownBy B none) : KpC w0 A B := ⟨h.size, fun k o hk => (h.block k (gl hk) (by simp)).trans hk, fun hg => hg.trans h⟩
theorem KpC.cell {w0 A B : World} (h : KpC w0 A B) {b : Nat} {cs : Array Value} (hb : A.heap[b]? = some (.cells cs 37 (0, 0))) : B.heap[b]? = some (.cells cs 37 (0, 0)) := h.2.1 b _ hb
theorem expAt {w : World} {B : Nat} {E : List Nat} {L cap t : Nat} {a : Option Addr} {es : List Gram.Exp} {x : Gram.Exp} (h : KidsX w B E es (.slice a L cap)) (hx : es[t]? = some x) :
  ∃ g p q r, a = some ⟨g, 0, none⟩ ∧ KidsX w B E x.kids (.slice p q r) ∧ ∀ k u, (expCells x (.slice p q r))[k]? = some u → w.cell? ⟨g, t * 9 + k, none⟩ = some u := by
 unfold KidsX at h
 rw [expsD_map] at h
 obtain ⟨g, us, ha, hr, hq⟩ := nRowAt h (nMap expD (fun x => by cases x; rfl) es) t (nAt expD hx)
 obtain ⟨p, q, r, rfl, hk⟩ := expInv hr
 exact ⟨g, p, q, r, ha, hk, hq⟩
theorem kidsLen {w : World} {B : Nat} {E : List Nat} {L cap : Nat} {a : Option Addr} {es : List Gram.Exp} (h : KidsX w B E es (.slice a L cap)) : L = es.length ∧ L ≤ maxLen := by
 unfold KidsX at h
 have := nLen h
 rwa [expsD_map, List.length_map] at this
theorem partsL_app : ∀ (a b : List Gram.Exp), Nam.partsL (a ++ b) = Nam.partsL a ++ Nam.partsL b
 | [], b => by simp [Nam.partsL]
 | x :: a, b => by simp [Nam.partsL, partsL_app a b]
theorem partsL_succ {ks : List Gram.Exp} {t : Nat} {k : Gram.Exp} (h : ks[t]? = some k) : Nam.partsL (ks.take (t + 1)) = Nam.partsL (ks.take t) ++ Nam.parts k := by
 rw [List.take_add_one, h, partsL_app]
 simp [Nam.partsL]
theorem partsL_pre (ks : List Gram.Exp) (t : Nat) : Nam.partsL (ks.take t) <+: Nam.partsL ks := by
 refine ⟨Nam.partsL (ks.drop t), ?_⟩
 rw [← partsL_app, List.take_append_drop]
section
variable (w0 : World) (pr : Gram.Exp → Bool) (l N : Nat) (J Jx : List (EV w0 pr) → World → Prop)
def WalkPost (pre : List (EV w0 pr)) (ps : List Gram.Exp) (W : World) (e : Ending) (W' : World) : Prop :=
 (e = .returned (.bool true) ∧ ∃ ys, ys.map EV.x = ps ∧ J (pre ++ ys) W' ∧ KpC w0 W W') ∨ (e = .returned (.bool false) ∧ ∃ ys, ys.map EV.x <+: ps ∧ Jx (pre ++ ys) W')
set_option maxRecDepth 100000 in
theorem walk_in (hJ : ∀ s A B, J s A → A.grownBy B none → J s B)
  (hY : ∀ m pre (y : EV w0 pr) W, J pre W → pre.length < N → YieldAt Fence.wide m Tryz.prog l y.enc W fun e W' =>
   (e = .returned (.bool true) ∧ J (pre ++ [y]) W' ∧ KpC w0 W W') ∨ (e = .returned (.bool false) ∧ Jx (pre ++ [y]) W')) :
  ∀ (m : Nat) (y : EV w0 pr), SizeOf.sizeOf y.x ≤ m → ∀ (n : Nat) (pre : List (EV w0 pr)) (W : World), w0.grownBy W none → J pre W → pre.length + (Nam.parts y.x).length ≤ N →
   CallsIn Fence.wide n Tryz.prog 33 (y.enc ++ #[.func (.yield l) #[] #[]]) W fun e W' => WalkPost w0 pr J Jx pre (Nam.parts y.x) W e W' := by
 intro m
 induction m with
 | zero => intro y hy; exfalso; obtain ⟨x, _, _, _, _, _⟩ := y; cases x; simp at hy
 | succ m ih =>
  intro y hm n pre W hg hj hN
  obtain ⟨x, a, L, cap, hk, hp⟩ := y
  cases x with
  | mk f s nm tk tl nn mm ks at_ =>
  have hLL := kidsLen hk
  simp only [Gram.Exp.kids] at hLL
  obtain ⟨hL, hLm⟩ := hLL
  unfold maxLen at hLm
  simp only [EV.enc, expCells, List.append_toArray, List.nil_append, List.cons_append]
  obtain ⟨y, hy0⟩ : ∃ y : EV w0 pr, y = ⟨.mk f s nm tk tl nn mm ks at_, a, L, cap, hk, hp⟩ := ⟨_, rfl⟩
  have hyx : y.x = .mk f s nm tk tl nn mm ks at_ := by rw [hy0]
  have hye : y.enc = #[.agg #[.int .i64 f, .int .i64 s, .string ⟨nm.toArray⟩, .int .i64 tk, .int .i64 tl, .int .i64 nn, .int .i64 mm, .slice a L cap, .int .i64 at_]] := by rw [hy0]; rfl
  obtain ⟨box, hbox⟩ : ∃ box : Obj, box = .cells #[.int .i64 f, .int .i64 s, .string ⟨nm.toArray⟩, .int .i64 tk, .int .i64 tl, .int .i64 nn, .int .i64 mm, .slice a L cap, .int .i64 at_] 37 := ⟨_, rfl⟩
  have hpos : 0 < (Nam.parts (.mk f s nm tk tl nn mm ks at_)).length := by simp [Nam.parts]
  have hN' : pre.length + (Nam.parts (.mk f s nm tk tl nn mm ks at_)).length ≤ N := hN
  have hga := ga W box none
  obtain ⟨fn, tmps, assign, body, hy, hR⟩ := hY (n - 1) pre y (W.alloc box) (hJ _ _ _ hj hga) (by omega)
  rw [hye] at hy
  rw [hbox] at hy hR
  have hlf := leaf_any f
  have hdd : ∀ k : Nat, (Fence.wide.depth.isSome = true → 1 ≤ k) := fun k h => by cases h
  have HB := ld hbox
  have HY := ld hyx
  have Hj := ld hj
  have HGw := ld hg
  have HN := ld hN'
  have HK := ld hk
  have HP := ld hp
  have HL := ld hL
  have Hm := ld (show SizeOf.sizeOf (Gram.Exp.mk f s nm tk tl nn mm ks at_) ≤ m + 1 from hm)
  clear hye hyx hbox hga hj hg hN hN' hL hm hpos hy0
  clear hk hp
  refine callsIn_of_wp Tryz.func33 rfl trivial ?_ rfl
  simp only [Tryz.ntmps33, List.size_toArray, List.length_cons, List.length_nil, Nat.reduceAdd, Nat.reduceSub, Array.replicate_succ, Array.replicate_zero, List.push_toArray, List.append_toArray, List.nil_append, List.cons_append]
  gi_wp2
  refine ⟨hdd _, hR.mono ?_⟩
  clear hR
  rintro e W2 (⟨rfl, hJ2, hk2⟩ | ⟨rfl, hx2⟩)
  ·have hbx := hk2.cell (heap_alloc_new W _)
   have c0 := cell_of_row W2 _ 0 _ _ _ hbx
   have c7 := cell_of_row W2 _ 7 _ _ _ hbx
   cases hq : Nam.leaf f with
   | true =>
    rw [hq] at hlf
    gi_wp2_with (refine ⟨trivial, hdd _, ?_⟩; gi_at_call 50; refine (callsIn_wide.2 (hlf _)).mono ?_; rintro e w3 ⟨rfl, rfl⟩)
    go_ret
    refine .inl ⟨rfl, [y], ?_, hJ2, ?_⟩
    ·simp [Nam.parts, HY.out, hq]
    ·exact (KpC.of0 (ga W _ none)).trans hk2
   | false =>
    rw [hq] at hlf
    have HJ2 := ld hJ2
    have HK2 := ld hk2
    have HBX := ld hbx
    have HQ := ld hq
    clear hJ2 hk2 hq hbx
    gi_wp2_with (refine ⟨trivial, hdd _, ?_⟩; gi_at_call 50; refine (callsIn_wide.2 (hlf _)).mono ?_; rintro e w3 ⟨rfl, rfl⟩)
    gi_loopw [17] (fun iv wr => ∃ (t : Nat) (ys : List (EV w0 pr)), t ≤ L ∧ iv = .int .i64 (t : Int) ∧ Hid (ys.map EV.x = .mk f s nm tk tl nn mm ks at_ :: Nam.partsL (ks.take t) ∧ J (pre ++ ys) wr ∧ KpC w0 W wr)) (fun i _ => L - (intOf i).toNat)
    case atStart => exact ⟨0, [y], Nat.zero_le _, rfl, ld ⟨by simp [HY.out, Nam.partsL], HJ2.out, (KpC.of0 (ga W _ none)).trans HK2.out⟩⟩
    case round =>
     obtain ⟨t, ys, ht, rfl, HG⟩ := hrel
     obtain ⟨hys, hjr, hkr⟩ := HG.out
     clear HG
     have hbase := hkr.2.2 HGw.out
     by_cases hlt : t < L
     ·obtain ⟨k, hkk⟩ : ∃ k, ks[t]? = some k := ⟨_, List.getElem?_eq_getElem (by rw [← HL.out]; exact hlt)⟩
      obtain ⟨g, p, q, r, rfl, hkd, hcl⟩ := expAt HK.out hkk
      have hks := partsL_succ hkk
      have hsz : SizeOf.sizeOf k ≤ m := by
       have h1 := List.sizeOf_lt_of_mem (List.mem_of_getElem? hkk)
       have h2 := Hm.out
       simp only [Gram.Exp.mk.sizeOf_spec] at h2
       omega
      have hpk : (Nam.parts k).all pr = true := by
       have h1 := HP.out
       simp only [Nam.parts, HQ.out, List.all_cons, Bool.and_eq_true] at h1
       have h2 := h1.2
       simp only [Bool.false_eq_true, if_false] at h2
       rw [List.all_eq_true] at h2 ⊢
       intro z hz
       refine h2 z ((partsL_pre ks (t + 1)).subset ?_)
       rw [hks]
       exact List.mem_append_right _ hz
      have hlen : (pre ++ ys).length + (Nam.parts k).length ≤ N := by
       have h1 := HN.out
       have h2 := (partsL_pre ks (t + 1)).length_le
       have h3 : ys.length = (ys.map EV.x).length := by simp
       rw [hks, List.length_append] at h2
       rw [hys] at h3
       simp only [Nam.parts, HQ.out, List.length_cons, List.length_append] at h1 h3 ⊢
       simp at h1
       omega
      have hw := fun W3 (hg3 : wr.grownBy W3 none) => ih ⟨k, p, q, r, hkd, hpk⟩ hsz (n - 1) (pre ++ ys) W3 (hbase.trans hg3) (hJ _ _ _ hjr hg3) hlen
      have HF := ld (And.intro hys (And.intro hkr hks))
      cases k with
      | mk f1 s1 nm1 tk1 tl1 n1 m1 ks1 a1 =>
      have u0 := hbase.cell (hcl 0 _ rfl) (by simp)
      have u1 := hbase.cell (hcl 1 _ rfl) (by simp)
      have u2 := hbase.cell (hcl 2 _ rfl) (by simp)
      have u3 := hbase.cell (hcl 3 _ rfl) (by simp)
      have u4 := hbase.cell (hcl 4 _ rfl) (by simp)
      have u5 := hbase.cell (hcl 5 _ rfl) (by simp)
      have u6 := hbase.cell (hcl 6 _ rfl) (by simp)
      have u7 := hbase.cell (hcl 7 _ rfl) (by simp)
      have u8 := hbase.cell (hcl 8 _ rfl) (by simp)
      rw [Nat.add_zero] at u0
      simp only [EV.enc, expCells, List.append_toArray, List.nil_append, List.cons_append] at hw
      clear hcl hys hkr hks hjr hkk hlen hsz ih c0 c7
      gi_wp2_with (refine ⟨trivial, hdd _, ?_⟩; gi_at_call 33; refine (hw _ (ga wr _ none)).mono ?_; clear hw; rintro e W4 (⟨rfl, zs, hz, hJ4, hk4⟩ | ⟨rfl, zs, hz, hx4⟩))
      ·refine ⟨⟨t + 1, ys ++ zs, by omega, by go_num, ld ⟨?_, by rw [← List.append_assoc]; exact hJ4, (HF.out.2.1.trans (KpC.of0 (ga wr _ none))).trans hk4⟩⟩, by simp [intOf]; omega⟩
       rw [List.map_append, HF.out.1, hz, HF.out.2.2]
       rfl
      ·go_ret
       refine .inr ⟨rfl, ys ++ zs, ?_, by rw [← List.append_assoc]; exact hx4⟩
       rw [List.map_append, HF.out.1]
       simp only [Nam.parts, HQ.out]
       simp only [Bool.false_eq_true, if_false, List.cons_append]
       rw [List.cons_prefix_cons]
       refine ⟨rfl, List.IsPrefix.trans ?_ (partsL_pre ks (t + 1))⟩
       rw [HF.out.2.2]
       exact (List.prefix_append_right_inj _).2 hz
     ·have e : t = L := by omega
      subst e
      have hall : ks.take t = ks := List.take_of_length_le (by rw [← HL.out]; exact Nat.le_refl _)
      rw [hall] at hys
      have HF := ld (And.intro hys (And.intro hjr hkr))
      clear hys hjr hkr hall
      gi_wp2
      go_ret
      exact .inl ⟨rfl, ys, by rw [HF.out.1]; simp [Nam.parts, HQ.out], HF.out.2.1, HF.out.2.2⟩
  ·gi_wp2
   go_ret
   exact .inr ⟨rfl, [y], by simp [Nam.parts, HY.out], hx2⟩
end
open Go.RowKit Go.Maps Go.WideMaps Go.Shelf
open Nam (St F)
attribute [local go_sem] Oper.semAt_some
def expO (cs : List Value) : Obj := .cells cs.toArray 37 (0, 0)
theorem parts_any (x : Gram.Exp) (v : Value) (w : World) : Calls Tryz.prog 25 #[.agg (expCells x v).toArray] w fun e w' => e = .returned (.func (.func 32) #[] #[.pointer (some ⟨w.heap.size, 0, none⟩)]) ∧ w' = w.alloc (expO (expCells x v)) := by
 have hmf := makeFunc_run
 cases x with
 | mk f s nm tk tl nn mm ks at_ =>
 simp only [expCells]
 go_enter Tryz.func25, Tryz.ntmps25
 go_wp2
 go_ret
 exact ⟨rfl, rfl⟩
theorem below_grown {w0 w W : World} (hg : w0.grownBy w none) (h : Below w.heap.size w W) : w0.grownBy W none :=
 ⟨h.os.trans hg.os, h.tape.trans hg.tape, h.output.trans hg.output, Nat.le_trans hg.size h.size, fun k hk _ => (h.block k (Nat.lt_of_lt_of_le hk hg.size)).trans (hg.block k hk (by simp))⟩
set_option maxRecDepth 100000 in
theorem parts_stops (w0 : World) (pr : Gram.Exp → Bool) (y : EV w0 pr) (n Bt : Nat) (w : World) (hg : w0.grownBy w none) (hb : w.heap[Bt]? = some (expO (expCells y.x (.slice y.a y.n y.c)))) :
  SeqStopsK (α := EV w0 pr) Fence.wide n Tryz.prog 32 #[.pointer (some ⟨Bt, 0, none⟩)] EV.enc (KpC w0) (fun ys => ys.map EV.x = Nam.parts y.x) (fun ys => ys.map EV.x <+: Nam.parts y.x) (Nam.parts y.x).length w := by
 intro l J Jx W hW hJ hJx hY h0
 have hbt : Bt < w.heap.size := (gl hb)
 have hW0 := below_grown hg hW
 have hp := walk_in w0 pr l (Nam.parts y.x).length J Jx (fun s A B hs hgb => hJ s A B none hs hgb (fun r e => by cases e)) (fun m pre z W1 hj hl => yieldAny m (hY pre z W1 hj hl)) _ y (Nat.le_refl _) (n - 1) [] W hW0 h0 (by simp)
 have hbW := (hW.block Bt hbt).trans hb
 have hdd : ∀ k : Nat, (Fence.wide.depth.isSome = true → 1 ≤ k) := fun k h => by cases h
 obtain ⟨x, a, L, cap, hk, hpp⟩ := y
 cases x with
 | mk f s nm tk tl nn mm ks at_ =>
 simp only [EV.enc, expCells, List.append_toArray, List.nil_append, List.cons_append] at hp
 unfold expO at hbW
 simp only [expCells] at hbW
 have u0 := cell_of_row W _ 0 _ _ _ hbW
 have u1 := cell_of_row W _ 1 _ _ _ hbW
 have u2 := cell_of_row W _ 2 _ _ _ hbW
 have u3 := cell_of_row W _ 3 _ _ _ hbW
 have u4 := cell_of_row W _ 4 _ _ _ hbW
 have u5 := cell_of_row W _ 5 _ _ _ hbW
 have u6 := cell_of_row W _ 6 _ _ _ hbW
 have u7 := cell_of_row W _ 7 _ _ _ hbW
 have u8 := cell_of_row W _ 8 _ _ _ hbW
 clear hb hbW hY hJ hJx
 simp only [List.append_toArray, List.nil_append, List.cons_append]
 refine callsIn_of_wp Tryz.func32 rfl trivial ?_ rfl
 simp only [Tryz.ntmps32, List.size_toArray, List.length_cons, List.length_nil, Nat.reduceAdd, Nat.reduceSub, Array.replicate_succ, Array.replicate_zero, List.push_toArray, List.append_toArray, List.nil_append, List.cons_append]
 gi_wp2_with (refine ⟨trivial, hdd _, ?_⟩; gi_at_call 33; refine hp.mono ?_; clear hp; rintro e W1 (⟨rfl, ys, hys, hJ1, _⟩ | ⟨rfl, ys, hys, hx⟩))
 ·go_end0
  exact ⟨⟨_, rfl⟩, .inl ⟨ys, hys, by simpa using hJ1⟩⟩
 ·go_end0
  exact ⟨⟨_, rfl⟩, .inr ⟨ys, hys, by simpa using hx⟩⟩
open Go.RowKit Go.Maps Go.WideMaps Go.Shelf
open Nam (St F)
attribute [local go_sem] Oper.semAt_some
theorem KpC.put {w0 : World} (W : World) (l : Nat) (o o' : Obj) (hl : w0.heap.size ≤ l) (h : W.heap[l]? = some o) (hc : o.isCells = false) : KpC w0 W (W.putObj l o') := by
 have hg := grownBy_putObj' W l o'
 refine ⟨hg.size, fun k o2 hk => ?_, fun hb => hb.andThen hg (fun j e => .inl (by cases e; exact hl))⟩
 have hne : some k ≠ some l := fun e => by cases e; rw [h] at hk; cases hk; cases hc
 exact (hg.block k (gl hk) hne).trans hk
theorem own_cells {b B : Nat} {cs : Array Value} {t : TypeId} {W W' : World} {row : Option Nat} (h : W.heap[b]? = some (.cells cs t (0, 0))) (hg : W.grownBy W' row) (hr : ∀ r, row = some r → B ≤ r ∧ ∃ o : Obj, W.heap[r]? = some o ∧ o.isCells = false) : W'.heap[b]? = some (.cells cs t (0, 0)) := by
 refine (hg.block b (gl h) (fun e => ?_)).trans h
 obtain ⟨_, o, ho, hc⟩ := hr b e.symm
 rw [h] at ho
 cases ho
 cases hc
theorem own_grown {w W W' : World} {B : Nat} {row : Option Nat} (h : w.grownBy W none) (hB : w.heap.size ≤ B) (hg : W.grownBy W' row) (hr : ∀ r, row = some r → B ≤ r ∧ ∃ o : Obj, W.heap[r]? = some o ∧ o.isCells = false) : w.grownBy W' none :=
 h.andThen hg (fun j e => .inl (Nat.le_trans hB (hr j e).1))
theorem mem_not {w0 : World} {pr : Gram.Exp → Bool} {ys : List (EV w0 pr)} {x : Gram.Exp} (h : ys.map EV.x = Nam.parts x) (hr : ∀ y ∈ ys, Nam.remembers y.x.form = false) : Nam.memory x = false := by
 unfold Nam.memory
 rw [← h, List.any_eq_false]
 intro z hz
 obtain ⟨y, hy, rfl⟩ := List.mem_map.1 hz
 simp [hr y hy]
theorem mem_yes {w0 : World} {pr : Gram.Exp → Bool} {ys : List (EV w0 pr)} {y : EV w0 pr} {x : Gram.Exp} (h : (ys ++ [y]).map EV.x <+: Nam.parts x) (hr : Nam.remembers y.x.form = true) : Nam.memory x = true := by
 unfold Nam.memory
 rw [List.any_eq_true]
 exact ⟨y.x, h.subset (by simp), hr⟩
set_option maxRecDepth 100000 in
theorem memory_any (w0 : World) (pr : Gram.Exp → Bool) (y : EV w0 pr) (w : World) (hg : w0.grownBy w none) :
  Calls Tryz.prog 16 y.enc w fun e w' => e = .returned (.bool (Nam.memory y.x)) ∧ w.grownBy w' none := by
 have hdd : ∀ k : Nat, (Fence.wide.depth.isSome = true → 1 ≤ k) := fun k h => by cases h
 obtain ⟨y, hy⟩ : ∃ z : EV w0 pr, z = y := ⟨_, rfl⟩
 rw [← hy]
 have hst := fun n Bt W => parts_stops w0 pr y n Bt W
 obtain ⟨x, hx⟩ : ∃ x, x = y.x := ⟨_, rfl⟩
 have hye : y.enc = #[.agg (expCells x (.slice y.a y.n y.c)).toArray] := by rw [hx]; rfl
 rw [hye]
 have hpt := parts_any x (.slice y.a y.n y.c)
 rw [← hx] at hst ⊢
 generalize y.a = a at hst hpt ⊢
 generalize y.n = L at hst hpt ⊢
 generalize y.c = cap at hst hpt ⊢
 clear hye hx hy y
 cases x with
 | mk f s nm tk tl nn mm ks at_ =>
 obtain ⟨X, hX⟩ : ∃ X, X = Gram.Exp.mk f s nm tk tl nn mm ks at_ := ⟨_, rfl⟩
 rw [← hX] at hst ⊢
 simp only [hX, expCells] at hst hpt ⊢
 rw [← hX] at hst ⊢
 have HST := ld hst
 clear hst hX
 refine (callsIn_wide (n := 9)).1 ?_
 refine callsIn_of_wp_marks Tryz.func16 rfl trivial ?_ rfl
 simp only [Tryz.ntmps16, List.size_toArray, List.length_cons, List.length_nil, Nat.reduceAdd, Nat.reduceSub, Array.replicate_succ, Array.replicate_zero, List.push_toArray, List.append_toArray, List.nil_append, List.cons_append]
 gi_wp2_with (refine ⟨trivial, ?_⟩; gi_at_call 25; refine (callsIn_wide.2 (hpt _)).mono ?_; rintro e w1 ⟨rfl, rfl⟩; refine Hid.out ?_)
 obtain ⟨bx, hbx⟩ : ∃ bx : Obj, bx = .cells #[.int .i64 f, .int .i64 s, .string ⟨nm.toArray⟩, .int .i64 tk, .int .i64 tl, .int .i64 nn, .int .i64 mm, .slice a L cap, .int .i64 at_] 37 (0, 0) := ⟨_, rfl⟩
 obtain ⟨W0, hW0⟩ : ∃ W0, W0 = ((w.alloc bx).alloc (.cells #[.bool false] 4)).alloc bx := ⟨_, rfl⟩
 have hg0 : w.grownBy W0 none := by rw [hW0]; exact galloc (galloc (ga w _ none) _) _
 have hsz : W0.heap.size = w.heap.size + 1 + 1 + 1 := by rw [hW0]; simp
 have hr0 : W0.heap[w.heap.size + 1]? = some (.cells #[.bool false] 4) := by
  have e := heap_alloc2_old (w.alloc bx) (.cells #[.bool false] 4) bx
  rw [World.size_alloc] at e
  rw [hW0]; exact e
 have hb0 : W0.heap[w.heap.size + 1 + 1]? = some bx := by
  have e := heap_alloc2_new (w.alloc bx) (.cells #[.bool false] 4) bx
  rw [World.size_alloc] at e
  rw [hW0]; exact e
 have hst := HST.out 8 (w.heap.size + 1 + 1) W0 (hg.trans hg0) (by rw [hb0, hbx]; rfl)
 rw [hbx] at hW0
 simp only [expO]
 rw [← hW0]
 refine ld ?_
 have HW := ld hW0
 have hgs := hg.size
 clear hW0 hbx hb0 hpt HST bx
 gi_wp2
 refine wpIn_rangeFunc_ownH rfl (by omega) (gf := 32) (lb := #[.pointer (some ⟨w.heap.size + 1 + 1, 0, none⟩)]) rfl trivial (enters_of Tryz.func32 (by kernel_rfl) rfl) hst (fun h k => h.trans k) (fun W l o o' hl h hc _ => KpC.put W l o o' (by omega) h hc) (Below.refl _ _) (fun _ => rfl)
  (fun (pre : List (EV w0 pr)) W => w.grownBy W none ∧ W.heap[w.heap.size + 1]? = some (.cells #[.bool false] 4 (0, 0)) ∧ ∀ z ∈ pre, Nam.remembers z.x.form = false)
  (fun c (pre : List (EV w0 pr)) W => c = .ret ∧ w.grownBy W none ∧ W.heap[w.heap.size + 1]? = some (.cells #[.bool true] 4 (0, 0)) ∧ ∃ (init : List (EV w0 pr)) (z : EV w0 pr), pre = init ++ [z] ∧ Nam.remembers z.x.form = true)
  (fun s A B row hs hgr hr => ⟨own_grown hs.1 (by omega) hgr hr, own_cells hs.2.1 hgr hr, hs.2.2⟩)
  (fun c s A B row hs hgr hr => ⟨hs.1, own_grown hs.2.1 (by omega) hgr hr, own_cells hs.2.2.1 hgr hr, hs.2.2.2⟩)
  ⟨hg0, hr0, by simp⟩
  (fun z a' W => ∃ Bx, W.heap[Bx]? = some (expO (expCells z.x (.slice z.a z.n z.c))) ∧ a' = { tmps := #[.agg #[.int .i64 f, .int .i64 s, .string ⟨nm.toArray⟩, .int .i64 tk, .int .i64 tl, .int .i64 nn, .int .i64 mm, .slice a L cap, .int .i64 at_], .pointer (some ⟨w.heap.size, 0, none⟩), .pointer (some ⟨w.heap.size + 1, 0, none⟩), .pointer (some ⟨Bx, 0, none⟩), .agg #[.int .i64 f, .int .i64 s, .string ⟨nm.toArray⟩, .int .i64 tk, .int .i64 tl, .int .i64 nn, .int .i64 mm, .slice a L cap, .int .i64 at_], .func (.func 32) #[] #[.pointer (some ⟨w.heap.size + 1 + 1, 0, none⟩)], .agg (expCells z.x (.slice z.a z.n z.c)).toArray, undef, undef, undef], defers := [] })
  (fun z a' s A B row hs hgr hr => by obtain ⟨Bx, h1, h2⟩ := hs; exact ⟨Bx, own_cells h1 hgr hr, h2⟩) ?assign ?body ?done ?stop
 case assign =>
  rintro l pre z W K ⟨h1, h2, h3⟩ hK
  obtain ⟨zx, za, zn, zc, zh, zp⟩ := z
  cases zx with
  | mk f1 s1 nm1 tk1 tl1 n1 m1 ks1 a1 =>
  simp only [EV.enc, expCells] at hK ⊢
  simp
  gi_wp2
  exact hK _ _ ((KeepsOthers.alloc _ _).from _) (KpC.of0 (ga W _ none)) ⟨galloc h1 _, ((ga W _ none).block _ (gl h2) (by simp)).trans h2, h3⟩ ⟨W.heap.size, heap_alloc_new W _, rfl⟩
 case body =>
  rintro l pre z a' W hl ⟨rr, hrr⟩ ⟨h1, h2, h3⟩ ⟨Bx, hBx, rfl⟩ hlt
  have hrm := remembers_any z.x.form
  have Hz : Hid (∃ q, q = Nam.remembers z.x.form) := ld ⟨_, rfl⟩
  obtain ⟨zx, za, zn, zc, zh, zp⟩ := z
  cases zx with
  | mk f1 s1 nm1 tk1 tl1 n1 m1 ks1 a1 =>
  unfold expO at hBx
  simp only [expCells, Gram.Exp.form] at hBx hrm ⊢
  have u0 := cell_of_row W _ 0 _ _ _ hBx
  have v0 := cell_of_row W _ 0 _ _ _ h2
  have v1 := frozen_of_row W _ 0 _ _ h2
  clear hBx
  cases hq : Nam.remembers f1 with
  | true =>
   rw [hq] at hrm
   gi_wp2_with (refine ⟨trivial, ?_⟩; gi_at_call 26; refine (CallsIn.inRound l (callsIn_wide.2 (hrm _))).mono ?_; rintro e w2 ⟨rfl, hw2⟩; obtain rfl := hw2.symm)
   have hgs2 : W.grownBy (W.setCell ⟨w.heap.size + 1, 0, none⟩ (.bool true)) (some (w.heap.size + 1)) := grown_set W ⟨w.heap.size + 1, 0, none⟩ _
   refine ⟨(KeepsOthers.setCell _ _ _).from _, rfl, h1.andThen hgs2 (fun j e => .inl (by cases e; omega)), ?_, pre, _, rfl, hq⟩
   rw [heap_setCell_same W (w.heap.size + 1) 0 _ _ _ h2]
   rfl
  | false =>
   rw [hq] at hrm
   gi_wp2_with (refine ⟨trivial, ?_⟩; gi_at_call 26; refine (CallsIn.inRound l (callsIn_wide.2 (hrm _))).mono ?_; rintro e w2 ⟨rfl, hw2⟩; obtain rfl := hw2.symm)
   refine ⟨KeepsFrom.refl _ _, KpC.of0 (World.grownBy.refl _ _), h1, h2, fun z hz => ?_⟩
   rcases List.mem_append.1 hz with h | h
   ·exact h3 z h
   ·rw [List.mem_singleton.1 h]; exact hq
 case done =>
  rintro D xs W hD hS ⟨h1, h2, h3⟩ hK
  have v0 := cell_of_row W _ 0 _ _ _ h2
  have v1 := frozen_of_row W _ 0 _ _ h2
  gi_wp2
  have hK2 := (KeepsOthers.setCell W ⟨w.heap.size + 1, 0, none⟩ (.bool false)).same D _ hK rfl
  refine ⟨by simp, .inl ⟨_, _, rfl, run_takeDeferred hK2, ?_⟩⟩
  have hs1 : (W.setCell ⟨w.heap.size + 1, 0, none⟩ (.bool false)).heap[w.heap.size + 1]? = some (.cells #[.bool false] 4 (0, 0)) := by rw [heap_setCell_same W (w.heap.size + 1) 0 _ _ _ h2]; rfl
  have hgp := grownBy_putObj' (W.setCell ⟨w.heap.size + 1, 0, none⟩ (.bool false)) D (.deferred none)
  have hs2 := (hgp.block (w.heap.size + 1) (gl hs1) (by simp; omega)).trans hs1
  have hc2 := cell_of_row _ _ 0 _ _ _ hs2
  have hG : w.grownBy ((W.setCell ⟨w.heap.size + 1, 0, none⟩ (.bool false)).putObj D (.deferred none)) none := (h1.andThen (grown_set W ⟨w.heap.size + 1, 0, none⟩ _) (fun j e => .inl (by cases e; show w.heap.size ≤ w.heap.size + 1; omega))).andThen hgp (fun j e => .inl (by cases e; omega))
  have hm := mem_not hS h3
  generalize ((W.setCell ⟨w.heap.size + 1, 0, none⟩ (.bool false)).putObj D (.deferred none)) = Wz at hc2 hG ⊢
  clear hs2 hgp hs1
  rw [hm]
  have HGz := ld hG
  clear hG
  simp [LeavesInM, LeavesIn, results, Tryz.results16, go_sem, hc2]
  exact HGz.out
 case stop =>
  rintro D c pre W hD hSp ⟨rfl, h1, h2, init, z, rfl, hz⟩ hK
  gi_wp2
  refine ⟨by simp, .inl ⟨_, _, rfl, run_takeDeferred hK, ?_⟩⟩
  have hgp := grownBy_putObj' W D (.deferred none)
  have hs2 := (hgp.block (w.heap.size + 1) (gl h2) (by simp; omega)).trans h2
  have hc2 := cell_of_row _ _ 0 _ _ _ hs2
  have hG : w.grownBy (W.putObj D (.deferred none)) none := h1.andThen hgp (fun j e => .inl (by cases e; omega))
  have hm := mem_yes hSp hz
  generalize (W.putObj D (.deferred none)) = Wz at hc2 hG ⊢
  clear hs2 hgp
  rw [hm]
  have HGz := ld hG
  clear hG
  simp [LeavesInM, LeavesIn, results, Tryz.results16, go_sem, hc2]
  exact HGz.out
open Go.RowKit Go.Maps Go.WideMaps Go.Shelf
section
variable {P : Program} {ops : Array Oper} {Q : Exit → Act → World → Prop} {md : Region.Mode} {l0 n : Nat}
theorem op_in (hLO : ¬ LetsOut Q) {j : Nat} {K K' : Act → World → Prop} (hK : ∀ a w, K a w → K' a w) (hd : ∀ o c, ops[j]? = some o → o.op ≠ .defer c) {a : Act} {w : World} (h : wpOp P ops Q j K a w) : wpOpIn (Fence.wide.inRound l0) n P ops Q j K' a w := by
 unfold wpOp at h
 unfold wpOpIn
 cases ho : ops[j]? with
 | none => rw [ho] at h; exact hK _ _ h
 | some o =>
  rw [ho] at h
  simp only at h ⊢
  by_cases hw : Region.wanted o (yielded ops a.tmps) = true
  ·rw [if_pos hw] at h ⊢
   have h1 : o.wp P a w K Q := h.resolve_right (fun e => hLO e.2)
   refine ⟨fun _ _ => trivial, ?_⟩
   show o.uponIn (Fence.wide.inRound l0) n P a K' Q ((o.semAt (some l0) a.eval).run P w)
   rw [Oper.semAt_some l0 a.eval o (fun c => hd o c ho)]
   unfold Oper.wp at h1
   generalize (execOp a.eval o).run P w = r at h1 ⊢
   cases r with
   | ok x w' =>
    cases x with
    | value v => exact hK _ _ h1
    | skip => exact hK _ _ h1
    | defer d => exact hK _ _ h1
    | enter f args =>
     refine ⟨fun e => (by cases e), ?_⟩
     refine CallsIn.inRound l0 (callsIn_wide.2 (Calls.mono h1 ?_))
     intro e w'' he
     cases e with
     | returned v => exact hK _ _ he
     | panicked ch => exact he
     | outgrown => exact he
    | row row args =>
     refine ⟨fun e => (by cases e), ?_⟩
     exact fun c cs _ => let ⟨v, w'', r, s⟩ := h1 c cs; ⟨v, w'', hK _ _ r, stepsIn_wide.2 s⟩
    | _ => exact h1.elim
   | halt x w' =>
    cases x <;> first | exact h1 | exact h1.elim
  ·rw [if_neg hw] at h ⊢
   exact ⟨fun _ _ => trivial, hK _ _ h⟩
theorem wpOp_now {i : Nat} {o : Oper} {K : Act → World → Prop} {a : Act} {w : World} (hi : ops[i]? = some o) (hw : Region.wanted o (yielded ops a.tmps) = true) (h : ∀ K' : Act → World → Prop, (∀ a w, K a w → K' a w) → o.wp P a w K' Q) : wpOp P ops Q i K a w := by
 unfold wpOp
 rw [hi]
 simp only
 rw [if_pos hw]
 exact .inl (h K (fun _ _ h => h))
theorem wpL_take2 {S : World → Prop} {Z : List Nat} {i d : Nat} {oi : Oper} {v : Value} {f : Nat} {l : Array Bool} {a : Act} {w : World} (hi : ops[i]? = some oi) (hdst : oi.dst = some d)
  (hs : Region.noSelect ops = true) (hf : Region.free md ops l i = true) (hr : (Region.ready md ops l).contains i = true)
  (hQ : ∀ c a w, Q (.panic c) (a.put (some d) v) w → Q (.panic c) a w) (hZ : (Z.all fun z => ((ops[z]?).map fun oz => oz.after.any fun e => Region.binds md e && e.on == i).getD false) = true) (hy : YieldsIf P ops S oi v a) (hS : S w)
  (h : wpL P md ops Q S Z f (l.setIfInBounds i true) (a.put (some d) v) w) : wpL P md ops Q S Z (f + 1) l a w :=
 wpL_take hi hs hf hr (by rw [hdst]; exact hQ) hZ hy hS (by rw [hdst]; exact h)
theorem t2 {S : World → Prop} {Z : List Nat} (i d : Nat) (v : Value) {oi : Oper} {f : Nat} {l : Array Bool} {a : Act} {w : World} (hy : ∀ w, S w → (execOp a.eval oi).run P w = .ok (.value v) w) (hS : S w)
  (h : wpL P md ops Q S Z f (l.setIfInBounds i true) (a.put (some d) v) w) (hi : ops[i]? = some oi := by exact rfl)
  (hc : (oi.dst == some d && Region.noSelect ops && Region.free md ops l i && (Region.ready md ops l).contains i && (Z.all fun z => ((ops[z]?).map fun oz => oz.after.any fun e => Region.binds md e && e.on == i).getD false) && Region.wanted oi (yielded ops a.tmps)) = true := by kernel_rfl)
  (hQ : ∀ c a w, Q (.panic c) (a.put (some d) v) w → Q (.panic c) a w := by exact fun _ _ _ h => h) : wpL P md ops Q S Z (f + 1) l a w := by
 simp only [Bool.and_eq_true] at hc
 obtain ⟨⟨⟨⟨⟨h1, h2⟩, h3⟩, h4⟩, h5⟩, h6⟩ := hc
 exact wpL_take2 hi (eq_of_beq h1) h2 h3 h4 hQ h5 (.inl ⟨h6, hy⟩) hS h
theorem t1 {S : World → Prop} {Z : List Nat} (i d : Nat) (v : Value) {oi : Oper} {f : Nat} {l : Array Bool} {a : Act} {w : World} (hS : S w)
 (h : wpL P md ops Q S Z f (l.setIfInBounds i true) (a.put (some d) v) w) (hi : ops[i]? = some oi := by exact rfl)
 (hc : (oi.dst == some d && Region.noSelect ops && Region.free md ops l i && (Region.ready md ops l).contains i && (Z.all fun z => ((ops[z]?).map fun oz => oz.after.any fun e => Region.binds md e && e.on == i).getD false) && Region.wanted oi (yielded ops a.tmps)) = true := by kernel_rfl)
 (hQ : ∀ c a w, Q (.panic c) (a.put (some d) v) w → Q (.panic c) a w := by exact fun _ _ _ h => h) (hy : ∀ w, S w → (execOp a.eval oi).run P w = .ok (.value v) w := by intro _ _; kernel_rfl) : wpL P md ops Q S Z (f + 1) l a w := t2 i d v hy hS h hi hc hQ
theorem t3 {S : World → Prop} {Z : List Nat} (i d : Nat) {oi : Oper} {f : Nat} {l : Array Bool} {a : Act} {w : World} (hS : S w)
  (h : wpL P md ops Q S Z f (l.setIfInBounds i true) (a.put (some d) undef) w) (hi : ops[i]? = some oi := by exact rfl)
  (hc : (oi.dst == some d && Region.noSelect ops && Region.free md ops l i && (Region.ready md ops l).contains i && (Z.all fun z => ((ops[z]?).map fun oz => oz.after.any fun e => Region.binds md e && e.on == i).getD false) && !Region.wanted oi (yielded ops a.tmps)) = true := by kernel_rfl)
  (hQ : ∀ c a w, Q (.panic c) (a.put (some d) undef) w → Q (.panic c) a w := by exact fun _ _ _ h => h) : wpL P md ops Q S Z (f + 1) l a w := by
 simp only [Bool.and_eq_true, Bool.not_eq_true'] at hc
 obtain ⟨⟨⟨⟨⟨h1, h2⟩, h3⟩, h4⟩, h5⟩, h6⟩ := hc
 exact wpL_take2 hi (eq_of_beq h1) h2 h3 h4 hQ h5 (.inr ⟨h6, rfl⟩) hS h
theorem sA {α : Type} (l : List α) (i : Nat) (v : α) : l.toArray.setIfInBounds i v = (l.set i v).toArray := List.setIfInBounds_toArray ..
theorem sB {α : Type} (x : α) (l : List α) (v : α) : (x :: l).set 0 v = v :: l := rfl
theorem sC {α : Type} (x : α) (l : List α) (i : Nat) (v : α) : (x :: l).set (i + 1) v = x :: l.set i v := rfl
theorem wpL_call {S : World → Prop} {Z : List Nat} {i d g : Nat} {args : Array Value} {oi : Oper} {f : Nat} {l : Array Bool} {a : Act} {w : World} {R : Value → World → Prop} (hr : Region.ready md ops l = [i]) (hi : ops[i]? = some oi) (hdst : oi.dst = some d)
  (hw : Region.wanted oi (yielded ops a.tmps) = true) (hrun : (execOp a.eval oi).run P w = .ok (.enter g args) w) (hc : Calls P g args w fun e w' => ∃ v, e = .returned v ∧ R v w') (hS : ∀ v w', R v w' → S w')
  (h : ∀ v w', R v w' → wpL P md ops Q S Z f (l.setIfInBounds i true) (a.put (some d) v) w') : wpL P md ops Q S Z (f + 1) l a w := by
 refine wpL_one hr (wpOp_now hi hw (fun K' hK => ?_))
 unfold Oper.wp
 rw [hrun, Oper.upon_enter]
 refine hc.mono ?_
 rintro e w' ⟨v, rfl, hR⟩
 refine hK _ _ ⟨fun _ => hS v w' hR, ?_⟩
 rw [hdst]
 exact h v w' hR
theorem any_in (hLO : ¬ LetsOut Q) (hd : ∀ (j : Nat) o c, ops[j]? = some o → o.op ≠ .defer c) : ∀ (f : Nat) (l : Array Bool) (a : Act) (w : World), wpAny P md ops Q f l a w → wpAnyIn (Fence.wide.inRound l0) n P md ops Q f l a w
 | 0, _, _, _, h => h
 | f + 1, _, _, _, h => ⟨h.1, fun j hj => op_in hLO (fun a w hh => any_in hLO hd f _ a w hh) (hd j) (h.2 j hj)⟩
theorem region_in {S : World → Prop} {id : Nat} {a : Act} {w : World} (hm : P.follows .mixedOrders = true) (hLO : ¬ LetsOut Q) (hd : (ops.all fun o => match o.op with | .defer _ => false | _ => true) = true) (h : wpL P .any ops Q S [] ops.size (Array.replicate ops.size false) a w.drew) :
  (Code.region id ops true).wpIn (Fence.wide.inRound l0) n P Q a w :=
 wpIn_region_any hm (any_in hLO (fun j o c ho e => by
  have h1 := Array.all_eq_true.1 hd j (Array.getElem?_eq_some_iff.1 ho).1
  rw [(Array.getElem?_eq_some_iff.1 ho).2, e] at h1
  cases h1) _ _ _ _ (wpL_any _ _ _ _ h))
end
open Go.RowKit Go.Maps Go.WideMaps
theorem wpL_store {P : Program} {ops : Array Oper} {Q : Exit → Act → World → Prop} {md : Region.Mode} {S : World → Prop} {Z : List Nat} {i : Nat} {oi : Oper} {f : Nat} {l : Array Bool} {a : Act} {w : World} (g : Nat) (cells old : Array Value) (t ty : TypeId) (x y : Operand) (hr : Region.ready md ops l = [i]) (hi : ops[i]? = some oi) (hw : Region.wanted oi (yielded ops a.tmps) = true) (hdst : oi.dst = none)
  (ho : oi.op = .store ty x y) (hx : a.eval x = .pointer (some ⟨g, 0, none⟩)) (hy : a.eval y = .agg cells) (hg : w.heap[g]? = some (.cells old t (0, 0))) (hin : (P.info? ty).map (·.size) = some cells.size)
  (hold : old.size = cells.size) (h1 : cells.all (·.oneCell') = true)
  (h : ∀ w', w'.heap[g]? = some (.cells cells t (0, 0)) → w.grownBy w' (some g) → S w' ∧ wpL P md ops Q S Z f (l.setIfInBounds i true) a w') : wpL P md ops Q S Z (f + 1) l a w := by
 refine wpL_one hr (wpOp_now hi hw (fun K' hK => ?_))
 refine wp_store_row ty x y ho g cells hx hy t old hg hin hold h1 (hK _ _ ?_)
 have h2 := h (w.setRow g cells) (by simp [World.setRow, Array.getElem?_modify, hg]) (by
  refine ⟨rfl, rfl, rfl, by simp [World.setRow], fun k _ hk => ?_⟩
  have hne : g ≠ k := fun e => hk (by rw [e])
  simp [World.setRow, Array.getElem?_modify, hne])
 rw [hdst]
 exact ⟨fun _ => h2.1, h2.2⟩
section
variable {P : Program} {ops : Array Oper} {Q : Exit → Act → World → Prop} {md : Region.Mode} {S : World → Prop} {Z : List Nat}
end
theorem Kp.cellAt {X : List Nat} {w w' : World} (h : Kp X w w') {b k : Nat} {v : Value} (hc : w.cell? ⟨b, k, none⟩ = some v) (hx : b ∉ X) : w'.cell? ⟨b, k, none⟩ = some v :=
 (World.cell?_of_block (h.block b (World.block_lt_of_cell? w _ hc) hx)).trans hc
open Go.RowKit Go.Maps Go.WideMaps Go.Shelf
open Nam (St F)
attribute [local go_sem] Oper.semAt_some
theorem parts_head (x : Gram.Exp) (pr : Gram.Exp → Bool) (h : (Nam.parts x).all pr = true) : pr x = true := by
 cases x
 simp only [Nam.parts, List.all_cons, Bool.and_eq_true] at h
 exact h.1
theorem find_not {w0 : World} {pr : Gram.Exp → Bool} {q : Gram.Exp → Bool} {ys : List (EV w0 pr)} {x : Gram.Exp} (h : ys.map EV.x = Nam.parts x) (hr : ∀ y ∈ ys, q y.x = false) : (Nam.parts x).find? q = none := by
 rw [← h, List.find?_eq_none]
 intro z hz
 obtain ⟨y, hy, rfl⟩ := List.mem_map.1 hz
 simp [hr y hy]
theorem find_yes {w0 : World} {pr : Gram.Exp → Bool} {q : Gram.Exp → Bool} {ys : List (EV w0 pr)} {y : EV w0 pr} {x : Gram.Exp} (h : (ys ++ [y]).map EV.x <+: Nam.parts x) (hr : ∀ z ∈ ys, q z.x = false) (hy : q y.x = true) : (Nam.parts x).find? q = some y.x := by
 obtain ⟨t, ht⟩ := h
 rw [← ht]
 simp only [List.map_append, List.map_cons, List.map_nil, List.append_assoc]
 rw [List.find?_append]
 have : (ys.map EV.x).find? q = none := by
  rw [List.find?_eq_none]
  intro z hz
  obtain ⟨y, hy, rfl⟩ := List.mem_map.1 hz
  simp [hr y hy]
 rw [this]
 simp [hy]
theorem own_below {k B : Nat} {o : Obj} {W W' : World} {row : Option Nat} (h : W.heap[k]? = some o) {n : Nat} (hk : k < n) (hn : n ≤ B) (hg : W.grownBy W' row) (hr : ∀ r, row = some r → B ≤ r ∧ ∃ o : Obj, W.heap[r]? = some o ∧ o.isCells = false) : W'.heap[k]? = some o := by
 refine (hg.block k (gl h) (fun e => ?_)).trans h
 have := (hr k e.symm).1
 omega
theorem ko0 {W W' : World} (h : W.grownBy W' none) : KeepsOthers W W' := ⟨h.size, fun k o hk _ => (h.block k (gl hk) (by simp)).trans hk⟩
theorem all_snoc {α : Type} {p : α → Bool} {l : List α} {x : α} (h : ∀ z ∈ l, p z = false) (hx : p x = false) : ∀ z ∈ l ++ [x], p z = false := fun z hz => by
 rcases List.mem_append.1 hz with h1 | h1
 ·exact h z h1
 ·rw [List.mem_singleton.1 h1]; exact hx
theorem uses_calls {f : Int} (h : Nam.uses f = true) : Nam.calls f = false := by
 unfold Nam.uses at h
 unfold Nam.calls
 simp only [Bool.or_eq_true, beq_iff_eq] at h
 rcases h with (h | h) | h <;> subst h <;> decide
theorem partCells {W : World} {Bx : Nat} {f1 s1 : Int} {nm1 : List UInt8} {tk1 tl1 n1 m1 : Int} {v : Value} {a1 : Int} (h : W.heap[Bx]? = some (.cells #[.int .i64 f1, .int .i64 s1, .string ⟨nm1.toArray⟩, .int .i64 tk1, .int .i64 tl1, .int .i64 n1, .int .i64 m1, v, .int .i64 a1] 37 (0, 0))) :
  W.cell? ⟨Bx, 0, none⟩ = some (.int .i64 f1) ∧ W.cell? ⟨Bx, 2, none⟩ = some (.string ⟨nm1.toArray⟩) ∧ W.cell? ⟨Bx, 7, none⟩ = some v ∧ W.cell? ⟨Bx, 8, none⟩ = some (.int .i64 a1) :=
 ⟨cell_of_row W _ 0 _ _ _ h, cell_of_row W _ 2 _ _ _ h, cell_of_row W _ 7 _ _ _ h, cell_of_row W _ 8 _ _ _ h⟩
set_option maxRecDepth 100000 in
theorem expression_any (A : Adr) (st : St) (w0 : World) (x : Gram.Exp) (a : Option Addr) (L cap : Nat) (hk : KidsX w0 0 [] x.kids (.slice a L cap)) (w : World) (h : Ck w0 w A st) (r : F) (hr : Nam.expression st x = some r) :
  Calls Tryz.prog 90 #[.pointer (some ⟨A.c, 0, none⟩), .agg (expCells x (.slice a L cap)).toArray] w fun e w' => e = .returned (fv r) ∧ w.grownBy w' none := by
 have hdd : ∀ k : Nat, (Fence.wide.depth.isSome = true → 1 ≤ k) := fun k h => by cases h
 have hp : (Nam.parts x).all (fun y => Nam.short y.name) = true := by
  unfold Nam.expression at hr
  by_cases hq : (Nam.parts x).all (fun y => Nam.short y.name) = true
  ·exact hq
  ·rw [if_neg hq] at hr; cases hr
 unfold Nam.expression at hr
 rw [if_pos hp] at hr
 have hst : ∀ (n Bt : Nat) (W : World), w0.grownBy W none → W.heap[Bt]? = some (expO (expCells x (.slice a L cap))) → SeqStopsK (α := EV w0 (fun y => Nam.short y.name)) Fence.wide n Tryz.prog 32 #[.pointer (some ⟨Bt, 0, none⟩)] EV.enc (KpC w0) (fun ys => ys.map EV.x = Nam.parts x) (fun ys => ys.map EV.x <+: Nam.parts x) (Nam.parts x).length W := fun n Bt W => parts_stops w0 (fun y => Nam.short y.name) ⟨x, a, L, cap, hk, hp⟩ n Bt W
 have hpt := parts_any x (.slice a L cap)
 have hlt := h.lt
 have HH := ld h
 clear h hk hp
 cases x with
 | mk f s nm tk tl nn mm ks at_ =>
 obtain ⟨X, hX⟩ : ∃ X, X = Gram.Exp.mk f s nm tk tl nn mm ks at_ := ⟨_, rfl⟩
 rw [← hX] at hr
 simp only [expCells] at hst hpt ⊢
 rw [← hX] at hst
 have HST := ld hst
 have HR := ld hr
 clear hst hX hr
 refine (callsIn_wide (n := 9)).1 ?_
 refine callsIn_of_wp_marks Tryz.func90 rfl trivial ?_ rfl
 simp only [Tryz.ntmps90, List.size_toArray, List.length_cons, List.length_nil, Nat.reduceAdd, Nat.reduceSub, Array.replicate_succ, Array.replicate_zero, List.push_toArray, List.append_toArray, List.nil_append, List.cons_append]
 gi_wp2_with (refine ⟨trivial, ?_⟩; gi_at_call 25; refine (callsIn_wide.2 (hpt _)).mono ?_; rintro e w1 ⟨rfl, rfl⟩; refine Hid.out ?_)
 obtain ⟨bx, hbx⟩ : ∃ bx : Obj, bx = .cells #[.int .i64 f, .int .i64 s, .string ⟨nm.toArray⟩, .int .i64 tk, .int .i64 tl, .int .i64 nn, .int .i64 mm, .slice a L cap, .int .i64 at_] 37 (0, 0) := ⟨_, rfl⟩
 obtain ⟨bc, hbc⟩ : ∃ bc : Obj, bc = .cells #[.pointer (some ⟨A.c, 0, none⟩)] 60 (0, 0) := ⟨_, rfl⟩
 obtain ⟨W0, hW0⟩ : ∃ W0, W0 = (((w.alloc bc).alloc bx).alloc fo).alloc bx := ⟨_, rfl⟩
 have hg0 : w.grownBy W0 none := by rw [hW0]; exact galloc (galloc (galloc (ga w _ none) _) _) _
 have hsz : W0.heap.size = w.heap.size + 1 + 1 + 1 + 1 := by rw [hW0]; simp
 have q0 : W0.heap[w.heap.size]? = some bc := by
  rw [hW0]; exact (((ga (w.alloc bc) bx none).trans (ga _ fo none)).trans (ga _ bx none)).block w.heap.size (by simp) (by simp) |>.trans (heap_alloc_new w bc)
 have q1 : W0.heap[w.heap.size + 1]? = some bx := by
  have e := heap_alloc2_old (w.alloc bc) bx fo
  rw [World.size_alloc] at e
  rw [hW0]; exact ((ga _ bx none).block _ (by simp) (by simp)).trans e
 have q2 : W0.heap[w.heap.size + 1 + 1]? = some fo := by
  have e := heap_alloc2_old ((w.alloc bc).alloc bx) fo bx
  rw [World.size_alloc, World.size_alloc] at e
  rw [hW0]; exact e
 have q3 : W0.heap[w.heap.size + 1 + 1 + 1]? = some bx := by
  have e := heap_alloc2_new ((w.alloc bc).alloc bx) fo bx
  rw [World.size_alloc, World.size_alloc] at e
  rw [hW0]; exact e
 have hbase := HH.out.base
 have hst := HST.out 8 (w.heap.size + 1 + 1 + 1) W0 (hbase.trans hg0) (by rw [q3, hbx]; rfl)
 rw [hbc, hbx] at hW0
 rw [hbc] at q0
 rw [hbx] at q1
 simp only [expO]
 rw [show (fo : Obj) = .cells #[.int .i64 0, .int .i64 0] 63 from rfl] at hW0
 rw [← hW0]
 refine ld ?_
 have hgs := hbase.size
 clear hW0 hbx hbc q3 bx bc
 gi_wp2
 refine wpIn_rangeFunc_ownH rfl (by omega) (gf := 32) (lb := #[.pointer (some ⟨w.heap.size + 1 + 1 + 1, 0, none⟩)]) rfl trivial (enters_of Tryz.func32 (by kernel_rfl) rfl) hst (fun h k => h.trans k) (fun W l o o' hl h hc _ => KpC.put W l o o' (by omega) h hc) (Below.refl _ _) (fun _ => rfl)
  (fun (pre : List (EV w0 _)) W => (w.grownBy W none ∧ W.heap[w.heap.size]? = some (.cells #[.pointer (some ⟨A.c, 0, none⟩)] 60 (0, 0)) ∧ W.heap[w.heap.size + 1]? = some (.cells #[.int .i64 f, .int .i64 s, .string ⟨nm.toArray⟩, .int .i64 tk, .int .i64 tl, .int .i64 nn, .int .i64 mm, .slice a L cap, .int .i64 at_] 37 (0, 0)) ∧ W.heap[w.heap.size + 1 + 1]? = some fo) ∧ ∀ z ∈ pre, Nam.lost st z.x = false)
  (fun c (pre : List (EV w0 _)) W => c = .ret ∧ w.grownBy W none ∧ ∃ (init : List (EV w0 _)) (z : EV w0 _), pre = init ++ [z] ∧ W.heap[w.heap.size + 1 + 1]? = some (.cells #[.int .i64 z.x.at_, .int .i64 21] 63 (0, 0)) ∧ (∀ z ∈ init, Nam.lost st z.x = false) ∧ Nam.lost st z.x = true)
  (fun s A B row hs hgr hr => ⟨⟨own_grown hs.1.1 (by omega) hgr hr, own_cells hs.1.2.1 hgr hr, own_cells hs.1.2.2.1 hgr hr, own_cells hs.1.2.2.2 hgr hr⟩, hs.2⟩)
  (fun c s A B row hs hgr hr => by obtain ⟨h1, h2, i, z, h3, h4, h5⟩ := hs; exact ⟨h1, own_grown h2 (by omega) hgr hr, i, z, h3, own_cells h4 hgr hr, h5⟩)
  ⟨⟨hg0, q0, q1, q2⟩, by simp⟩
  (fun z a' W => ∃ Bx, W.heap[Bx]? = some (expO (expCells z.x (.slice z.a z.n z.c))) ∧ a' = { tmps := (List.toArray (.pointer (some ⟨A.c, 0, none⟩) :: .agg #[.int .i64 f, .int .i64 s, .string ⟨nm.toArray⟩, .int .i64 tk, .int .i64 tl, .int .i64 nn, .int .i64 mm, .slice a L cap, .int .i64 at_] :: .pointer (some ⟨w.heap.size, 0, none⟩) :: .pointer (some ⟨w.heap.size + 1, 0, none⟩) :: .pointer (some ⟨w.heap.size + 1 + 1, 0, none⟩) :: .pointer (some ⟨Bx, 0, none⟩) :: undef :: .agg #[.int .i64 f, .int .i64 s, .string ⟨nm.toArray⟩, .int .i64 tk, .int .i64 tl, .int .i64 nn, .int .i64 mm, .slice a L cap, .int .i64 at_] :: .func (.func 32) #[] #[.pointer (some ⟨w.heap.size + 1 + 1 + 1, 0, none⟩)] :: .agg (expCells z.x (.slice z.a z.n z.c)).toArray :: undef :: undef :: undef :: undef :: undef :: undef :: undef :: undef :: undef :: undef :: undef :: undef :: undef :: undef :: undef :: undef :: undef :: undef :: undef :: undef :: undef :: undef :: undef :: undef :: undef :: undef :: undef :: undef :: undef :: undef :: undef :: undef :: undef :: undef :: undef :: undef :: undef :: undef :: undef :: undef :: undef :: undef :: undef :: undef :: undef :: [])), defers := [] })
  (fun z a' s A B row hs hgr hr => by obtain ⟨Bx, h1, h2⟩ := hs; exact ⟨Bx, own_cells h1 hgr hr, h2⟩) ?assign ?body ?done ?stop
 case assign =>
  rintro l pre z W K ⟨⟨h1, h2, h3, h4⟩, h5⟩ hK
  obtain ⟨zx, za, zn, zc, zh, zp⟩ := z
  cases zx with
  | mk f1 s1 nm1 tk1 tl1 n1 m1 ks1 a1 =>
  simp only [EV.enc, expCells] at hK ⊢
  simp
  gi_wp2
  have hga := fun o => ga W o none
  exact hK _ _ ((KeepsOthers.alloc _ _).from _) (KpC.of0 (ga W _ none)) ⟨⟨galloc h1 _, ((hga _).block _ (gl h2) (by simp)).trans h2, ((hga _).block _ (gl h3) (by simp)).trans h3, ((hga _).block _ (gl h4) (by simp)).trans h4⟩, h5⟩ ⟨W.heap.size, heap_alloc_new W _, rfl⟩
 case body =>
  go_light
  clear hpt hst q0 q1 q2 hg0 HST HR
  rintro l pre z a' W hl ⟨rr, hrr⟩ ⟨⟨h1, h2, h3, h4⟩, h5⟩ ⟨Bx, hBx, rfl⟩ hlen
  have hsh : Nam.short z.x.name = true := parts_head z.x _ z.hp
  have hck := HH.out.kept h1
  have hlo : Nam.lost st z.x = ((Nam.uses z.x.form && !Nam.seen st z.x.name) || (Nam.calls z.x.form && !st.nodes.contains z.x.name)) := rfl
  obtain ⟨zx, za, zn, zc, zh, zp⟩ := z
  cases zx with
  | mk f1 s1 nm1 tk1 tl1 n1 m1 ks1 a1 =>
  unfold expO at hBx
  simp only [expCells, Gram.Exp.form, Gram.Exp.name] at hBx hsh hlo ⊢
  have hus := uses_any f1
  have hca := calls_any f1
  have hvr := fun wx (hx : W.grownBy wx none) => variable_any A st nm1 hsh w0 wx (hck.kept hx)
  have hfn : ∀ k, Fence.wide.fn k := fun _ => trivial
  have hmo : Tryz.prog.follows .mixedOrders = true := by kernel_rfl
  have hha := fun wx (hx : W.grownBy wx none) => has_any (some A.b0) st.cnt st.nodes nm1 hsh wx (hck.kept hx).s0
  have hS0 : W.grownBy W.drew none := gdrew (World.grownBy.refl _ _)
  unfold strV at hha hvr
  obtain ⟨u0, u2, u7, u8⟩ := partCells hBx
  have c1 := cell_of_row W _ 0 _ _ _ h2
  have c2 := hck.cell
  have c3 := (hck.kept (gdrew (World.grownBy.refl W none))).mm.look.1
  have hfacts : ∀ w3, W.grownBy w3 none → w3.cell? ⟨Bx, 0, none⟩ = some (.int .i64 f1) ∧ w3.cell? ⟨Bx, 2, none⟩ = some (.string ⟨nm1.toArray⟩) ∧ w3.cell? ⟨Bx, 8, none⟩ = some (.int .i64 a1) ∧ w3.cell? ⟨w.heap.size, 0, none⟩ = some (.pointer (some ⟨A.c, 0, none⟩)) ∧ w3.cell? ⟨A.c, 0, none⟩ = some (.map (some A.m)) ∧ w3.heap[w.heap.size + 1 + 1]? = some fo :=
   fun w3 hg3 => ⟨hg3.cell u0 (by simp), hg3.cell u2 (by simp), hg3.cell u8 (by simp), hg3.cell c1 (by simp), hg3.cell c2 (by simp), (hg3.block _ (gl h4) (by simp)).trans h4⟩
  have H5 := ld h5
  have HW := ld (And.intro h1 (And.intro h2 (And.intro h3 h4)))
  have HC := ld hck
  clear hBx hsh h5 hck hrr hlen
  have hk9 : ∀ {w3 : World} {k : Nat} {o : Obj}, W.grownBy w3 none → W.heap[k]? = some o → w3.heap[k]? = some o := fun hg3 hk => (hg3.block _ (gl hk) (by simp)).trans hk
  cases hq1 : Nam.uses f1 with
  | true =>
   rw [hq1] at hus hlo
   rw [uses_calls hq1] at hca hlo
   cases hq2 : Nam.seen st nm1 with
   | true =>
    rw [hq2] at hvr hlo
    gi_wp2
    refine region_in (S := fun W' => W.grownBy W' none) (by kernel_rfl) (by rintro ⟨_, _, hlo9⟩; exact hlo9) (by kernel_rfl) ?_
    refine t1 0 10 (.pointer (some ⟨Bx, 0, none⟩)) hS0 ?_
    simp only [Act.put, sA, sB, sC]
    refine t2 1 11 (.int .i64 f1) (fun w' hw' => ?_) hS0 ?_
    ·have hcx := hw'.cell u0 (by simp); clear hvr hha hus hca hfacts hk9; go_simp
    simp only [Act.put, sA, sB, sC]
    refine wpL_call (i := 2) (d := 12) (R := fun v w' => v = .bool true ∧ w' = _) (by kernel_rfl) rfl (by kernel_rfl) (by kernel_rfl) (by kernel_rfl) ((hus _).mono fun e w' he => ⟨_, he.1, rfl, he.2⟩) (fun v w' h => by rw [h.2]; exact hS0) (fun v w' h => ?_)
    rw [h.1, h.2]
    clear h w' v
    simp only [Act.put, sA, sB, sC]
    refine t1 3 13 (.bool true) hS0 ?_
    simp only [Act.put, sA, sB, sC]
    refine t2 4 14 (.pointer (some ⟨A.c, 0, none⟩)) (fun w' hw' => ?_) hS0 ?_
    ·have hcx := hw'.cell c1 (by simp); clear hvr hha hus hca hfacts hk9; go_simp
    simp only [Act.put, sA, sB, sC]
    refine t1 5 15 (.pointer (some ⟨Bx, 2, none⟩)) hS0 ?_
    simp only [Act.put, sA, sB, sC]
    refine t2 6 16 (.string ⟨nm1.toArray⟩) (fun w' hw' => ?_) hS0 ?_
    ·have hcx := hw'.cell u2 (by simp); clear hvr hha hus hca hfacts hk9; go_simp
    simp only [Act.put, sA, sB, sC]
    refine wpL_call (i := 7) (d := 17) (R := fun v w' => v = .bool true ∧ W.grownBy w' none) (by kernel_rfl) rfl (by kernel_rfl) (by kernel_rfl) (by kernel_rfl) ((hvr _ hS0).mono fun e w' he => ⟨_, he.1, rfl, hS0.trans he.2⟩) (fun v w' h => h.2) (fun v w3 h => ?_)
    have hS1 := h.2
    rw [h.1]
    clear h v
    simp only [Act.put, sA, sB, sC]
    refine t1 8 18 (.bool false) hS1 ?_
    simp only [Act.put, sA, sB, sC]
    refine t1 9 19 (.bool false) hS1 ?_
    simp only [Act.put, sA, sB, sC]
    refine t1 10 20 (.bool false) hS1 ?_
    simp only [Act.put, sA, sB, sC]
    refine t1 11 21 (.pointer (some ⟨Bx, 0, none⟩)) hS1 ?_
    simp only [Act.put, sA, sB, sC]
    refine t2 12 22 (.int .i64 f1) (fun w' hw' => ?_) hS1 ?_
    ·have hcx := hw'.cell u0 (by simp); clear hvr hha hus hca hfacts hk9; go_simp
    simp only [Act.put, sA, sB, sC]
    refine wpL_call (i := 13) (d := 23) (R := fun v w' => v = .bool false ∧ w' = _) (by kernel_rfl) rfl (by kernel_rfl) (by kernel_rfl) (by kernel_rfl) ((hca _).mono fun e w' he => ⟨_, he.1, rfl, he.2⟩) (fun v w' h => by rw [h.2]; exact hS1) (fun v w' h => ?_)
    rw [h.1, h.2]
    clear h w' v
    simp only [Act.put, sA, sB, sC]
    refine t1 14 24 (.bool false) hS1 ?_
    simp only [Act.put, sA, sB, sC]
    refine t3 15 25 hS1 ?_
    simp only [Act.put, sA, sB, sC]
    refine t3 16 26 hS1 ?_
    simp only [Act.put, sA, sB, sC]
    refine t3 17 27 hS1 ?_
    simp only [Act.put, sA, sB, sC]
    refine t3 18 28 hS1 ?_
    simp only [Act.put, sA, sB, sC]
    refine t3 19 29 hS1 ?_
    simp only [Act.put, sA, sB, sC]
    refine t3 20 30 hS1 ?_
    simp only [Act.put, sA, sB, sC]
    refine t3 21 31 hS1 ?_
    simp only [Act.put, sA, sB, sC]
    refine t3 22 32 hS1 ?_
    simp only [Act.put, sA, sB, sC]
    refine t3 23 33 hS1 ?_
    simp only [Act.put, sA, sB, sC]
    refine t1 24 34 (.bool false) hS1 ?_
    simp only [Act.put, sA, sB, sC]
    refine t1 25 35 (.bool false) hS1 ?_
    simp only [Act.put, sA, sB, sC]
    refine wpL_done (by kernel_rfl) ?_ _
    have hSz := hS1
    have HZ := ld (And.intro hSz (And.intro hlo (And.intro (hk9 hSz HW.out.2.1) (And.intro (hk9 hSz HW.out.2.2.1) (hk9 hSz HW.out.2.2.2)))))
    clear hSz hlo hk9 hfacts hvr hha hus hca hS0 u0 u2 u7 u8 c1 c2 c3 h1 h2 h3 h4
    gi_wp2
    exact ⟨(ko0 HZ.out.1).from _, KpC.of0 HZ.out.1, ⟨HW.out.1.trans HZ.out.1, HZ.out.2.2.1, HZ.out.2.2.2.1, HZ.out.2.2.2.2⟩, all_snoc H5.out HZ.out.2.1⟩
   | false =>
    rw [hq2] at hvr hlo
    gi_wp2
    refine region_in (S := fun W' => W.grownBy W' none) (by kernel_rfl) (by rintro ⟨_, _, hlo9⟩; exact hlo9) (by kernel_rfl) ?_
    refine t1 0 10 (.pointer (some ⟨Bx, 0, none⟩)) hS0 ?_
    simp only [Act.put, sA, sB, sC]
    refine t2 1 11 (.int .i64 f1) (fun w' hw' => ?_) hS0 ?_
    ·have hcx := hw'.cell u0 (by simp); clear hvr hha hus hca hfacts hk9; go_simp
    simp only [Act.put, sA, sB, sC]
    refine wpL_call (i := 2) (d := 12) (R := fun v w' => v = .bool true ∧ w' = _) (by kernel_rfl) rfl (by kernel_rfl) (by kernel_rfl) (by kernel_rfl) ((hus _).mono fun e w' he => ⟨_, he.1, rfl, he.2⟩) (fun v w' h => by rw [h.2]; exact hS0) (fun v w' h => ?_)
    rw [h.1, h.2]
    clear h w' v
    simp only [Act.put, sA, sB, sC]
    refine t1 3 13 (.bool true) hS0 ?_
    simp only [Act.put, sA, sB, sC]
    refine t2 4 14 (.pointer (some ⟨A.c, 0, none⟩)) (fun w' hw' => ?_) hS0 ?_
    ·have hcx := hw'.cell c1 (by simp); clear hvr hha hus hca hfacts hk9; go_simp
    simp only [Act.put, sA, sB, sC]
    refine t1 5 15 (.pointer (some ⟨Bx, 2, none⟩)) hS0 ?_
    simp only [Act.put, sA, sB, sC]
    refine t2 6 16 (.string ⟨nm1.toArray⟩) (fun w' hw' => ?_) hS0 ?_
    ·have hcx := hw'.cell u2 (by simp); clear hvr hha hus hca hfacts hk9; go_simp
    simp only [Act.put, sA, sB, sC]
    refine wpL_call (i := 7) (d := 17) (R := fun v w' => v = .bool false ∧ W.grownBy w' none) (by kernel_rfl) rfl (by kernel_rfl) (by kernel_rfl) (by kernel_rfl) ((hvr _ hS0).mono fun e w' he => ⟨_, he.1, rfl, hS0.trans he.2⟩) (fun v w' h => h.2) (fun v w3 h => ?_)
    have hS1 := h.2
    rw [h.1]
    clear h v
    simp only [Act.put, sA, sB, sC]
    refine t1 8 18 (.bool true) hS1 ?_
    simp only [Act.put, sA, sB, sC]
    refine t1 9 19 (.bool true) hS1 ?_
    simp only [Act.put, sA, sB, sC]
    refine t1 10 20 (.bool true) hS1 ?_
    simp only [Act.put, sA, sB, sC]
    refine t3 11 21 hS1 ?_
    simp only [Act.put, sA, sB, sC]
    refine t3 12 22 hS1 ?_
    simp only [Act.put, sA, sB, sC]
    refine t3 13 23 hS1 ?_
    simp only [Act.put, sA, sB, sC]
    refine t3 14 24 hS1 ?_
    simp only [Act.put, sA, sB, sC]
    refine t3 15 25 hS1 ?_
    simp only [Act.put, sA, sB, sC]
    refine t3 16 26 hS1 ?_
    simp only [Act.put, sA, sB, sC]
    refine t3 17 27 hS1 ?_
    simp only [Act.put, sA, sB, sC]
    refine t3 18 28 hS1 ?_
    simp only [Act.put, sA, sB, sC]
    refine t3 19 29 hS1 ?_
    simp only [Act.put, sA, sB, sC]
    refine t3 20 30 hS1 ?_
    simp only [Act.put, sA, sB, sC]
    refine t3 21 31 hS1 ?_
    simp only [Act.put, sA, sB, sC]
    refine t3 22 32 hS1 ?_
    simp only [Act.put, sA, sB, sC]
    refine t3 23 33 hS1 ?_
    simp only [Act.put, sA, sB, sC]
    refine t3 24 34 hS1 ?_
    simp only [Act.put, sA, sB, sC]
    refine t1 25 35 (.bool true) hS1 ?_
    simp only [Act.put, sA, sB, sC]
    refine wpL_done (by kernel_rfl) ?_ _
    have hSz := hS1
    have hce := hk9 hSz HW.out.2.2.2
    have y0 := cell_of_row _ _ 0 _ _ _ hce
    have y1 := cell_of_row _ _ 1 _ _ _ hce
    have z0 := frozen_of_row _ _ 0 _ _ hce
    have z1 := frozen_of_row _ _ 1 _ _ hce
    have k8 := hSz.cell u8 (by simp)
    have HZ := ld (And.intro hSz (And.intro hlo hce))
    clear hce
    clear hSz hlo hk9 hfacts hvr hha hus hca hS0 u0 u2 u7 u8 c1 c2 c3 h1 h2 h3 h4
    gi_wp2
    have hs1 := heap_setCell_same _ (w.heap.size + 1 + 1) 0 _ _ (.int .i64 a1) HZ.out.2.2
    have hs2 := heap_setCell_same _ (w.heap.size + 1 + 1) 1 _ _ (.int .i64 21) hs1
    exact ⟨(((ko0 HZ.out.1).trans (KeepsOthers.setCell _ _ _)).trans (KeepsOthers.setCell _ _ _)).from _, rfl, (HW.out.1.trans HZ.out.1).andThen (World.grownBy.trans (grown_set _ ⟨w.heap.size + 1 + 1, 0, none⟩ (.int .i64 a1)) (grown_set _ ⟨w.heap.size + 1 + 1, 1, none⟩ (.int .i64 21))) (fun j e => .inl (by cases e; exact Nat.le_trans (Nat.le_succ _) (Nat.le_succ _))), pre, _, rfl, hs2, H5.out, HZ.out.2.1⟩
  | false =>
   rw [hq1] at hus hlo
   cases hq3 : Nam.calls f1 with
   | false =>
    rw [hq3] at hca hlo
    gi_wp2
    refine region_in (S := fun W' => W.grownBy W' none) (by kernel_rfl) (by rintro ⟨_, _, hlo9⟩; exact hlo9) (by kernel_rfl) ?_
    refine t1 0 10 (.pointer (some ⟨Bx, 0, none⟩)) hS0 ?_
    simp only [Act.put, sA, sB, sC]
    refine t2 1 11 (.int .i64 f1) (fun w' hw' => ?_) hS0 ?_
    ·have hcx := hw'.cell u0 (by simp); clear hvr hha hus hca hfacts hk9; go_simp
    simp only [Act.put, sA, sB, sC]
    refine wpL_call (i := 2) (d := 12) (R := fun v w' => v = .bool false ∧ w' = _) (by kernel_rfl) rfl (by kernel_rfl) (by kernel_rfl) (by kernel_rfl) ((hus _).mono fun e w' he => ⟨_, he.1, rfl, he.2⟩) (fun v w' h => by rw [h.2]; exact hS0) (fun v w' h => ?_)
    rw [h.1, h.2]
    clear h w' v
    simp only [Act.put, sA, sB, sC]
    refine t1 3 13 (.bool false) hS0 ?_
    simp only [Act.put, sA, sB, sC]
    refine t3 4 14 hS0 ?_
    simp only [Act.put, sA, sB, sC]
    refine t3 5 15 hS0 ?_
    simp only [Act.put, sA, sB, sC]
    refine t3 6 16 hS0 ?_
    simp only [Act.put, sA, sB, sC]
    refine t3 7 17 hS0 ?_
    simp only [Act.put, sA, sB, sC]
    refine t3 8 18 hS0 ?_
    simp only [Act.put, sA, sB, sC]
    refine t1 9 19 (.bool false) hS0 ?_
    simp only [Act.put, sA, sB, sC]
    refine t1 10 20 (.bool false) hS0 ?_
    simp only [Act.put, sA, sB, sC]
    refine t1 11 21 (.pointer (some ⟨Bx, 0, none⟩)) hS0 ?_
    simp only [Act.put, sA, sB, sC]
    refine t2 12 22 (.int .i64 f1) (fun w' hw' => ?_) hS0 ?_
    ·have hcx := hw'.cell u0 (by simp); clear hvr hha hus hca hfacts hk9; go_simp
    simp only [Act.put, sA, sB, sC]
    refine wpL_call (i := 13) (d := 23) (R := fun v w' => v = .bool false ∧ w' = _) (by kernel_rfl) rfl (by kernel_rfl) (by kernel_rfl) (by kernel_rfl) ((hca _).mono fun e w' he => ⟨_, he.1, rfl, he.2⟩) (fun v w' h => by rw [h.2]; exact hS0) (fun v w' h => ?_)
    rw [h.1, h.2]
    clear h w' v
    simp only [Act.put, sA, sB, sC]
    refine t1 14 24 (.bool false) hS0 ?_
    simp only [Act.put, sA, sB, sC]
    refine t3 15 25 hS0 ?_
    simp only [Act.put, sA, sB, sC]
    refine t3 16 26 hS0 ?_
    simp only [Act.put, sA, sB, sC]
    refine t3 17 27 hS0 ?_
    simp only [Act.put, sA, sB, sC]
    refine t3 18 28 hS0 ?_
    simp only [Act.put, sA, sB, sC]
    refine t3 19 29 hS0 ?_
    simp only [Act.put, sA, sB, sC]
    refine t3 20 30 hS0 ?_
    simp only [Act.put, sA, sB, sC]
    refine t3 21 31 hS0 ?_
    simp only [Act.put, sA, sB, sC]
    refine t3 22 32 hS0 ?_
    simp only [Act.put, sA, sB, sC]
    refine t3 23 33 hS0 ?_
    simp only [Act.put, sA, sB, sC]
    refine t1 24 34 (.bool false) hS0 ?_
    simp only [Act.put, sA, sB, sC]
    refine t1 25 35 (.bool false) hS0 ?_
    simp only [Act.put, sA, sB, sC]
    refine wpL_done (by kernel_rfl) ?_ _
    have hSz := hS0
    have HZ := ld (And.intro hSz (And.intro hlo (And.intro (hk9 hSz HW.out.2.1) (And.intro (hk9 hSz HW.out.2.2.1) (hk9 hSz HW.out.2.2.2)))))
    clear hSz hlo hk9 hfacts hvr hha hus hca hS0 u0 u2 u7 u8 c1 c2 c3 h1 h2 h3 h4
    gi_wp2
    exact ⟨(ko0 HZ.out.1).from _, KpC.of0 HZ.out.1, ⟨HW.out.1.trans HZ.out.1, HZ.out.2.2.1, HZ.out.2.2.2.1, HZ.out.2.2.2.2⟩, all_snoc H5.out HZ.out.2.1⟩
   | true =>
    rw [hq3] at hca hlo
    cases hq4 : st.nodes.contains nm1 with
    | true =>
     rw [hq4] at hha hlo
     gi_wp2
     refine region_in (S := fun W' => W.grownBy W' none) (by kernel_rfl) (by rintro ⟨_, _, hlo9⟩; exact hlo9) (by kernel_rfl) ?_
     refine t1 0 10 (.pointer (some ⟨Bx, 0, none⟩)) hS0 ?_
     simp only [Act.put, sA, sB, sC]
     refine t2 1 11 (.int .i64 f1) (fun w' hw' => ?_) hS0 ?_
     ·have hcx := hw'.cell u0 (by simp); clear hvr hha hus hca hfacts hk9; go_simp
     simp only [Act.put, sA, sB, sC]
     refine wpL_call (i := 2) (d := 12) (R := fun v w' => v = .bool false ∧ w' = _) (by kernel_rfl) rfl (by kernel_rfl) (by kernel_rfl) (by kernel_rfl) ((hus _).mono fun e w' he => ⟨_, he.1, rfl, he.2⟩) (fun v w' h => by rw [h.2]; exact hS0) (fun v w' h => ?_)
     rw [h.1, h.2]
     clear h w' v
     simp only [Act.put, sA, sB, sC]
     refine t1 3 13 (.bool false) hS0 ?_
     simp only [Act.put, sA, sB, sC]
     refine t3 4 14 hS0 ?_
     simp only [Act.put, sA, sB, sC]
     refine t3 5 15 hS0 ?_
     simp only [Act.put, sA, sB, sC]
     refine t3 6 16 hS0 ?_
     simp only [Act.put, sA, sB, sC]
     refine t3 7 17 hS0 ?_
     simp only [Act.put, sA, sB, sC]
     refine t3 8 18 hS0 ?_
     simp only [Act.put, sA, sB, sC]
     refine t1 9 19 (.bool false) hS0 ?_
     simp only [Act.put, sA, sB, sC]
     refine t1 10 20 (.bool false) hS0 ?_
     simp only [Act.put, sA, sB, sC]
     refine t1 11 21 (.pointer (some ⟨Bx, 0, none⟩)) hS0 ?_
     simp only [Act.put, sA, sB, sC]
     refine t2 12 22 (.int .i64 f1) (fun w' hw' => ?_) hS0 ?_
     ·have hcx := hw'.cell u0 (by simp); clear hvr hha hus hca hfacts hk9; go_simp
     simp only [Act.put, sA, sB, sC]
     refine wpL_call (i := 13) (d := 23) (R := fun v w' => v = .bool true ∧ w' = _) (by kernel_rfl) rfl (by kernel_rfl) (by kernel_rfl) (by kernel_rfl) ((hca _).mono fun e w' he => ⟨_, he.1, rfl, he.2⟩) (fun v w' h => by rw [h.2]; exact hS0) (fun v w' h => ?_)
     rw [h.1, h.2]
     clear h w' v
     simp only [Act.put, sA, sB, sC]
     refine t1 14 24 (.bool true) hS0 ?_
     simp only [Act.put, sA, sB, sC]
     refine t2 15 25 (.pointer (some ⟨A.c, 0, none⟩)) (fun w' hw' => ?_) hS0 ?_
     ·have hcx := hw'.cell c1 (by simp); clear hvr hha hus hca hfacts hk9; go_simp
     simp only [Act.put, sA, sB, sC]
     refine t1 16 26 (.pointer (some ⟨A.c, 0, none⟩)) hS0 ?_
     simp only [Act.put, sA, sB, sC]
     refine t1 17 27 (.pointer (some ⟨A.c, 0, none⟩)) hS0 ?_
     simp only [Act.put, sA, sB, sC]
     refine t2 18 28 (.map (some A.m)) (fun w' hw' => ?_) hS0 ?_
     ·have hcx := hw'.cell c2 (by simp); clear hvr hha hus hca hfacts hk9; go_simp
     simp only [Act.put, sA, sB, sC]
     refine t2 19 29 (.map (some A.b0)) (fun w' hw' => ?_) hS0 ?_
     ·have hcx := (HC.out.kept hw').mm.look.1; clear hvr hha hus hca hfacts hk9; go_simp
     simp only [Act.put, sA, sB, sC]
     refine t1 20 30 (.pointer (some ⟨Bx, 2, none⟩)) hS0 ?_
     simp only [Act.put, sA, sB, sC]
     refine t2 21 31 (.string ⟨nm1.toArray⟩) (fun w' hw' => ?_) hS0 ?_
     ·have hcx := hw'.cell u2 (by simp); clear hvr hha hus hca hfacts hk9; go_simp
     simp only [Act.put, sA, sB, sC]
     refine wpL_call (i := 22) (d := 32) (R := fun v w' => v = .bool true ∧ W.grownBy w' none) (by kernel_rfl) rfl (by kernel_rfl) (by kernel_rfl) (by kernel_rfl) ((hha _ hS0).mono fun e w' he => ⟨_, he.1, rfl, hS0.trans he.2⟩) (fun v w' h => h.2) (fun v w3 h => ?_)
     have hS1 := h.2
     rw [h.1]
     clear h v
     simp only [Act.put, sA, sB, sC]
     refine t1 23 33 (.bool false) hS1 ?_
     simp only [Act.put, sA, sB, sC]
     refine t1 24 34 (.bool false) hS1 ?_
     simp only [Act.put, sA, sB, sC]
     refine t1 25 35 (.bool false) hS1 ?_
     simp only [Act.put, sA, sB, sC]
     refine wpL_done (by kernel_rfl) ?_ _
     have hSz := hS1
     have HZ := ld (And.intro hSz (And.intro hlo (And.intro (hk9 hSz HW.out.2.1) (And.intro (hk9 hSz HW.out.2.2.1) (hk9 hSz HW.out.2.2.2)))))
     clear hSz hlo hk9 hfacts hvr hha hus hca hS0 u0 u2 u7 u8 c1 c2 c3 h1 h2 h3 h4
     gi_wp2
     exact ⟨(ko0 HZ.out.1).from _, KpC.of0 HZ.out.1, ⟨HW.out.1.trans HZ.out.1, HZ.out.2.2.1, HZ.out.2.2.2.1, HZ.out.2.2.2.2⟩, all_snoc H5.out HZ.out.2.1⟩
    | false =>
     rw [hq4] at hha hlo
     gi_wp2
     refine region_in (S := fun W' => W.grownBy W' none) (by kernel_rfl) (by rintro ⟨_, _, hlo9⟩; exact hlo9) (by kernel_rfl) ?_
     refine t1 0 10 (.pointer (some ⟨Bx, 0, none⟩)) hS0 ?_
     simp only [Act.put, sA, sB, sC]
     refine t2 1 11 (.int .i64 f1) (fun w' hw' => ?_) hS0 ?_
     ·have hcx := hw'.cell u0 (by simp); clear hvr hha hus hca hfacts hk9; go_simp
     simp only [Act.put, sA, sB, sC]
     refine wpL_call (i := 2) (d := 12) (R := fun v w' => v = .bool false ∧ w' = _) (by kernel_rfl) rfl (by kernel_rfl) (by kernel_rfl) (by kernel_rfl) ((hus _).mono fun e w' he => ⟨_, he.1, rfl, he.2⟩) (fun v w' h => by rw [h.2]; exact hS0) (fun v w' h => ?_)
     rw [h.1, h.2]
     clear h w' v
     simp only [Act.put, sA, sB, sC]
     refine t1 3 13 (.bool false) hS0 ?_
     simp only [Act.put, sA, sB, sC]
     refine t3 4 14 hS0 ?_
     simp only [Act.put, sA, sB, sC]
     refine t3 5 15 hS0 ?_
     simp only [Act.put, sA, sB, sC]
     refine t3 6 16 hS0 ?_
     simp only [Act.put, sA, sB, sC]
     refine t3 7 17 hS0 ?_
     simp only [Act.put, sA, sB, sC]
     refine t3 8 18 hS0 ?_
     simp only [Act.put, sA, sB, sC]
     refine t1 9 19 (.bool false) hS0 ?_
     simp only [Act.put, sA, sB, sC]
     refine t1 10 20 (.bool false) hS0 ?_
     simp only [Act.put, sA, sB, sC]
     refine t1 11 21 (.pointer (some ⟨Bx, 0, none⟩)) hS0 ?_
     simp only [Act.put, sA, sB, sC]
     refine t2 12 22 (.int .i64 f1) (fun w' hw' => ?_) hS0 ?_
     ·have hcx := hw'.cell u0 (by simp); clear hvr hha hus hca hfacts hk9; go_simp
     simp only [Act.put, sA, sB, sC]
     refine wpL_call (i := 13) (d := 23) (R := fun v w' => v = .bool true ∧ w' = _) (by kernel_rfl) rfl (by kernel_rfl) (by kernel_rfl) (by kernel_rfl) ((hca _).mono fun e w' he => ⟨_, he.1, rfl, he.2⟩) (fun v w' h => by rw [h.2]; exact hS0) (fun v w' h => ?_)
     rw [h.1, h.2]
     clear h w' v
     simp only [Act.put, sA, sB, sC]
     refine t1 14 24 (.bool true) hS0 ?_
     simp only [Act.put, sA, sB, sC]
     refine t2 15 25 (.pointer (some ⟨A.c, 0, none⟩)) (fun w' hw' => ?_) hS0 ?_
     ·have hcx := hw'.cell c1 (by simp); clear hvr hha hus hca hfacts hk9; go_simp
     simp only [Act.put, sA, sB, sC]
     refine t1 16 26 (.pointer (some ⟨A.c, 0, none⟩)) hS0 ?_
     simp only [Act.put, sA, sB, sC]
     refine t1 17 27 (.pointer (some ⟨A.c, 0, none⟩)) hS0 ?_
     simp only [Act.put, sA, sB, sC]
     refine t2 18 28 (.map (some A.m)) (fun w' hw' => ?_) hS0 ?_
     ·have hcx := hw'.cell c2 (by simp); clear hvr hha hus hca hfacts hk9; go_simp
     simp only [Act.put, sA, sB, sC]
     refine t2 19 29 (.map (some A.b0)) (fun w' hw' => ?_) hS0 ?_
     ·have hcx := (HC.out.kept hw').mm.look.1; clear hvr hha hus hca hfacts hk9; go_simp
     simp only [Act.put, sA, sB, sC]
     refine t1 20 30 (.pointer (some ⟨Bx, 2, none⟩)) hS0 ?_
     simp only [Act.put, sA, sB, sC]
     refine t2 21 31 (.string ⟨nm1.toArray⟩) (fun w' hw' => ?_) hS0 ?_
     ·have hcx := hw'.cell u2 (by simp); clear hvr hha hus hca hfacts hk9; go_simp
     simp only [Act.put, sA, sB, sC]
     refine wpL_call (i := 22) (d := 32) (R := fun v w' => v = .bool false ∧ W.grownBy w' none) (by kernel_rfl) rfl (by kernel_rfl) (by kernel_rfl) (by kernel_rfl) ((hha _ hS0).mono fun e w' he => ⟨_, he.1, rfl, hS0.trans he.2⟩) (fun v w' h => h.2) (fun v w3 h => ?_)
     have hS1 := h.2
     rw [h.1]
     clear h v
     simp only [Act.put, sA, sB, sC]
     refine t1 23 33 (.bool true) hS1 ?_
     simp only [Act.put, sA, sB, sC]
     refine t1 24 34 (.bool true) hS1 ?_
     simp only [Act.put, sA, sB, sC]
     refine t1 25 35 (.bool true) hS1 ?_
     simp only [Act.put, sA, sB, sC]
     refine wpL_done (by kernel_rfl) ?_ _
     have hSz := hS1
     have hce := hk9 hSz HW.out.2.2.2
     have y0 := cell_of_row _ _ 0 _ _ _ hce
     have y1 := cell_of_row _ _ 1 _ _ _ hce
     have z0 := frozen_of_row _ _ 0 _ _ hce
     have z1 := frozen_of_row _ _ 1 _ _ hce
     have k8 := hSz.cell u8 (by simp)
     have HZ := ld (And.intro hSz (And.intro hlo hce))
     clear hce
     clear hSz hlo hk9 hfacts hvr hha hus hca hS0 u0 u2 u7 u8 c1 c2 c3 h1 h2 h3 h4
     gi_wp2
     have hs1 := heap_setCell_same _ (w.heap.size + 1 + 1) 0 _ _ (.int .i64 a1) HZ.out.2.2
     have hs2 := heap_setCell_same _ (w.heap.size + 1 + 1) 1 _ _ (.int .i64 21) hs1
     exact ⟨(((ko0 HZ.out.1).trans (KeepsOthers.setCell _ _ _)).trans (KeepsOthers.setCell _ _ _)).from _, rfl, (HW.out.1.trans HZ.out.1).andThen (World.grownBy.trans (grown_set _ ⟨w.heap.size + 1 + 1, 0, none⟩ (.int .i64 a1)) (grown_set _ ⟨w.heap.size + 1 + 1, 1, none⟩ (.int .i64 21))) (fun j e => .inl (by cases e; exact Nat.le_trans (Nat.le_succ _) (Nat.le_succ _))), pre, _, rfl, hs2, H5.out, HZ.out.2.1⟩
 case stop =>
  rintro D c pre W hD hSp ⟨rfl, h1, init, z, rfl, h4, h5, h6⟩ hK
  gi_wp2
  refine ⟨by simp, .inl ⟨_, _, rfl, run_takeDeferred hK, ?_⟩⟩
  have hgp := grownBy_putObj' W D (.deferred none)
  have hs2 := (hgp.block (w.heap.size + 1 + 1) (gl h4) (by simp; omega)).trans h4
  have hG : w.grownBy (W.putObj D (.deferred none)) none := h1.andThen hgp (fun j e => .inl (by cases e; omega))
  have hrr := HR.out
  rw [find_yes hSp h5 h6] at hrr
  refine ⟨_, results_cell_row rfl _ _ (w.heap.size + 1 + 1) 63 _ (0, 0) _ rfl hs2 Tryz.underlying63 rfl (by kernel_rfl), ?_⟩
  exact ⟨by rw [← Option.some.inj hrr]; rfl, hG⟩
 case done =>
  rintro D xs W hD hS ⟨⟨h1, h2, h3, h4⟩, h5⟩ hK
  have hrr := HR.out
  rw [find_not hS h5] at hrr
  have HR2 := ld hrr
  have x0 := cell_of_row _ _ 0 _ _ _ h3
  have x1 := cell_of_row _ _ 1 _ _ _ h3
  have x2 := cell_of_row _ _ 2 _ _ _ h3
  have x3 := cell_of_row _ _ 3 _ _ _ h3
  have x4 := cell_of_row _ _ 4 _ _ _ h3
  have x5 := cell_of_row _ _ 5 _ _ _ h3
  have x6 := cell_of_row _ _ 6 _ _ _ h3
  have x7 := cell_of_row _ _ 7 _ _ _ h3
  have x8 := cell_of_row _ _ 8 _ _ _ h3
  have H4 := ld h4
  have H1 := ld h1
  have HK := ld hK
  clear hrr h2 h3 h4 h5 hS hK HR hst q0 q1 q2 hg0 h1
  gi_wp2_with (refine ⟨trivial, ?_⟩; gi_at_call 25; refine (callsIn_wide.2 (hpt _)).mono ?_; rintro e w1 ⟨rfl, rfl⟩; refine Hid.out ?_)
  simp only [expO]
  obtain ⟨W1, hW1⟩ : ∃ W1, W1 = W.alloc (.cells #[.int .i64 f, .int .i64 s, .string ⟨nm.toArray⟩, .int .i64 tk, .int .i64 tl, .int .i64 nn, .int .i64 mm, .slice a L cap, .int .i64 at_] 37 (0, 0)) := ⟨_, rfl⟩
  rw [← hW1]
  have hg1 : W.grownBy W1 none := by rw [hW1]; exact ga W _ none
  have hbx : W1.heap[W.heap.size]? = some (expO #[.int .i64 f, .int .i64 s, .string ⟨nm.toArray⟩, .int .i64 tk, .int .i64 tl, .int .i64 nn, .int .i64 mm, .slice a L cap, .int .i64 at_].toList) := by rw [hW1]; exact heap_alloc_new W _
  have hst := HST.out 8 W.heap.size W1 ((hbase.trans H1.out).trans hg1) hbx
  have hs1 : W1.heap.size = W.heap.size + 1 := by rw [hW1]; simp
  have hsW := H1.out.size
  have hlD := (gl HK.out)
  have hD1 : W1.heap[D]? = some (.deferred (some [])) := (hg1.block D hlD (by simp)).trans HK.out
  have h41 : W1.heap[w.heap.size + 1 + 1]? = some fo := (hg1.block _ (gl H4.out) (by simp)).trans H4.out
  have HD1 := ld hD1
  refine ld ?_
  clear hW1 x0 x1 x2 x3 x4 x5 x6 x7 x8 hpt HST hbx hD1
  gi_wp2
  refine wpIn_rangeFunc_ownH rfl (by omega) (gf := 32) (lb := #[.pointer (some ⟨W.heap.size, 0, none⟩)]) rfl trivial (enters_of Tryz.func32 (by kernel_rfl) rfl) hst (fun h k => h.trans k) (fun W l o o' hl h hc _ => KpC.put W l o o' (by omega) h hc) (Below.refl _ _) (fun _ => rfl)
   (fun (pre : List (EV w0 _)) V => (w.grownBy V none ∧ V.heap[w.heap.size + 1 + 1]? = some fo ∧ V.heap[D]? = some (.deferred (some []))) ∧ ∀ z ∈ pre, Nam.bare z.x = false)
   (fun c (pre : List (EV w0 _)) V => c = .ret ∧ w.grownBy V none ∧ V.heap[D]? = some (.deferred (some [])) ∧ ∃ (init : List (EV w0 _)) (z : EV w0 _), pre = init ++ [z] ∧ V.heap[w.heap.size + 1 + 1]? = some (.cells #[.int .i64 z.x.at_, .int .i64 23] 63 (0, 0)) ∧ (∀ z ∈ init, Nam.bare z.x = false) ∧ Nam.bare z.x = true)
   (fun s A B row hs hgr hr => ⟨⟨own_grown hs.1.1 (by omega) hgr hr, own_cells hs.1.2.1 hgr hr, own_below hs.1.2.2 hlD (by omega) hgr hr⟩, hs.2⟩)
   (fun c s A B row hs hgr hr => by obtain ⟨h1, h2, hd, i, z, h3, h4, h5⟩ := hs; exact ⟨h1, own_grown h2 (by omega) hgr hr, own_below hd hlD (by omega) hgr hr, i, z, h3, own_cells h4 hgr hr, h5⟩)
   ⟨⟨H1.out.trans hg1, h41, HD1.out⟩, by simp⟩
   (fun z a' V => ∃ Bx, V.heap[Bx]? = some (expO (expCells z.x (.slice z.a z.n z.c))) ∧ a' = { tmps := (List.toArray (.pointer (some ⟨A.c, 0, none⟩) :: .agg #[.int .i64 f, .int .i64 s, .string ⟨nm.toArray⟩, .int .i64 tk, .int .i64 tl, .int .i64 nn, .int .i64 mm, .slice a L cap, .int .i64 at_] :: .pointer (some ⟨w.heap.size, 0, none⟩) :: .pointer (some ⟨w.heap.size + 1, 0, none⟩) :: .pointer (some ⟨w.heap.size + 1 + 1, 0, none⟩) :: undef :: .pointer (some ⟨Bx, 0, none⟩) :: .agg #[.int .i64 f, .int .i64 s, .string ⟨nm.toArray⟩, .int .i64 tk, .int .i64 tl, .int .i64 nn, .int .i64 mm, .slice a L cap, .int .i64 at_] :: .func (.func 32) #[] #[.pointer (some ⟨w.heap.size + 1 + 1 + 1, 0, none⟩)] :: undef :: undef :: undef :: undef :: undef :: undef :: undef :: undef :: undef :: undef :: undef :: undef :: undef :: undef :: undef :: undef :: undef :: undef :: undef :: undef :: undef :: undef :: undef :: undef :: undef :: undef :: undef :: undef :: undef :: undef :: .agg #[.int .i64 f, .int .i64 s, .string ⟨nm.toArray⟩, .int .i64 tk, .int .i64 tl, .int .i64 nn, .int .i64 mm, .slice a L cap, .int .i64 at_] :: .func (.func 32) #[] #[.pointer (some ⟨W.heap.size, 0, none⟩)] :: .agg (expCells z.x (.slice z.a z.n z.c)).toArray :: undef :: undef :: undef :: undef :: undef :: undef :: undef :: undef :: undef :: undef :: undef :: undef :: undef :: [])), defers := [] })
   (fun z a' s A B row hs hgr hr => by obtain ⟨Bx, h1, h2⟩ := hs; exact ⟨Bx, own_cells h1 hgr hr, h2⟩) ?assign2 ?body2 ?done2 ?stop2
  case assign2 =>
   go_light
   rintro l pre z V K ⟨⟨h1, h2, hd⟩, h5⟩ hK
   obtain ⟨zx, za, zn, zc, zh, zp⟩ := z
   cases zx with
   | mk f1 s1 nm1 tk1 tl1 n1 m1 ks1 a1 =>
   simp only [EV.enc, expCells] at hK ⊢
   simp
   gi_wp2
   have hga := fun o => ga V o none
   exact hK _ _ ((KeepsOthers.alloc _ _).from _) (KpC.of0 (ga V _ none)) ⟨⟨galloc h1 _, ((hga _).block _ (gl h2) (by simp)).trans h2, ((hga _).block _ (gl hd) (by simp)).trans hd⟩, h5⟩ ⟨V.heap.size, heap_alloc_new V _, rfl⟩
  case body2 =>
   go_light
   rintro l pre z a' V hl ⟨rr, hrr⟩ ⟨⟨h1, h2, hd⟩, h5⟩ ⟨Bx, hBx, rfl⟩ hlen
   have hba : Nam.bare z.x = (Nam.needsKid z.x.form && z.x.kids.isEmpty) := rfl
   obtain ⟨zx, za, zn, zc, zh, zp⟩ := z
   cases zx with
   | mk f1 s1 nm1 tk1 tl1 n1 m1 ks1 a1 =>
   have hzl := (kidsLen zh).1
   unfold expO at hBx
   simp only [expCells, Gram.Exp.form, Gram.Exp.kids] at hBx hba hzl ⊢
   have hnk := needsKid_any f1
   obtain ⟨u0, u2, u7, u8⟩ := partCells hBx
   have y0 := cell_of_row _ _ 0 _ _ _ h2
   have y1 := cell_of_row _ _ 1 _ _ _ h2
   have z0 := frozen_of_row _ _ 0 _ _ h2
   have z1 := frozen_of_row _ _ 1 _ _ h2
   have H5 := ld h5
   have HW := ld (And.intro h1 (And.intro h2 hd))
   clear hBx h5 hrr hlen h1 h2 hd H4 HD1 HK HR2 H1
   cases hq1 : Nam.needsKid f1 with
   | false =>
    rw [hq1] at hnk hba
    have HB := ld hba
    clear hba hzl
    gi_wp2_with (refine ⟨trivial, ?_⟩; gi_at_call 97; refine (CallsIn.inRound l (callsIn_wide.2 (hnk _))).mono ?_; rintro e w2 ⟨rfl, hw2⟩; obtain rfl := hw2.symm)
    exact ⟨KeepsFrom.refl _ _, KpC.of0 (World.grownBy.refl _ _), HW.out, all_snoc H5.out HB.out⟩
   | true =>
    rw [hq1] at hnk hba
    by_cases hz : zn = 0
    ·have hzb : (((zn : Nat) : Int) == 0) = true := by rw [beq_iff_eq]; omega
     have hks : ks1.isEmpty = true := by rw [List.isEmpty_iff_length_eq_zero]; omega
     rw [hks] at hba
     have HB := ld hba
     clear hba hzl hz hks
     gi_wp2_with (refine ⟨trivial, ?_⟩; gi_at_call 97; refine (CallsIn.inRound l (callsIn_wide.2 (hnk _))).mono ?_; rintro e w2 ⟨rfl, hw2⟩; obtain rfl := hw2.symm)
     have hs1 := heap_setCell_same V (w.heap.size + 1 + 1) 0 _ _ (.int .i64 a1) HW.out.2.1
     have hs2 := heap_setCell_same _ (w.heap.size + 1 + 1) 1 _ _ (.int .i64 23) hs1
     have hgg := World.grownBy.trans (grown_set V ⟨w.heap.size + 1 + 1, 0, none⟩ (.int .i64 a1)) (grown_set _ ⟨w.heap.size + 1 + 1, 1, none⟩ (.int .i64 23))
     have hdk := (hgg.block D (gl HW.out.2.2) (by show some D ≠ some (w.heap.size + 1 + 1); simp; omega)).trans HW.out.2.2
     exact ⟨((KeepsOthers.setCell V _ _).trans (KeepsOthers.setCell _ _ _)).from _, rfl, HW.out.1.andThen hgg (fun j e => .inl (by cases e; exact Nat.le_trans (Nat.le_succ _) (Nat.le_succ _))), hdk, pre, _, rfl, hs2, H5.out, HB.out⟩
    ·have hzb : (((zn : Nat) : Int) == 0) = false := by rw [beq_eq_false_iff_ne]; omega
     have hks : ks1.isEmpty = false := by rw [Bool.eq_false_iff]; intro e; rw [List.isEmpty_iff_length_eq_zero] at e; omega
     rw [hks] at hba
     have HB := ld hba
     clear hba hzl hz hks
     gi_wp2_with (refine ⟨trivial, ?_⟩; gi_at_call 97; refine (CallsIn.inRound l (callsIn_wide.2 (hnk _))).mono ?_; rintro e w2 ⟨rfl, hw2⟩; obtain rfl := hw2.symm)
     exact ⟨KeepsFrom.refl _ _, KpC.of0 (World.grownBy.refl _ _), HW.out, all_snoc H5.out HB.out⟩
  case done2 =>
   rintro D2 ys V hD2 hS ⟨⟨h1, h2, hd⟩, h5⟩ hK2
   have hrr := HR2.out
   rw [find_not hS h5] at hrr
   have y0 := cell_of_row _ _ 0 _ _ _ h2
   have y1 := cell_of_row _ _ 1 _ _ _ h2
   have z0 := frozen_of_row _ _ 0 _ _ h2
   have z1 := frozen_of_row _ _ 1 _ _ h2
   have HR3 := ld (Option.some.inj hrr)
   have HH2 := ld (And.intro h1 (And.intro h2 (And.intro hd hK2)))
   clear hrr h1 h2 hd hK2 h5 hS
   gi_wp2
   obtain ⟨h1, h2, hd, hK2⟩ := HH2.out
   have hs1 := heap_setCell_same V (w.heap.size + 1 + 1) 0 _ _ (.int .i64 0) h2
   have hs2 := heap_setCell_same _ (w.heap.size + 1 + 1) 1 _ _ (.int .i64 0) hs1
   have hgg := World.grownBy.trans (grown_set V ⟨w.heap.size + 1 + 1, 0, none⟩ (.int .i64 0)) (grown_set _ ⟨w.heap.size + 1 + 1, 1, none⟩ (.int .i64 0))
   have hK3 := (hgg.block D2 (gl hK2) (by show some D2 ≠ some (w.heap.size + 1 + 1); simp; omega)).trans hK2
   have hd3 := (hgg.block D (gl hd) (by show some D ≠ some (w.heap.size + 1 + 1); simp; omega)).trans hd
   have hG := h1.andThen hgg (fun j e => .inl (by cases e; exact Nat.le_trans (Nat.le_succ _) (Nat.le_succ _)))
   generalize (V.setCell ⟨w.heap.size + 1 + 1, 0, none⟩ (.int .i64 0)).setCell ⟨w.heap.size + 1 + 1, 1, none⟩ (.int .i64 0) = V2 at hK3 hd3 hG hs2 ⊢
   have hgp := grownBy_putObj' V2 D2 (.deferred none)
   have hd4 := (hgp.block D (gl hd3) (by simp; omega)).trans hd3
   have hs4 := (hgp.block (w.heap.size + 1 + 1) (gl hs2) (by simp; omega)).trans hs2
   have hgq := grownBy_putObj' (V2.putObj D2 (.deferred none)) D (.deferred none)
   have hs5 := (hgq.block (w.heap.size + 1 + 1) (gl hs4) (by simp; omega)).trans hs4
   have hG5 := (hG.andThen hgp (fun j e => .inl (by cases e; omega))).andThen hgq (fun j e => .inl (by cases e; omega))
   refine ⟨by simp, .inl ⟨_, _, rfl, run_takeDeferred hK3, ?_⟩⟩
   refine ⟨by simp, .inl ⟨_, _, rfl, run_takeDeferred hd4, ?_⟩⟩
   refine ⟨_, results_cell_row rfl _ _ (w.heap.size + 1 + 1) 63 _ (0, 0) _ rfl hs5 Tryz.underlying63 rfl (by kernel_rfl), ?_⟩
   exact ⟨by rw [← HR3.out]; rfl, hG5⟩
  case stop2 =>
   rintro D2 c pre V hD2 hSp ⟨rfl, h1, hd, init, z, rfl, h4, h5, h6⟩ hK2
   gi_wp2
   have hgp := grownBy_putObj' V D2 (.deferred none)
   have hd4 := (hgp.block D (gl hd) (by simp; omega)).trans hd
   have hs4 := (hgp.block (w.heap.size + 1 + 1) (gl h4) (by simp; omega)).trans h4
   have hgq := grownBy_putObj' (V.putObj D2 (.deferred none)) D (.deferred none)
   have hs5 := (hgq.block (w.heap.size + 1 + 1) (gl hs4) (by simp; omega)).trans hs4
   have hG5 := (h1.andThen hgp (fun j e => .inl (by cases e; omega))).andThen hgq (fun j e => .inl (by cases e; omega))
   have hrr := HR2.out
   rw [find_yes hSp h5 h6] at hrr
   refine ⟨by simp, .inl ⟨_, _, rfl, run_takeDeferred hK2, ?_⟩⟩
   refine ⟨by simp, .inl ⟨_, _, rfl, run_takeDeferred hd4, ?_⟩⟩
   refine ⟨_, results_cell_row rfl _ _ (w.heap.size + 1 + 1) 63 _ (0, 0) _ rfl hs5 Tryz.underlying63 rfl (by kernel_rfl), ?_⟩
   exact ⟨by rw [← Option.some.inj hrr]; rfl, hG5⟩
end Go.Proofs.YtonafedbehnneaaGreat
