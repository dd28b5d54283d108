/- My texts RqN, joined. -/
import Derived.Test.YtonafedbehnneaaGreatMhM
import Derived.Test.YtonafedbehnneaaGreatMhL
set_option linter.unusedVariables false
set_option linter.unusedSimpArgs false
set_option linter.unnecessarySimpa false
set_option linter.unusedSectionVars false
set_option maxHeartbeats 12800000
set_option maxRecDepth 20000
namespace Go.Proofs.YtonafedbehnneaaGreat
open Go.RowKit Go.Maps Go.WideMaps
mutual
theorem parts_sz : ∀ x : Gram.Exp, (Nam.parts x).length ≤ Gram.Rf.sz x
 | .mk f u nm tk tl n m ks a => by
  have h := partsL_sz ks
  simp only [Nam.parts, Gram.Rf.sz, List.length_cons]
  split <;> simp <;> omega
theorem partsL_sz : ∀ l : List Gram.Exp, (Nam.partsL l).length ≤ Gram.Rf.szL l
 | [] => by simp [Nam.partsL, Gram.Rf.szL]
 | x :: r => by
  have h1 := parts_sz x
  have h2 := partsL_sz r
  simp only [Nam.partsL, Gram.Rf.szL, List.length_append]
  omega
end
def Fine (l : List Gram.Node) : Prop := ∀ n ∈ l, ∀ it ∈ n.items, match it with | Gram.Item.mk _ e _ _ => Gram.Rf.ok1 e = true ∧ Gram.Rf.sz e ≤ 20001
theorem fine_of {s : List UInt8} {l : List Gram.Node} (h : Gram.Rf.parse s = .ok l) : Fine l := by
 obtain ⟨T, hT, hg⟩ := Gram.Rf.parse_good h
 have hl := (tokens_end hT).1
 intro n hn it hit
 have := hg n hn it hit
 obtain ⟨ns, e, ss, a⟩ := it
 exact ⟨this.1, by have := this.2; omega⟩
theorem Fine.at {l : List Gram.Node} (h : Fine l) {t u : Nat} {n : Gram.Node} (hn : l[t]? = some n) {ns : List (List UInt8)} {e : Gram.Exp} {ss : List Gram.State} {a : Int} (hi : n.items[u]? = some (.mk ns e ss a)) : Gram.Rf.ok1 e = true ∧ Gram.Rf.sz e ≤ 20001 := h n (List.mem_of_getElem? hn) _ (List.mem_of_getElem? hi)
theorem itemsLen {w : World} {B : Nat} {E : List Nat} {L cap : Nat} {a : Option Addr} {its : List Gram.Item} (h : RepC w B E (.l 40 12 (itemsD its)) (.slice a L cap)) : L = its.length ∧ L ≤ maxLen := by
 have := nLen h
 rwa [itemsD_map, List.length_map] at this
theorem prog5_form (s : ByteArray) (w : World) : Calls Tryz.prog 9 #[.string s] w fun e w' => ∃ a L c b, e = .returned (.tuple #[.agg #[.slice a L c], .bool b]) ∧ w.grownBy w' none := by
 refine (prog5_any s w).mono ?_
 rintro e w' ⟨hg, ⟨l, a, L, c, _, _, rfl, _⟩ | rfl⟩
 ·exact ⟨_, _, _, _, rfl, hg⟩
 ·exact ⟨_, _, _, _, rfl, hg⟩
theorem prog5_or (s : ByteArray) : (∃ l, Fine l ∧ ∀ w, Calls Tryz.prog 9 #[.string s] w fun e w' => ∃ a L c, e = .returned (.tuple #[.agg #[.slice a L c], .bool true]) ∧ RepC w' 0 [] (.l 31 6 (l.map nodeD)) (.slice a L c) ∧ w.grownBy w' none) ∨
  ∀ w, Calls Tryz.prog 9 #[.string s] w fun e w' => e = .returned (.tuple #[.agg #[.slice none 0 0], .bool false]) ∧ w.grownBy w' none := by
 by_cases h : ∃ l, Gram.Rf.parse s.data.toList = .ok l ∧ s.size ≤ 8000
 ·obtain ⟨l, hp, hs⟩ := h
  refine .inl ⟨l, fine_of hp, fun w => (prog5_ok hs hp w).mono ?_⟩
  rintro e w' ⟨a, L, c, rfl, h1, h2⟩
  exact ⟨a, L, c, rfl, RepC.mono (Nat.zero_le _) h1, h2⟩
 ·refine .inr (fun w => (prog5_any s w).mono ?_)
  rintro e w' ⟨hg, ⟨l, a, L, c, hp, hs, rfl, _⟩ | rfl⟩
  ·exact absurd ⟨l, hp, hs⟩ h
  ·exact ⟨rfl, hg⟩
set_option maxRecDepth 100000 in
theorem nu_bad (s o : ByteArray) (w : World) (hs : ∀ w, Calls Tryz.prog 9 #[.string s] w fun e w' => e = .returned (.tuple #[.agg #[.slice none 0 0], .bool false]) ∧ w.grownBy w' none) :
  Calls Tryz.prog 3 #[.string s, .string o] w fun e w' => e = .returned (.bool true) ∧ w.grownBy w' none := by
 have hal := alive5P w
 have hof := prog5_form o
 go_enter Tryz.func3, Tryz.ntmps3
 go_wp2_with (go_at_call 8; refine hal.mono ?_; rintro e w1 ⟨rfl, hg1⟩; refine Hid.out ?_)
 clear hal
 refine ld ?_
 go_wp2_with (go_at_call 9; refine (hs _).mono ?_; rintro e w2 ⟨rfl, hg2⟩; refine Hid.out ?_)
 clear hs
 refine ld ?_
 go_wp2_with (go_at_call 9; refine (hof _).mono ?_; rintro e w3 ⟨a, L, c, b, rfl, hg3⟩; refine Hid.out ?_)
 have HG := ld (((hg1.trans hg2).trans (ga w2 (.cells #[.slice none 0 0] 25 (0, 0)) none)).trans (hg3.trans (ga w3 (.cells #[.slice a L c] 25 (0, 0)) none)))
 clear hg1 hg2 hg3 hof
 refine ld ?_
 go_wp2
 go_ret
 exact ⟨rfl, HG.out⟩
set_option maxRecDepth 100000 in
theorem nu_ok (s o : ByteArray) (w : World) (l : List Gram.Node) (hfl : Fine l) (hs : ∀ w, Calls Tryz.prog 9 #[.string s] w fun e w' => ∃ a L c, e = .returned (.tuple #[.agg #[.slice a L c], .bool true]) ∧ RepC w' 0 [] (.l 31 6 (l.map nodeD)) (.slice a L c) ∧ w.grownBy w' none)
  (fine : Bool) (lq : List Gram.Node) (hfq : Fine lq) (ho : ∀ w, Calls Tryz.prog 9 #[.string o] w fun e w' => ∃ a L c, e = .returned (.tuple #[.agg #[.slice a L c], .bool fine]) ∧ RepC w' 0 [] (.l 31 6 (lq.map nodeD)) (.slice a L c) ∧ w.grownBy w' none) :
  Calls Tryz.prog 3 #[.string s, .string o] w fun e w' => e = .returned (.bool true) ∧ w.grownBy w' none := by
 have hal := alive5P w
 go_enter Tryz.func3, Tryz.ntmps3
 go_wp2_with (go_at_call 8; refine hal.mono ?_; rintro e w1 ⟨rfl, hg1⟩; refine Hid.out ?_)
 clear hal
 refine ld ?_
 go_wp2_with (go_at_call 9; refine (hs _).mono ?_; rintro e w2 ⟨a, L, c, rfl, hr2, hg2⟩; refine Hid.out ?_)
 clear hs
 refine ld ?_
 go_wp2_with (go_at_call 9; refine (ho _).mono ?_; rintro e w3 ⟨qa, qL, qc, rfl, hr3, hg3⟩; refine Hid.out ?_)
 clear ho
 obtain ⟨wB, hwB⟩ : ∃ wB, wB = w3.alloc (.cells #[.slice qa qL qc] 25 (0, 0)) := ⟨_, rfl⟩
 have hgq : w3.grownBy wB none := by rw [hwB]; exact ga w3 _ none
 have hbq : wB.heap[w3.heap.size]? = some (.cells #[.slice qa qL qc] 25 (0, 0)) := by rw [hwB]; exact heap_alloc_new w3 _
 have hga := ga w2 (.cells #[.slice a L c] 25 (0, 0)) none
 have hgp := hg3.trans hgq
 have hbp : wB.heap[w2.heap.size]? = some (.cells #[.slice a L c] 25 (0, 0)) := (hgp.block _ (by simp) (by simp)).trans (heap_alloc_new w2 _)
 have hvp : RepC wB 0 [] (.l 31 6 (l.map nodeD)) (.slice a L c) := RepC.kept (hga.trans hgp) (fun k e => by cases e) hr2
 have hvq : RepC wB 0 [] (.l 31 6 (lq.map nodeD)) (.slice qa qL qc) := RepC.kept hgq (fun k e => by cases e) hr3
 have HG := ld ((hg1.trans hg2).trans (hga.trans hgp))
 obtain ⟨hL, hLm⟩ := nodesLen hvp
 obtain ⟨hqL, hqm⟩ := nodesLen hvq
 unfold maxLen at hLm hqm
 have HVP := ld hvp
 have HVQ := ld hvq
 have HL := ld hL
 have HQL := ld hqL
 have HBP := ld hbp
 have HBQ := ld hbq
 have HFL := ld hfl
 have HFQ := ld hfq
 have HWB := ld hwB
 generalize hbpe : w2.heap.size = bp at HBP ⊢
 clear hg1 hg2 hg3 hgq hga hgp hr2 hr3 hvp hvq hL hqL hbp hbq hfl hfq
 refine ld ?_
 go_wp2
 rw [← HWB.out]
 clear hwB HWB
 go_loopw [10] (fun iv wr => ∃ t : Nat, t ≤ L ∧ iv = .int .i64 (t : Int) ∧ Hid (wB.grownBy wr none)) (fun i _ => L - (intOf i).toNat)
 case atStart => exact ⟨0, Nat.zero_le _, rfl, ld (World.grownBy.refl _ _)⟩
 case round =>
  obtain ⟨t, ht, rfl, HR⟩ := hrel
  have pb := HR.out.cell (cell_of_row wB _ 0 _ _ _ HBP.out) (by simp)
  by_cases hlt : t < L
  ·obtain ⟨n, hn⟩ : ∃ n, l[t]? = some n := ⟨_, List.getElem?_eq_getElem (by rw [← HL.out]; exact hlt)⟩
   obtain ⟨g, _, _, _, _, _, _, _, _, _, ia, jn, ic, rfl, ⟨_, _, _, _, u4, _⟩, _, _, _, hit⟩ := nodeAt HVP.out hn
   obtain ⟨hj, hjm⟩ := itemsLen hit
   unfold maxLen at hjm
   have HJ := ld hj
   have HIT := ld hit
   have HNn := ld hn
   have HU4 := ld u4
   have q4 := HR.out.cell u4 (by simp)
   clear hj hit hn u4
   go_wp2
   go_loopw [11] (fun iv wr => ∃ u : Nat, u ≤ jn ∧ iv = .int .i64 (u : Int) ∧ Hid (wB.grownBy wr none)) (fun i _ => jn - (intOf i).toNat)
   case atStart => exact ⟨0, Nat.zero_le _, rfl, HR⟩
   case round =>
    obtain ⟨u, hu, rfl, HR2⟩ := hrel
    clear pb q4
    have pb := HR2.out.cell (cell_of_row wB _ 0 _ _ _ HBP.out) (by simp)
    have q4 := HR2.out.cell HU4.out (by simp)
    by_cases hlu : u < jn
    ·obtain ⟨it, hi⟩ : ∃ it, n.items[u]? = some it := ⟨_, List.getElem?_eq_getElem (by rw [← HJ.out]; exact hlu)⟩
     obtain ⟨ns, x, ss, iat⟩ := it
     obtain ⟨hok, hsx⟩ := HFL.out.at HNn.out hi
     obtain ⟨gi, _, _, _, ka1, kn1, kc1, _, _, _, rfl, _, hkk, _, hcs⟩ := itemAt HIT.out hi
     obtain ⟨y, hy⟩ : ∃ y : EV wB (fun _ => true), y = ⟨x, ka1, kn1, kc1, hkk, by simp⟩ := ⟨_, rfl⟩
     have hpz := parts_sz x
     obtain ⟨lsU, hlU⟩ : ∃ l9, l9 = Gram.Rf.rU Nam.uses x := ⟨_, rfl⟩
     obtain ⟨lsC, hlC⟩ : ∃ l9, l9 = Gram.Rf.rU Nam.calls x := ⟨_, rfl⟩
     obtain ⟨M, hM⟩ : ∃ M, M = Nam.memory x := ⟨_, rfl⟩
     have hpU := fun V (hV : wB.grownBy V none) => pUses_any wB (fun _ => true) y V hV (by rw [hy]; show (Nam.parts x).length ≤ _; omega)
     have hpC := fun V (hV : wB.grownBy V none) => pCalls_any wB (fun _ => true) y V hV (by rw [hy]; show (Nam.parts x).length ≤ _; omega)
     have hpM := fun V (hV : wB.grownBy V none) => memory_any wB (fun _ => true) y V hV
     have hrU := fun V (hV : wB.grownBy V none) => rUses_any wB _ x (Nat.le_refl _) V ka1 kn1 kc1 hV hkk (by omega)
     have hrC := fun V (hV : wB.grownBy V none) => rCalls_any wB _ x (Nat.le_refl _) V ka1 kn1 kc1 hV hkk (by omega)
     have hrM := fun V (hV : wB.grownBy V none) => rMem_any wB _ x (Nat.le_refl _) V ka1 kn1 kc1 hV hkk
     have hyx : y.x = x := by rw [hy]
     have hye : y.enc = #[.agg (expCells x (.slice ka1 kn1 kc1)).toArray] := by rw [hy]; rfl
     rw [hyx, hye, ← Gram.Rf.rU_parts Nam.uses x hok, ← hlU] at hpU
     rw [hyx, hye, ← Gram.Rf.rU_parts Nam.calls x hok, ← hlC] at hpC
     rw [hyx, hye, ← hM] at hpM
     rw [← hlU] at hrU
     rw [← hlC] at hrC
     rw [Gram.Rf.rM_parts x hok, ← hM] at hrM
     have HLU := ld (show lsU.length ≤ 1000000 by rw [hlU]; have := Gram.Rf.rU_len Nam.uses x; omega)
     have HLC := ld (show lsC.length ≤ 1000000 by rw [hlC]; have := Gram.Rf.rU_len Nam.calls x; omega)
     clear hlU hlC hM hyx hye hy y hpz hok hsx hi hkk
     cases x with
     | mk f1 s1 nm1 tk1 tl1 n1 m1 ks1 a1 =>
     simp only [expCells] at hpU hpC hpM hrU hrC hrM hcs
     have e0 := HR2.out.cell (hcs 1 _ rfl) (by simp)
     have e1 : wr.cell? ⟨gi, u * 12 + 1 + 1, none⟩ = _ := HR2.out.cell (hcs 2 _ rfl) (by simp)
     have e2 : wr.cell? ⟨gi, u * 12 + 1 + 2, none⟩ = _ := HR2.out.cell (hcs 3 _ rfl) (by simp)
     have e3 : wr.cell? ⟨gi, u * 12 + 1 + 3, none⟩ = _ := HR2.out.cell (hcs 4 _ rfl) (by simp)
     have e4 : wr.cell? ⟨gi, u * 12 + 1 + 4, none⟩ = _ := HR2.out.cell (hcs 5 _ rfl) (by simp)
     have e5 : wr.cell? ⟨gi, u * 12 + 1 + 5, none⟩ = _ := HR2.out.cell (hcs 6 _ rfl) (by simp)
     have e6 : wr.cell? ⟨gi, u * 12 + 1 + 6, none⟩ = _ := HR2.out.cell (hcs 7 _ rfl) (by simp)
     have e7 : wr.cell? ⟨gi, u * 12 + 1 + 7, none⟩ = _ := HR2.out.cell (hcs 8 _ rfl) (by simp)
     have e8 : wr.cell? ⟨gi, u * 12 + 1 + 8, none⟩ = _ := HR2.out.cell (hcs 9 _ rfl) (by simp)
     clear hcs
     have hga := ga wr (.cells #[.int .i64 f1, .int .i64 s1, .string ⟨nm1.toArray⟩, .int .i64 tk1, .int .i64 tl1, .int .i64 n1, .int .i64 m1, .slice ka1 kn1 kc1, .int .i64 a1] 37 (0, 0)) none
     have HGA := ld (HR2.out.trans hga)
     clear hga
     go_wp2_with (go_at_call 10; refine (hpU _ HGA.out).mono ?_; rintro e w5 ⟨v5, rfl, o5, g5⟩; obtain ⟨va, vc, rfl⟩ := rowForm o5; refine Hid.out ?_)
     have hb5 := (g5.block _ (by simp) (by simp)).trans (heap_alloc_new wr (.cells #[.int .i64 f1, .int .i64 s1, .string ⟨nm1.toArray⟩, .int .i64 tk1, .int .i64 tl1, .int .i64 n1, .int .i64 m1, .slice ka1 kn1 kc1, .int .i64 a1] 37 (0, 0)))
     have x0 := cell_of_row w5 _ 0 _ _ _ hb5
     have x1 := cell_of_row w5 _ 1 _ _ _ hb5
     have x2 := cell_of_row w5 _ 2 _ _ _ hb5
     have x3 := cell_of_row w5 _ 3 _ _ _ hb5
     have x4 := cell_of_row w5 _ 4 _ _ _ hb5
     have x5 := cell_of_row w5 _ 5 _ _ _ hb5
     have x6 := cell_of_row w5 _ 6 _ _ _ hb5
     have x7 := cell_of_row w5 _ 7 _ _ _ hb5
     have x8 := cell_of_row w5 _ 8 _ _ _ hb5
     have H5 := ld (And.intro (HGA.out.trans g5) (And.intro hb5 (o5.mono (Nat.zero_le _))))
     clear hb5 o5 g5 e0 e1 e2 e3 e4 e5 e6 e7 e8 pb q4 HGA hpU
     refine ld ?_
     go_wp2_with (go_at_call 11; refine (hpC _ H5.out.1).mono ?_; rintro e w6 ⟨v6, rfl, o6, g6⟩; obtain ⟨ua, uc, rfl⟩ := rowForm o6; refine Hid.out ?_)
     have H6 : Hid (wB.grownBy w6 none ∧ w6.heap[wr.heap.size]? = some (.cells #[.int .i64 f1, .int .i64 s1, .string ⟨nm1.toArray⟩, .int .i64 tk1, .int .i64 tl1, .int .i64 n1, .int .i64 m1, .slice ka1 kn1 kc1, .int .i64 a1] 37 (0, 0)) ∧ w6.ownsRow 0 9 1 (.slice va (lsU).length vc) (lsU).length ((lsU).map strV) ∧ w6.ownsRow 0 9 1 (.slice ua (lsC).length uc) (lsC).length ((lsC).map strV)) := ld ⟨H5.out.1.trans g6, (g6.block _ (gl H5.out.2.1) (by simp)).trans H5.out.2.1, H5.out.2.2.kept g6 (by cases va <;> simp [Value.ownBlock]), o6.mono (Nat.zero_le _)⟩
     have on6 : ∀ V, w6.grownBy V none → Hid (wB.grownBy V none ∧ V.heap[wr.heap.size]? = some (.cells #[.int .i64 f1, .int .i64 s1, .string ⟨nm1.toArray⟩, .int .i64 tk1, .int .i64 tl1, .int .i64 n1, .int .i64 m1, .slice ka1 kn1 kc1, .int .i64 a1] 37 (0, 0)) ∧ V.ownsRow 0 9 1 (.slice va (lsU).length vc) (lsU).length ((lsU).map strV) ∧ V.ownsRow 0 9 1 (.slice ua (lsC).length uc) (lsC).length ((lsC).map strV)) := fun V hV => ld ⟨H6.out.1.trans hV, (hV.block _ (gl H6.out.2.1) (by simp)).trans H6.out.2.1, H6.out.2.2.1.kept hV (by cases va <;> simp [Value.ownBlock]), H6.out.2.2.2.kept hV (by cases ua <;> simp [Value.ownBlock])⟩
     have HON := ld on6
     have qb := H6.out.1.cell (cell_of_row wB _ 0 _ _ _ HBQ.out) (by simp)
     clear o6 g6 x0 x1 x2 x3 x4 x5 x6 x7 x8 H5 hpC on6
     cases fine with
     | false =>
      have HW := H6
      refine ld ?_
      have w6d : wB.grownBy w6.drew none := gdrew HW.out.1
      have hS0 : (fun W' => W'.heap[wr.heap.size]? = some (.cells #[.int .i64 f1, .int .i64 s1, .string ⟨nm1.toArray⟩, .int .i64 tk1, .int .i64 tl1, .int .i64 n1, .int .i64 m1, .slice ka1 kn1 kc1, .int .i64 a1] 37 (0, 0))) w6.drew := HW.out.2.1
      have r1 : w6.drew.ownsRow 0 9 1 (.slice va (lsU).length vc) (lsU).length ((lsU).map strV) := HW.out.2.2.1
      have r2 : w6.drew.ownsRow 0 9 1 (.slice ua (lsC).length uc) (lsC).length ((lsC).map strV) := HW.out.2.2.2
      go_wp2
      refine wp_region_L2 (S := fun W' => W'.heap[wr.heap.size]? = some (.cells #[.int .i64 f1, .int .i64 s1, .string ⟨nm1.toArray⟩, .int .i64 tk1, .int .i64 tl1, .int .i64 n1, .int .i64 m1, .slice ka1 kn1 kc1, .int .i64 a1] 37 (0, 0))) (by kernel_rfl) ?_
      generalize w6.drew = V0 at w6d hS0 r1 r2 ⊢
      refine t1 0 101 (.slice va (lsU).length vc) hS0 ?_
      simp only [Act.put, sA, sB, sC]
      refine t2 1 102 (.agg #[.int .i64 f1, .int .i64 s1, .string ⟨nm1.toArray⟩, .int .i64 tk1, .int .i64 tl1, .int .i64 n1, .int .i64 m1, .slice ka1 kn1 kc1, .int .i64 a1]) (fun w' hw' => ?_) hS0 ?_
      ·have hc0 := cell_of_row w' _ 0 _ _ _ hw'; have hc1 := cell_of_row w' _ 1 _ _ _ hw'; have hc2 := cell_of_row w' _ 2 _ _ _ hw'; have hc3 := cell_of_row w' _ 3 _ _ _ hw'; have hc4 := cell_of_row w' _ 4 _ _ _ hw'; have hc5 := cell_of_row w' _ 5 _ _ _ hw'; have hc6 := cell_of_row w' _ 6 _ _ _ hw'; have hc7 := cell_of_row w' _ 7 _ _ _ hw'; have hc8 := cell_of_row w' _ 8 _ _ _ hw'; clear hw'; go_simp
      simp only [Act.put, sA, sB, sC]
      refine wpL_call (i := 2) (d := 103) (R := fun v w' => V0.grownBy w' none ∧ ∃ xa xc, v = .slice xa (lsU).length xc ∧ w'.ownsRow V0.heap.size 9 1 v (lsU).length ((lsU).map strV)) (by kernel_rfl) rfl (by kernel_rfl) (by kernel_rfl) (by kernel_rfl) ((hrU V0 w6d).mono fun e w' he => by obtain ⟨v, rfl, ho, hg⟩ := he; obtain ⟨xa, xc, rfl⟩ := rowForm ho; exact ⟨_, rfl, hg, xa, xc, rfl, ho⟩) (fun v w' h => (h.1.block _ (gl hS0) (by simp)).trans hS0) (fun v V1 h => ?_)
      obtain ⟨g1, xa, xc, rfl, o1⟩ := h
      simp only [Act.put, sA, sB, sC]
      have hS1 := (g1.block _ (gl hS0) (by simp)).trans hS0
      have b1 := g1.size
      refine wpL_call (i := 3) (d := 104) (R := fun v w' => v = .bool true ∧ ∃ k, w' = V1.drewN k) (by kernel_rfl) rfl (by kernel_rfl) (by kernel_rfl) (by kernel_rfl) ((same_any V1 0 V0.heap.size va xa _ vc xc lsU rfl HLU.out (r1.kept g1 (by cases va <;> simp [Value.ownBlock])) o1).mono fun e w' he => ⟨_, he.1, rfl, he.2⟩) (fun v w' h => by obtain ⟨_, k, rfl⟩ := h; exact hS1) (fun v V2 h => ?_)
      obtain ⟨rfl, k2, hk2⟩ := h
      have g2 : V0.grownBy V2 none := by rw [hk2]; exact gdrewN g1 _
      have hS2 := (g2.block _ (gl hS0) (by simp)).trans hS0
      clear hk2 o1 g1 hS1 b1
      simp only [Act.put, sA, sB, sC]
      refine t1 4 105 (.bool false) hS2 ?_
      simp only [Act.put, sA, sB, sC]
      refine t1 5 106 (.bool false) hS2 ?_
      simp only [Act.put, sA, sB, sC]
      refine t1 6 107 (.slice ua (lsC).length uc) hS2 ?_
      simp only [Act.put, sA, sB, sC]
      refine t2 7 108 (.agg #[.int .i64 f1, .int .i64 s1, .string ⟨nm1.toArray⟩, .int .i64 tk1, .int .i64 tl1, .int .i64 n1, .int .i64 m1, .slice ka1 kn1 kc1, .int .i64 a1]) (fun w' hw' => ?_) hS2 ?_
      ·have hc0 := cell_of_row w' _ 0 _ _ _ hw'; have hc1 := cell_of_row w' _ 1 _ _ _ hw'; have hc2 := cell_of_row w' _ 2 _ _ _ hw'; have hc3 := cell_of_row w' _ 3 _ _ _ hw'; have hc4 := cell_of_row w' _ 4 _ _ _ hw'; have hc5 := cell_of_row w' _ 5 _ _ _ hw'; have hc6 := cell_of_row w' _ 6 _ _ _ hw'; have hc7 := cell_of_row w' _ 7 _ _ _ hw'; have hc8 := cell_of_row w' _ 8 _ _ _ hw'; clear hw'; go_simp
      simp only [Act.put, sA, sB, sC]
      refine wpL_call (i := 8) (d := 109) (R := fun v w' => V2.grownBy w' none ∧ ∃ xa xc, v = .slice xa (lsC).length xc ∧ w'.ownsRow V2.heap.size 9 1 v (lsC).length ((lsC).map strV)) (by kernel_rfl) rfl (by kernel_rfl) (by kernel_rfl) (by kernel_rfl) ((hrC V2 (w6d.trans g2)).mono fun e w' he => by obtain ⟨v, rfl, ho, hg⟩ := he; obtain ⟨xa, xc, rfl⟩ := rowForm ho; exact ⟨_, rfl, hg, xa, xc, rfl, ho⟩) (fun v w' h => (h.1.block _ (gl hS2) (by simp)).trans hS2) (fun v V3 h => ?_)
      obtain ⟨g3, xb, xd, rfl, o3⟩ := h
      simp only [Act.put, sA, sB, sC]
      have hS3 := (g3.block _ (gl hS2) (by simp)).trans hS2
      refine wpL_call (i := 9) (d := 110) (R := fun v w' => v = .bool true ∧ ∃ k, w' = V3.drewN k) (by kernel_rfl) rfl (by kernel_rfl) (by kernel_rfl) (by kernel_rfl) ((same_any V3 0 V2.heap.size ua xb _ uc xd lsC rfl HLC.out (r2.kept (g2.trans g3) (by cases ua <;> simp [Value.ownBlock])) o3).mono fun e w' he => ⟨_, he.1, rfl, he.2⟩) (fun v w' h => by obtain ⟨_, k, rfl⟩ := h; exact hS3) (fun v V4 h => ?_)
      obtain ⟨rfl, k4, hk4⟩ := h
      have g4 : V0.grownBy V4 none := by rw [hk4]; exact gdrewN (g2.trans g3) _
      have hS4 := (g4.block _ (gl hS0) (by simp)).trans hS0
      clear hk4 o3 g3 hS3
      simp only [Act.put, sA, sB, sC]
      refine t1 10 111 (.bool false) hS4 ?_
      simp only [Act.put, sA, sB, sC]
      refine t1 11 112 (.bool false) hS4 ?_
      simp only [Act.put, sA, sB, sC]
      refine t1 12 113 (.bool false) hS4 ?_
      simp only [Act.put, sA, sB, sC]
      refine t2 13 114 (.agg #[.int .i64 f1, .int .i64 s1, .string ⟨nm1.toArray⟩, .int .i64 tk1, .int .i64 tl1, .int .i64 n1, .int .i64 m1, .slice ka1 kn1 kc1, .int .i64 a1]) (fun w' hw' => ?_) hS4 ?_
      ·have hc0 := cell_of_row w' _ 0 _ _ _ hw'; have hc1 := cell_of_row w' _ 1 _ _ _ hw'; have hc2 := cell_of_row w' _ 2 _ _ _ hw'; have hc3 := cell_of_row w' _ 3 _ _ _ hw'; have hc4 := cell_of_row w' _ 4 _ _ _ hw'; have hc5 := cell_of_row w' _ 5 _ _ _ hw'; have hc6 := cell_of_row w' _ 6 _ _ _ hw'; have hc7 := cell_of_row w' _ 7 _ _ _ hw'; have hc8 := cell_of_row w' _ 8 _ _ _ hw'; clear hw'; go_simp
      simp only [Act.put, sA, sB, sC]
      refine t2 15 116 (.agg #[.int .i64 f1, .int .i64 s1, .string ⟨nm1.toArray⟩, .int .i64 tk1, .int .i64 tl1, .int .i64 n1, .int .i64 m1, .slice ka1 kn1 kc1, .int .i64 a1]) (fun w' hw' => ?_) hS4 ?_
      ·have hc0 := cell_of_row w' _ 0 _ _ _ hw'; have hc1 := cell_of_row w' _ 1 _ _ _ hw'; have hc2 := cell_of_row w' _ 2 _ _ _ hw'; have hc3 := cell_of_row w' _ 3 _ _ _ hw'; have hc4 := cell_of_row w' _ 4 _ _ _ hw'; have hc5 := cell_of_row w' _ 5 _ _ _ hw'; have hc6 := cell_of_row w' _ 6 _ _ _ hw'; have hc7 := cell_of_row w' _ 7 _ _ _ hw'; have hc8 := cell_of_row w' _ 8 _ _ _ hw'; clear hw'; go_simp
      simp only [Act.put, sA, sB, sC]
      refine wpL_call (i := 14) (d := 115) (R := fun v w' => v = .bool M ∧ V4.grownBy w' none) (by kernel_rfl) rfl (by kernel_rfl) (by kernel_rfl) (by kernel_rfl) ((hpM V4 (w6d.trans g4)).mono fun e w' he => ⟨_, he.1, rfl, he.2⟩) (fun v w' h => (h.2.block _ (gl hS4) (by simp)).trans hS4) (fun v V5 h => ?_)
      obtain ⟨rfl, g5⟩ := h
      simp only [Act.put, sA, sB, sC]
      have hS5 := (g5.block _ (gl hS4) (by simp)).trans hS4
      refine wpL_call (i := 16) (d := 117) (R := fun v w' => v = .bool M ∧ V5.grownBy w' none) (by kernel_rfl) rfl (by kernel_rfl) (by kernel_rfl) (by kernel_rfl) ((hrM V5 (w6d.trans (g4.trans g5))).mono fun e w' he => ⟨_, he.1, rfl, he.2⟩) (fun v w' h => (h.2.block _ (gl hS5) (by simp)).trans hS5) (fun v V6 h => ?_)
      obtain ⟨rfl, g6⟩ := h
      simp only [Act.put, sA, sB, sC]
      have hS6 := (g6.block _ (gl hS5) (by simp)).trans hS5
      refine t2 17 118 (.bool false) (fun w' hw' => ?_) hS6 ?_
      ·cases M <;> kernel_rfl
      simp only [Act.put, sA, sB, sC]
      refine t1 18 119 (.bool false) hS6 ?_
      simp only [Act.put, sA, sB, sC]
      have HE := ld (w6d.trans (g4.trans (g5.trans g6)))
      clear g2 g4 g5 g6 hS0 hS2 hS4 hS5 hS6 r1 r2
      refine wpL_done (by kernel_rfl) ?_ _
      go_wp2
      exact ⟨⟨u + 1, by omega, by go_num, ld HE.out⟩, by simp [intOf]; omega⟩
     | true =>
     cases lq with
     | nil =>
      have hq0 : qL = 0 := HQL.out
      subst hq0
      have HW := H6
      refine ld ?_
      have w6d : wB.grownBy w6.drew none := gdrew HW.out.1
      have hS0 : (fun W' => W'.heap[wr.heap.size]? = some (.cells #[.int .i64 f1, .int .i64 s1, .string ⟨nm1.toArray⟩, .int .i64 tk1, .int .i64 tl1, .int .i64 n1, .int .i64 m1, .slice ka1 kn1 kc1, .int .i64 a1] 37 (0, 0))) w6.drew := HW.out.2.1
      have r1 : w6.drew.ownsRow 0 9 1 (.slice va (lsU).length vc) (lsU).length ((lsU).map strV) := HW.out.2.2.1
      have r2 : w6.drew.ownsRow 0 9 1 (.slice ua (lsC).length uc) (lsC).length ((lsC).map strV) := HW.out.2.2.2
      go_wp2
      refine wp_region_L2 (S := fun W' => W'.heap[wr.heap.size]? = some (.cells #[.int .i64 f1, .int .i64 s1, .string ⟨nm1.toArray⟩, .int .i64 tk1, .int .i64 tl1, .int .i64 n1, .int .i64 m1, .slice ka1 kn1 kc1, .int .i64 a1] 37 (0, 0))) (by kernel_rfl) ?_
      generalize w6.drew = V0 at w6d hS0 r1 r2 ⊢
      refine t1 0 101 (.slice va (lsU).length vc) hS0 ?_
      simp only [Act.put, sA, sB, sC]
      refine t2 1 102 (.agg #[.int .i64 f1, .int .i64 s1, .string ⟨nm1.toArray⟩, .int .i64 tk1, .int .i64 tl1, .int .i64 n1, .int .i64 m1, .slice ka1 kn1 kc1, .int .i64 a1]) (fun w' hw' => ?_) hS0 ?_
      ·have hc0 := cell_of_row w' _ 0 _ _ _ hw'; have hc1 := cell_of_row w' _ 1 _ _ _ hw'; have hc2 := cell_of_row w' _ 2 _ _ _ hw'; have hc3 := cell_of_row w' _ 3 _ _ _ hw'; have hc4 := cell_of_row w' _ 4 _ _ _ hw'; have hc5 := cell_of_row w' _ 5 _ _ _ hw'; have hc6 := cell_of_row w' _ 6 _ _ _ hw'; have hc7 := cell_of_row w' _ 7 _ _ _ hw'; have hc8 := cell_of_row w' _ 8 _ _ _ hw'; clear hw'; go_simp
      simp only [Act.put, sA, sB, sC]
      refine wpL_call (i := 2) (d := 103) (R := fun v w' => V0.grownBy w' none ∧ ∃ xa xc, v = .slice xa (lsU).length xc ∧ w'.ownsRow V0.heap.size 9 1 v (lsU).length ((lsU).map strV)) (by kernel_rfl) rfl (by kernel_rfl) (by kernel_rfl) (by kernel_rfl) ((hrU V0 w6d).mono fun e w' he => by obtain ⟨v, rfl, ho, hg⟩ := he; obtain ⟨xa, xc, rfl⟩ := rowForm ho; exact ⟨_, rfl, hg, xa, xc, rfl, ho⟩) (fun v w' h => (h.1.block _ (gl hS0) (by simp)).trans hS0) (fun v V1 h => ?_)
      obtain ⟨g1, xa, xc, rfl, o1⟩ := h
      simp only [Act.put, sA, sB, sC]
      have hS1 := (g1.block _ (gl hS0) (by simp)).trans hS0
      have b1 := g1.size
      refine wpL_call (i := 3) (d := 104) (R := fun v w' => v = .bool true ∧ ∃ k, w' = V1.drewN k) (by kernel_rfl) rfl (by kernel_rfl) (by kernel_rfl) (by kernel_rfl) ((same_any V1 0 V0.heap.size va xa _ vc xc lsU rfl HLU.out (r1.kept g1 (by cases va <;> simp [Value.ownBlock])) o1).mono fun e w' he => ⟨_, he.1, rfl, he.2⟩) (fun v w' h => by obtain ⟨_, k, rfl⟩ := h; exact hS1) (fun v V2 h => ?_)
      obtain ⟨rfl, k2, hk2⟩ := h
      have g2 : V0.grownBy V2 none := by rw [hk2]; exact gdrewN g1 _
      have hS2 := (g2.block _ (gl hS0) (by simp)).trans hS0
      clear hk2 o1 g1 hS1 b1
      simp only [Act.put, sA, sB, sC]
      refine t1 4 105 (.bool false) hS2 ?_
      simp only [Act.put, sA, sB, sC]
      refine t1 5 106 (.bool false) hS2 ?_
      simp only [Act.put, sA, sB, sC]
      refine t1 6 107 (.slice ua (lsC).length uc) hS2 ?_
      simp only [Act.put, sA, sB, sC]
      refine t2 7 108 (.agg #[.int .i64 f1, .int .i64 s1, .string ⟨nm1.toArray⟩, .int .i64 tk1, .int .i64 tl1, .int .i64 n1, .int .i64 m1, .slice ka1 kn1 kc1, .int .i64 a1]) (fun w' hw' => ?_) hS2 ?_
      ·have hc0 := cell_of_row w' _ 0 _ _ _ hw'; have hc1 := cell_of_row w' _ 1 _ _ _ hw'; have hc2 := cell_of_row w' _ 2 _ _ _ hw'; have hc3 := cell_of_row w' _ 3 _ _ _ hw'; have hc4 := cell_of_row w' _ 4 _ _ _ hw'; have hc5 := cell_of_row w' _ 5 _ _ _ hw'; have hc6 := cell_of_row w' _ 6 _ _ _ hw'; have hc7 := cell_of_row w' _ 7 _ _ _ hw'; have hc8 := cell_of_row w' _ 8 _ _ _ hw'; clear hw'; go_simp
      simp only [Act.put, sA, sB, sC]
      refine wpL_call (i := 8) (d := 109) (R := fun v w' => V2.grownBy w' none ∧ ∃ xa xc, v = .slice xa (lsC).length xc ∧ w'.ownsRow V2.heap.size 9 1 v (lsC).length ((lsC).map strV)) (by kernel_rfl) rfl (by kernel_rfl) (by kernel_rfl) (by kernel_rfl) ((hrC V2 (w6d.trans g2)).mono fun e w' he => by obtain ⟨v, rfl, ho, hg⟩ := he; obtain ⟨xa, xc, rfl⟩ := rowForm ho; exact ⟨_, rfl, hg, xa, xc, rfl, ho⟩) (fun v w' h => (h.1.block _ (gl hS2) (by simp)).trans hS2) (fun v V3 h => ?_)
      obtain ⟨g3, xb, xd, rfl, o3⟩ := h
      simp only [Act.put, sA, sB, sC]
      have hS3 := (g3.block _ (gl hS2) (by simp)).trans hS2
      refine wpL_call (i := 9) (d := 110) (R := fun v w' => v = .bool true ∧ ∃ k, w' = V3.drewN k) (by kernel_rfl) rfl (by kernel_rfl) (by kernel_rfl) (by kernel_rfl) ((same_any V3 0 V2.heap.size ua xb _ uc xd lsC rfl HLC.out (r2.kept (g2.trans g3) (by cases ua <;> simp [Value.ownBlock])) o3).mono fun e w' he => ⟨_, he.1, rfl, he.2⟩) (fun v w' h => by obtain ⟨_, k, rfl⟩ := h; exact hS3) (fun v V4 h => ?_)
      obtain ⟨rfl, k4, hk4⟩ := h
      have g4 : V0.grownBy V4 none := by rw [hk4]; exact gdrewN (g2.trans g3) _
      have hS4 := (g4.block _ (gl hS0) (by simp)).trans hS0
      clear hk4 o3 g3 hS3
      simp only [Act.put, sA, sB, sC]
      refine t1 10 111 (.bool false) hS4 ?_
      simp only [Act.put, sA, sB, sC]
      refine t1 11 112 (.bool false) hS4 ?_
      simp only [Act.put, sA, sB, sC]
      refine t1 12 113 (.bool false) hS4 ?_
      simp only [Act.put, sA, sB, sC]
      refine t2 13 114 (.agg #[.int .i64 f1, .int .i64 s1, .string ⟨nm1.toArray⟩, .int .i64 tk1, .int .i64 tl1, .int .i64 n1, .int .i64 m1, .slice ka1 kn1 kc1, .int .i64 a1]) (fun w' hw' => ?_) hS4 ?_
      ·have hc0 := cell_of_row w' _ 0 _ _ _ hw'; have hc1 := cell_of_row w' _ 1 _ _ _ hw'; have hc2 := cell_of_row w' _ 2 _ _ _ hw'; have hc3 := cell_of_row w' _ 3 _ _ _ hw'; have hc4 := cell_of_row w' _ 4 _ _ _ hw'; have hc5 := cell_of_row w' _ 5 _ _ _ hw'; have hc6 := cell_of_row w' _ 6 _ _ _ hw'; have hc7 := cell_of_row w' _ 7 _ _ _ hw'; have hc8 := cell_of_row w' _ 8 _ _ _ hw'; clear hw'; go_simp
      simp only [Act.put, sA, sB, sC]
      refine t2 15 116 (.agg #[.int .i64 f1, .int .i64 s1, .string ⟨nm1.toArray⟩, .int .i64 tk1, .int .i64 tl1, .int .i64 n1, .int .i64 m1, .slice ka1 kn1 kc1, .int .i64 a1]) (fun w' hw' => ?_) hS4 ?_
      ·have hc0 := cell_of_row w' _ 0 _ _ _ hw'; have hc1 := cell_of_row w' _ 1 _ _ _ hw'; have hc2 := cell_of_row w' _ 2 _ _ _ hw'; have hc3 := cell_of_row w' _ 3 _ _ _ hw'; have hc4 := cell_of_row w' _ 4 _ _ _ hw'; have hc5 := cell_of_row w' _ 5 _ _ _ hw'; have hc6 := cell_of_row w' _ 6 _ _ _ hw'; have hc7 := cell_of_row w' _ 7 _ _ _ hw'; have hc8 := cell_of_row w' _ 8 _ _ _ hw'; clear hw'; go_simp
      simp only [Act.put, sA, sB, sC]
      refine wpL_call (i := 14) (d := 115) (R := fun v w' => v = .bool M ∧ V4.grownBy w' none) (by kernel_rfl) rfl (by kernel_rfl) (by kernel_rfl) (by kernel_rfl) ((hpM V4 (w6d.trans g4)).mono fun e w' he => ⟨_, he.1, rfl, he.2⟩) (fun v w' h => (h.2.block _ (gl hS4) (by simp)).trans hS4) (fun v V5 h => ?_)
      obtain ⟨rfl, g5⟩ := h
      simp only [Act.put, sA, sB, sC]
      have hS5 := (g5.block _ (gl hS4) (by simp)).trans hS4
      refine wpL_call (i := 16) (d := 117) (R := fun v w' => v = .bool M ∧ V5.grownBy w' none) (by kernel_rfl) rfl (by kernel_rfl) (by kernel_rfl) (by kernel_rfl) ((hrM V5 (w6d.trans (g4.trans g5))).mono fun e w' he => ⟨_, he.1, rfl, he.2⟩) (fun v w' h => (h.2.block _ (gl hS5) (by simp)).trans hS5) (fun v V6 h => ?_)
      obtain ⟨rfl, g6⟩ := h
      simp only [Act.put, sA, sB, sC]
      have hS6 := (g6.block _ (gl hS5) (by simp)).trans hS5
      refine t2 17 118 (.bool false) (fun w' hw' => ?_) hS6 ?_
      ·cases M <;> kernel_rfl
      simp only [Act.put, sA, sB, sC]
      refine t1 18 119 (.bool false) hS6 ?_
      simp only [Act.put, sA, sB, sC]
      have HE := ld (w6d.trans (g4.trans (g5.trans g6)))
      clear g2 g4 g5 g6 hS0 hS2 hS4 hS5 hS6 r1 r2
      refine wpL_done (by kernel_rfl) ?_ _
      go_wp2
      exact ⟨⟨u + 1, by omega, by go_num, ld HE.out⟩, by simp [intOf]; omega⟩
     | cons n0 lr =>
     have hq1 : decide ((0 : Int) < (qL : Int)) = true := by rw [decide_eq_true_iff]; have := HQL.out; simp at this; omega
     have hqp : (0 : Int) < (qL : Int) := by have := HQL.out; simp at this; omega
     obtain ⟨gq, _, _, _, _, _, _, _, _, _, ja, jq, jc, rfl, ⟨_, _, _, _, w4, _⟩, _, _, _, hiq⟩ := nodeAt HVQ.out (t := 0) (n := n0) rfl
     have qb4 : w6.cell? ⟨gq, 4, none⟩ = _ := H6.out.1.cell w4 (by simp)
     obtain ⟨hjq, hjqm⟩ := itemsLen hiq
     unfold maxLen at hjqm
     cases hi0 : n0.items with
     | nil =>
      have hj0 : jq = 0 := by rw [hjq, hi0]; rfl
      subst hj0
      have HW := H6
      clear hjq hiq w4 hi0
      refine ld ?_
      have w6d : wB.grownBy w6.drew none := gdrew HW.out.1
      have hS0 : (fun W' => W'.heap[wr.heap.size]? = some (.cells #[.int .i64 f1, .int .i64 s1, .string ⟨nm1.toArray⟩, .int .i64 tk1, .int .i64 tl1, .int .i64 n1, .int .i64 m1, .slice ka1 kn1 kc1, .int .i64 a1] 37 (0, 0))) w6.drew := HW.out.2.1
      have r1 : w6.drew.ownsRow 0 9 1 (.slice va (lsU).length vc) (lsU).length ((lsU).map strV) := HW.out.2.2.1
      have r2 : w6.drew.ownsRow 0 9 1 (.slice ua (lsC).length uc) (lsC).length ((lsC).map strV) := HW.out.2.2.2
      go_wp2
      refine wp_region_L2 (S := fun W' => W'.heap[wr.heap.size]? = some (.cells #[.int .i64 f1, .int .i64 s1, .string ⟨nm1.toArray⟩, .int .i64 tk1, .int .i64 tl1, .int .i64 n1, .int .i64 m1, .slice ka1 kn1 kc1, .int .i64 a1] 37 (0, 0))) (by kernel_rfl) ?_
      generalize w6.drew = V0 at w6d hS0 r1 r2 ⊢
      refine t1 0 101 (.slice va (lsU).length vc) hS0 ?_
      simp only [Act.put, sA, sB, sC]
      refine t2 1 102 (.agg #[.int .i64 f1, .int .i64 s1, .string ⟨nm1.toArray⟩, .int .i64 tk1, .int .i64 tl1, .int .i64 n1, .int .i64 m1, .slice ka1 kn1 kc1, .int .i64 a1]) (fun w' hw' => ?_) hS0 ?_
      ·have hc0 := cell_of_row w' _ 0 _ _ _ hw'; have hc1 := cell_of_row w' _ 1 _ _ _ hw'; have hc2 := cell_of_row w' _ 2 _ _ _ hw'; have hc3 := cell_of_row w' _ 3 _ _ _ hw'; have hc4 := cell_of_row w' _ 4 _ _ _ hw'; have hc5 := cell_of_row w' _ 5 _ _ _ hw'; have hc6 := cell_of_row w' _ 6 _ _ _ hw'; have hc7 := cell_of_row w' _ 7 _ _ _ hw'; have hc8 := cell_of_row w' _ 8 _ _ _ hw'; clear hw'; go_simp
      simp only [Act.put, sA, sB, sC]
      refine wpL_call (i := 2) (d := 103) (R := fun v w' => V0.grownBy w' none ∧ ∃ xa xc, v = .slice xa (lsU).length xc ∧ w'.ownsRow V0.heap.size 9 1 v (lsU).length ((lsU).map strV)) (by kernel_rfl) rfl (by kernel_rfl) (by kernel_rfl) (by kernel_rfl) ((hrU V0 w6d).mono fun e w' he => by obtain ⟨v, rfl, ho, hg⟩ := he; obtain ⟨xa, xc, rfl⟩ := rowForm ho; exact ⟨_, rfl, hg, xa, xc, rfl, ho⟩) (fun v w' h => (h.1.block _ (gl hS0) (by simp)).trans hS0) (fun v V1 h => ?_)
      obtain ⟨g1, xa, xc, rfl, o1⟩ := h
      simp only [Act.put, sA, sB, sC]
      have hS1 := (g1.block _ (gl hS0) (by simp)).trans hS0
      have b1 := g1.size
      refine wpL_call (i := 3) (d := 104) (R := fun v w' => v = .bool true ∧ ∃ k, w' = V1.drewN k) (by kernel_rfl) rfl (by kernel_rfl) (by kernel_rfl) (by kernel_rfl) ((same_any V1 0 V0.heap.size va xa _ vc xc lsU rfl HLU.out (r1.kept g1 (by cases va <;> simp [Value.ownBlock])) o1).mono fun e w' he => ⟨_, he.1, rfl, he.2⟩) (fun v w' h => by obtain ⟨_, k, rfl⟩ := h; exact hS1) (fun v V2 h => ?_)
      obtain ⟨rfl, k2, hk2⟩ := h
      have g2 : V0.grownBy V2 none := by rw [hk2]; exact gdrewN g1 _
      have hS2 := (g2.block _ (gl hS0) (by simp)).trans hS0
      clear hk2 o1 g1 hS1 b1
      simp only [Act.put, sA, sB, sC]
      refine t1 4 105 (.bool false) hS2 ?_
      simp only [Act.put, sA, sB, sC]
      refine t1 5 106 (.bool false) hS2 ?_
      simp only [Act.put, sA, sB, sC]
      refine t1 6 107 (.slice ua (lsC).length uc) hS2 ?_
      simp only [Act.put, sA, sB, sC]
      refine t2 7 108 (.agg #[.int .i64 f1, .int .i64 s1, .string ⟨nm1.toArray⟩, .int .i64 tk1, .int .i64 tl1, .int .i64 n1, .int .i64 m1, .slice ka1 kn1 kc1, .int .i64 a1]) (fun w' hw' => ?_) hS2 ?_
      ·have hc0 := cell_of_row w' _ 0 _ _ _ hw'; have hc1 := cell_of_row w' _ 1 _ _ _ hw'; have hc2 := cell_of_row w' _ 2 _ _ _ hw'; have hc3 := cell_of_row w' _ 3 _ _ _ hw'; have hc4 := cell_of_row w' _ 4 _ _ _ hw'; have hc5 := cell_of_row w' _ 5 _ _ _ hw'; have hc6 := cell_of_row w' _ 6 _ _ _ hw'; have hc7 := cell_of_row w' _ 7 _ _ _ hw'; have hc8 := cell_of_row w' _ 8 _ _ _ hw'; clear hw'; go_simp
      simp only [Act.put, sA, sB, sC]
      refine wpL_call (i := 8) (d := 109) (R := fun v w' => V2.grownBy w' none ∧ ∃ xa xc, v = .slice xa (lsC).length xc ∧ w'.ownsRow V2.heap.size 9 1 v (lsC).length ((lsC).map strV)) (by kernel_rfl) rfl (by kernel_rfl) (by kernel_rfl) (by kernel_rfl) ((hrC V2 (w6d.trans g2)).mono fun e w' he => by obtain ⟨v, rfl, ho, hg⟩ := he; obtain ⟨xa, xc, rfl⟩ := rowForm ho; exact ⟨_, rfl, hg, xa, xc, rfl, ho⟩) (fun v w' h => (h.1.block _ (gl hS2) (by simp)).trans hS2) (fun v V3 h => ?_)
      obtain ⟨g3, xb, xd, rfl, o3⟩ := h
      simp only [Act.put, sA, sB, sC]
      have hS3 := (g3.block _ (gl hS2) (by simp)).trans hS2
      refine wpL_call (i := 9) (d := 110) (R := fun v w' => v = .bool true ∧ ∃ k, w' = V3.drewN k) (by kernel_rfl) rfl (by kernel_rfl) (by kernel_rfl) (by kernel_rfl) ((same_any V3 0 V2.heap.size ua xb _ uc xd lsC rfl HLC.out (r2.kept (g2.trans g3) (by cases ua <;> simp [Value.ownBlock])) o3).mono fun e w' he => ⟨_, he.1, rfl, he.2⟩) (fun v w' h => by obtain ⟨_, k, rfl⟩ := h; exact hS3) (fun v V4 h => ?_)
      obtain ⟨rfl, k4, hk4⟩ := h
      have g4 : V0.grownBy V4 none := by rw [hk4]; exact gdrewN (g2.trans g3) _
      have hS4 := (g4.block _ (gl hS0) (by simp)).trans hS0
      clear hk4 o3 g3 hS3
      simp only [Act.put, sA, sB, sC]
      refine t1 10 111 (.bool false) hS4 ?_
      simp only [Act.put, sA, sB, sC]
      refine t1 11 112 (.bool false) hS4 ?_
      simp only [Act.put, sA, sB, sC]
      refine t1 12 113 (.bool false) hS4 ?_
      simp only [Act.put, sA, sB, sC]
      refine t2 13 114 (.agg #[.int .i64 f1, .int .i64 s1, .string ⟨nm1.toArray⟩, .int .i64 tk1, .int .i64 tl1, .int .i64 n1, .int .i64 m1, .slice ka1 kn1 kc1, .int .i64 a1]) (fun w' hw' => ?_) hS4 ?_
      ·have hc0 := cell_of_row w' _ 0 _ _ _ hw'; have hc1 := cell_of_row w' _ 1 _ _ _ hw'; have hc2 := cell_of_row w' _ 2 _ _ _ hw'; have hc3 := cell_of_row w' _ 3 _ _ _ hw'; have hc4 := cell_of_row w' _ 4 _ _ _ hw'; have hc5 := cell_of_row w' _ 5 _ _ _ hw'; have hc6 := cell_of_row w' _ 6 _ _ _ hw'; have hc7 := cell_of_row w' _ 7 _ _ _ hw'; have hc8 := cell_of_row w' _ 8 _ _ _ hw'; clear hw'; go_simp
      simp only [Act.put, sA, sB, sC]
      refine t2 15 116 (.agg #[.int .i64 f1, .int .i64 s1, .string ⟨nm1.toArray⟩, .int .i64 tk1, .int .i64 tl1, .int .i64 n1, .int .i64 m1, .slice ka1 kn1 kc1, .int .i64 a1]) (fun w' hw' => ?_) hS4 ?_
      ·have hc0 := cell_of_row w' _ 0 _ _ _ hw'; have hc1 := cell_of_row w' _ 1 _ _ _ hw'; have hc2 := cell_of_row w' _ 2 _ _ _ hw'; have hc3 := cell_of_row w' _ 3 _ _ _ hw'; have hc4 := cell_of_row w' _ 4 _ _ _ hw'; have hc5 := cell_of_row w' _ 5 _ _ _ hw'; have hc6 := cell_of_row w' _ 6 _ _ _ hw'; have hc7 := cell_of_row w' _ 7 _ _ _ hw'; have hc8 := cell_of_row w' _ 8 _ _ _ hw'; clear hw'; go_simp
      simp only [Act.put, sA, sB, sC]
      refine wpL_call (i := 14) (d := 115) (R := fun v w' => v = .bool M ∧ V4.grownBy w' none) (by kernel_rfl) rfl (by kernel_rfl) (by kernel_rfl) (by kernel_rfl) ((hpM V4 (w6d.trans g4)).mono fun e w' he => ⟨_, he.1, rfl, he.2⟩) (fun v w' h => (h.2.block _ (gl hS4) (by simp)).trans hS4) (fun v V5 h => ?_)
      obtain ⟨rfl, g5⟩ := h
      simp only [Act.put, sA, sB, sC]
      have hS5 := (g5.block _ (gl hS4) (by simp)).trans hS4
      refine wpL_call (i := 16) (d := 117) (R := fun v w' => v = .bool M ∧ V5.grownBy w' none) (by kernel_rfl) rfl (by kernel_rfl) (by kernel_rfl) (by kernel_rfl) ((hrM V5 (w6d.trans (g4.trans g5))).mono fun e w' he => ⟨_, he.1, rfl, he.2⟩) (fun v w' h => (h.2.block _ (gl hS5) (by simp)).trans hS5) (fun v V6 h => ?_)
      obtain ⟨rfl, g6⟩ := h
      simp only [Act.put, sA, sB, sC]
      have hS6 := (g6.block _ (gl hS5) (by simp)).trans hS5
      refine t2 17 118 (.bool false) (fun w' hw' => ?_) hS6 ?_
      ·cases M <;> kernel_rfl
      simp only [Act.put, sA, sB, sC]
      refine t1 18 119 (.bool false) hS6 ?_
      simp only [Act.put, sA, sB, sC]
      have HE := ld (w6d.trans (g4.trans (g5.trans g6)))
      clear g2 g4 g5 g6 hS0 hS2 hS4 hS5 hS6 r1 r2
      refine wpL_done (by kernel_rfl) ?_ _
      go_wp2
      exact ⟨⟨u + 1, by omega, by go_num, ld HE.out⟩, by simp [intOf]; omega⟩
     | cons it0 ir =>
     have hq2 : decide ((0 : Int) < (jq : Int)) = true := by rw [decide_eq_true_iff, hjq, hi0, List.length_cons]; omega
     have hqq : (0 : Int) < (jq : Int) := by rw [hjq, hi0, List.length_cons]; omega
     obtain ⟨nsq, xq, ssq, iq⟩ := it0
     have hi2 : n0.items[0]? = some (.mk nsq xq ssq iq) := by rw [hi0]; rfl
     obtain ⟨_, hsq⟩ := HFQ.out.at (t := 0) (n := n0) rfl hi2
     obtain ⟨gj, _, _, _, ka2, kn2, kc2, _, _, _, rfl, _, hkq, _, hcq⟩ := itemAt hiq hi2
     obtain ⟨y, hy⟩ : ∃ y : EV wB (fun _ => true), y = ⟨xq, ka2, kn2, kc2, hkq, by simp⟩ := ⟨_, rfl⟩
     have hpz := parts_sz xq
     have hqU := fun V (hV : wB.grownBy V none) => pUses_any wB (fun _ => true) y V hV (by rw [hy]; show (Nam.parts xq).length ≤ _; omega)
     have hqC := fun V (hV : wB.grownBy V none) => pCalls_any wB (fun _ => true) y V hV (by rw [hy]; show (Nam.parts xq).length ≤ _; omega)
     have hyx : y.x = xq := by rw [hy]
     have hye : y.enc = #[.agg (expCells xq (.slice ka2 kn2 kc2)).toArray] := by rw [hy]; rfl
     have hlU2 : (((Nam.parts xq).filter fun z => Nam.uses z.form).map Gram.Exp.name).length ≤ 1000000 := by rw [List.length_map]; exact Nat.le_trans (List.length_filter_le _ _) (by omega)
     have hlC2 : (((Nam.parts xq).filter fun z => Nam.calls z.form).map Gram.Exp.name).length ≤ 1000000 := by rw [List.length_map]; exact Nat.le_trans (List.length_filter_le _ _) (by omega)
     rw [hyx, hye] at hqU hqC
     generalize ((Nam.parts xq).filter fun z => Nam.uses z.form).map Gram.Exp.name = RU at hqU hlU2
     generalize ((Nam.parts xq).filter fun z => Nam.calls z.form).map Gram.Exp.name = RC at hqC hlC2
     clear hyx hye hy y hpz hsq hi2 hkq hi0 hjq hiq w4
     cases xq with
     | mk f2 s2 nm2 tk2 tl2 n2 m2 ks2 a2 =>
     simp only [expCells] at hqU hqC hcq
     have y0 : w6.cell? ⟨gj, 1, none⟩ = _ := H6.out.1.cell (hcq 1 _ rfl) (by simp)
     have y1 : w6.cell? ⟨gj, 2, none⟩ = _ := H6.out.1.cell (hcq 2 _ rfl) (by simp)
     have y2 : w6.cell? ⟨gj, 3, none⟩ = _ := H6.out.1.cell (hcq 3 _ rfl) (by simp)
     have y3 : w6.cell? ⟨gj, 4, none⟩ = _ := H6.out.1.cell (hcq 4 _ rfl) (by simp)
     have y4 : w6.cell? ⟨gj, 5, none⟩ = _ := H6.out.1.cell (hcq 5 _ rfl) (by simp)
     have y5 : w6.cell? ⟨gj, 6, none⟩ = _ := H6.out.1.cell (hcq 6 _ rfl) (by simp)
     have y6 : w6.cell? ⟨gj, 7, none⟩ = _ := H6.out.1.cell (hcq 7 _ rfl) (by simp)
     have y7 : w6.cell? ⟨gj, 8, none⟩ = _ := H6.out.1.cell (hcq 8 _ rfl) (by simp)
     have y8 : w6.cell? ⟨gj, 9, none⟩ = _ := H6.out.1.cell (hcq 9 _ rfl) (by simp)
     clear hcq
     refine ld ?_
     go_wp2_with (go_at_call 10; refine (hqU _ H6.out.1).mono ?_; rintro e w7 ⟨v7, rfl, o7, g7⟩; obtain ⟨za, zc, rfl⟩ := rowForm o7; refine Hid.out ?_)
     have hwp := wipe_any w7 _ za _ zc _ hlU2 o7
     have hlt7 := o7.lt
     refine ld ?_
     go_wp2_with (go_at_call 12; refine hwp.mono ?_; rintro e w8 ⟨rfl, g8⟩; refine Hid.out ?_)
     have G8 := ld (show w6.grownBy w8 none from g7.andThen g8 (fun j e => .inl (hlt7 j e).1))
     clear hwp hlt7 o7 g7 g8 hqU
     have qb' := G8.out.cell qb (by simp)
     have qb4' := G8.out.cell qb4 (by simp)
     have y0' := G8.out.cell y0 (by simp)
     have y1' := G8.out.cell y1 (by simp)
     have y2' := G8.out.cell y2 (by simp)
     have y3' := G8.out.cell y3 (by simp)
     have y4' := G8.out.cell y4 (by simp)
     have y5' := G8.out.cell y5 (by simp)
     have y6' := G8.out.cell y6 (by simp)
     have y7' := G8.out.cell y7 (by simp)
     have y8' := G8.out.cell y8 (by simp)
     clear qb qb4 y0 y1 y2 y3 y4 y5 y6 y7 y8
     have H8 := HON.out w8 G8.out
     refine ld ?_
     go_wp2_with (go_at_call 11; refine (hqC _ H8.out.1).mono ?_; rintro e w9 ⟨v9, rfl, o9, g9⟩; obtain ⟨ya, yc, rfl⟩ := rowForm o9; refine Hid.out ?_)
     have hwp := wipe_any w9 _ ya _ yc _ hlC2 o9
     have hlt9 := o9.lt
     refine ld ?_
     go_wp2_with (go_at_call 12; refine hwp.mono ?_; rintro e w10 ⟨rfl, g10⟩; refine Hid.out ?_)
     have HW := HON.out w10 (G8.out.trans (g9.andThen g10 (fun j e => .inl (hlt9 j e).1)))
     clear hwp hlt9 o9 g9 g10 hqC qb' qb4' y0' y1' y2' y3' y4' y5' y6' y7' y8' H8 G8
     refine ld ?_
     have w10d : wB.grownBy w10.drew none := gdrew HW.out.1
     have hS0 : (fun W' => W'.heap[wr.heap.size]? = some (.cells #[.int .i64 f1, .int .i64 s1, .string ⟨nm1.toArray⟩, .int .i64 tk1, .int .i64 tl1, .int .i64 n1, .int .i64 m1, .slice ka1 kn1 kc1, .int .i64 a1] 37 (0, 0))) w10.drew := HW.out.2.1
     have r1 : w10.drew.ownsRow 0 9 1 (.slice va (lsU).length vc) (lsU).length ((lsU).map strV) := HW.out.2.2.1
     have r2 : w10.drew.ownsRow 0 9 1 (.slice ua (lsC).length uc) (lsC).length ((lsC).map strV) := HW.out.2.2.2
     go_wp2
     refine wp_region_L2 (S := fun W' => W'.heap[wr.heap.size]? = some (.cells #[.int .i64 f1, .int .i64 s1, .string ⟨nm1.toArray⟩, .int .i64 tk1, .int .i64 tl1, .int .i64 n1, .int .i64 m1, .slice ka1 kn1 kc1, .int .i64 a1] 37 (0, 0))) (by kernel_rfl) ?_
     generalize w10.drew = V0 at w10d hS0 r1 r2 ⊢
     refine t1 0 101 (.slice va (lsU).length vc) hS0 ?_
     simp only [Act.put, sA, sB, sC]
     refine t2 1 102 (.agg #[.int .i64 f1, .int .i64 s1, .string ⟨nm1.toArray⟩, .int .i64 tk1, .int .i64 tl1, .int .i64 n1, .int .i64 m1, .slice ka1 kn1 kc1, .int .i64 a1]) (fun w' hw' => ?_) hS0 ?_
     ·have hc0 := cell_of_row w' _ 0 _ _ _ hw'; have hc1 := cell_of_row w' _ 1 _ _ _ hw'; have hc2 := cell_of_row w' _ 2 _ _ _ hw'; have hc3 := cell_of_row w' _ 3 _ _ _ hw'; have hc4 := cell_of_row w' _ 4 _ _ _ hw'; have hc5 := cell_of_row w' _ 5 _ _ _ hw'; have hc6 := cell_of_row w' _ 6 _ _ _ hw'; have hc7 := cell_of_row w' _ 7 _ _ _ hw'; have hc8 := cell_of_row w' _ 8 _ _ _ hw'; clear hw'; go_simp
     simp only [Act.put, sA, sB, sC]
     refine wpL_call (i := 2) (d := 103) (R := fun v w' => V0.grownBy w' none ∧ ∃ xa xc, v = .slice xa (lsU).length xc ∧ w'.ownsRow V0.heap.size 9 1 v (lsU).length ((lsU).map strV)) (by kernel_rfl) rfl (by kernel_rfl) (by kernel_rfl) (by kernel_rfl) ((hrU V0 w10d).mono fun e w' he => by obtain ⟨v, rfl, ho, hg⟩ := he; obtain ⟨xa, xc, rfl⟩ := rowForm ho; exact ⟨_, rfl, hg, xa, xc, rfl, ho⟩) (fun v w' h => (h.1.block _ (gl hS0) (by simp)).trans hS0) (fun v V1 h => ?_)
     obtain ⟨g1, xa, xc, rfl, o1⟩ := h
     simp only [Act.put, sA, sB, sC]
     have hS1 := (g1.block _ (gl hS0) (by simp)).trans hS0
     have b1 := g1.size
     refine wpL_call (i := 3) (d := 104) (R := fun v w' => v = .bool true ∧ ∃ k, w' = V1.drewN k) (by kernel_rfl) rfl (by kernel_rfl) (by kernel_rfl) (by kernel_rfl) ((same_any V1 0 V0.heap.size va xa _ vc xc lsU rfl HLU.out (r1.kept g1 (by cases va <;> simp [Value.ownBlock])) o1).mono fun e w' he => ⟨_, he.1, rfl, he.2⟩) (fun v w' h => by obtain ⟨_, k, rfl⟩ := h; exact hS1) (fun v V2 h => ?_)
     obtain ⟨rfl, k2, hk2⟩ := h
     have g2 : V0.grownBy V2 none := by rw [hk2]; exact gdrewN g1 _
     have hS2 := (g2.block _ (gl hS0) (by simp)).trans hS0
     clear hk2 o1 g1 hS1 b1
     simp only [Act.put, sA, sB, sC]
     refine t1 4 105 (.bool false) hS2 ?_
     simp only [Act.put, sA, sB, sC]
     refine t1 5 106 (.bool false) hS2 ?_
     simp only [Act.put, sA, sB, sC]
     refine t1 6 107 (.slice ua (lsC).length uc) hS2 ?_
     simp only [Act.put, sA, sB, sC]
     refine t2 7 108 (.agg #[.int .i64 f1, .int .i64 s1, .string ⟨nm1.toArray⟩, .int .i64 tk1, .int .i64 tl1, .int .i64 n1, .int .i64 m1, .slice ka1 kn1 kc1, .int .i64 a1]) (fun w' hw' => ?_) hS2 ?_
     ·have hc0 := cell_of_row w' _ 0 _ _ _ hw'; have hc1 := cell_of_row w' _ 1 _ _ _ hw'; have hc2 := cell_of_row w' _ 2 _ _ _ hw'; have hc3 := cell_of_row w' _ 3 _ _ _ hw'; have hc4 := cell_of_row w' _ 4 _ _ _ hw'; have hc5 := cell_of_row w' _ 5 _ _ _ hw'; have hc6 := cell_of_row w' _ 6 _ _ _ hw'; have hc7 := cell_of_row w' _ 7 _ _ _ hw'; have hc8 := cell_of_row w' _ 8 _ _ _ hw'; clear hw'; go_simp
     simp only [Act.put, sA, sB, sC]
     refine wpL_call (i := 8) (d := 109) (R := fun v w' => V2.grownBy w' none ∧ ∃ xa xc, v = .slice xa (lsC).length xc ∧ w'.ownsRow V2.heap.size 9 1 v (lsC).length ((lsC).map strV)) (by kernel_rfl) rfl (by kernel_rfl) (by kernel_rfl) (by kernel_rfl) ((hrC V2 (w10d.trans g2)).mono fun e w' he => by obtain ⟨v, rfl, ho, hg⟩ := he; obtain ⟨xa, xc, rfl⟩ := rowForm ho; exact ⟨_, rfl, hg, xa, xc, rfl, ho⟩) (fun v w' h => (h.1.block _ (gl hS2) (by simp)).trans hS2) (fun v V3 h => ?_)
     obtain ⟨g3, xb, xd, rfl, o3⟩ := h
     simp only [Act.put, sA, sB, sC]
     have hS3 := (g3.block _ (gl hS2) (by simp)).trans hS2
     refine wpL_call (i := 9) (d := 110) (R := fun v w' => v = .bool true ∧ ∃ k, w' = V3.drewN k) (by kernel_rfl) rfl (by kernel_rfl) (by kernel_rfl) (by kernel_rfl) ((same_any V3 0 V2.heap.size ua xb _ uc xd lsC rfl HLC.out (r2.kept (g2.trans g3) (by cases ua <;> simp [Value.ownBlock])) o3).mono fun e w' he => ⟨_, he.1, rfl, he.2⟩) (fun v w' h => by obtain ⟨_, k, rfl⟩ := h; exact hS3) (fun v V4 h => ?_)
     obtain ⟨rfl, k4, hk4⟩ := h
     have g4 : V0.grownBy V4 none := by rw [hk4]; exact gdrewN (g2.trans g3) _
     have hS4 := (g4.block _ (gl hS0) (by simp)).trans hS0
     clear hk4 o3 g3 hS3
     simp only [Act.put, sA, sB, sC]
     refine t1 10 111 (.bool false) hS4 ?_
     simp only [Act.put, sA, sB, sC]
     refine t1 11 112 (.bool false) hS4 ?_
     simp only [Act.put, sA, sB, sC]
     refine t1 12 113 (.bool false) hS4 ?_
     simp only [Act.put, sA, sB, sC]
     refine t2 13 114 (.agg #[.int .i64 f1, .int .i64 s1, .string ⟨nm1.toArray⟩, .int .i64 tk1, .int .i64 tl1, .int .i64 n1, .int .i64 m1, .slice ka1 kn1 kc1, .int .i64 a1]) (fun w' hw' => ?_) hS4 ?_
     ·have hc0 := cell_of_row w' _ 0 _ _ _ hw'; have hc1 := cell_of_row w' _ 1 _ _ _ hw'; have hc2 := cell_of_row w' _ 2 _ _ _ hw'; have hc3 := cell_of_row w' _ 3 _ _ _ hw'; have hc4 := cell_of_row w' _ 4 _ _ _ hw'; have hc5 := cell_of_row w' _ 5 _ _ _ hw'; have hc6 := cell_of_row w' _ 6 _ _ _ hw'; have hc7 := cell_of_row w' _ 7 _ _ _ hw'; have hc8 := cell_of_row w' _ 8 _ _ _ hw'; clear hw'; go_simp
     simp only [Act.put, sA, sB, sC]
     refine t2 15 116 (.agg #[.int .i64 f1, .int .i64 s1, .string ⟨nm1.toArray⟩, .int .i64 tk1, .int .i64 tl1, .int .i64 n1, .int .i64 m1, .slice ka1 kn1 kc1, .int .i64 a1]) (fun w' hw' => ?_) hS4 ?_
     ·have hc0 := cell_of_row w' _ 0 _ _ _ hw'; have hc1 := cell_of_row w' _ 1 _ _ _ hw'; have hc2 := cell_of_row w' _ 2 _ _ _ hw'; have hc3 := cell_of_row w' _ 3 _ _ _ hw'; have hc4 := cell_of_row w' _ 4 _ _ _ hw'; have hc5 := cell_of_row w' _ 5 _ _ _ hw'; have hc6 := cell_of_row w' _ 6 _ _ _ hw'; have hc7 := cell_of_row w' _ 7 _ _ _ hw'; have hc8 := cell_of_row w' _ 8 _ _ _ hw'; clear hw'; go_simp
     simp only [Act.put, sA, sB, sC]
     refine wpL_call (i := 14) (d := 115) (R := fun v w' => v = .bool M ∧ V4.grownBy w' none) (by kernel_rfl) rfl (by kernel_rfl) (by kernel_rfl) (by kernel_rfl) ((hpM V4 (w10d.trans g4)).mono fun e w' he => ⟨_, he.1, rfl, he.2⟩) (fun v w' h => (h.2.block _ (gl hS4) (by simp)).trans hS4) (fun v V5 h => ?_)
     obtain ⟨rfl, g5⟩ := h
     simp only [Act.put, sA, sB, sC]
     have hS5 := (g5.block _ (gl hS4) (by simp)).trans hS4
     refine wpL_call (i := 16) (d := 117) (R := fun v w' => v = .bool M ∧ V5.grownBy w' none) (by kernel_rfl) rfl (by kernel_rfl) (by kernel_rfl) (by kernel_rfl) ((hrM V5 (w10d.trans (g4.trans g5))).mono fun e w' he => ⟨_, he.1, rfl, he.2⟩) (fun v w' h => (h.2.block _ (gl hS5) (by simp)).trans hS5) (fun v V6 h => ?_)
     obtain ⟨rfl, g6⟩ := h
     simp only [Act.put, sA, sB, sC]
     have hS6 := (g6.block _ (gl hS5) (by simp)).trans hS5
     refine t2 17 118 (.bool false) (fun w' hw' => ?_) hS6 ?_
     ·cases M <;> kernel_rfl
     simp only [Act.put, sA, sB, sC]
     refine t1 18 119 (.bool false) hS6 ?_
     simp only [Act.put, sA, sB, sC]
     have HE := ld (w10d.trans (g4.trans (g5.trans g6)))
     clear g2 g4 g5 g6 hS0 hS2 hS4 hS5 hS6 r1 r2
     refine wpL_done (by kernel_rfl) ?_ _
     go_wp2
     exact ⟨⟨u + 1, by omega, by go_num, ld HE.out⟩, by simp [intOf]; omega⟩
    ·have e : u = jn := by omega
     subst e
     go_wp2
     exact ⟨⟨t + 1, by omega, by go_num, HR2⟩, by simp [intOf]; omega⟩
  ·have e : t = L := by omega
   subst e
   go_wp2
   go_ret
   exact ⟨rfl, HG.out.trans HR.out⟩
theorem nu_walk (s o : ByteArray) (w : World) : Calls Tryz.prog 3 #[.string s, .string o] w fun e w' => e = .returned (.bool true) ∧ w.grownBy w' none := by
 rcases prog5_or s with ⟨l, hf, hs⟩ | hs
 ·rcases prog5_or o with ⟨lq, hfq, ho⟩ | ho
  ·exact nu_ok s o w l hf hs true lq hfq ho
  ·refine nu_ok s o w l hf hs false [] (fun n hn => by cases hn) (fun w => (ho w).mono ?_)
   rintro e w' ⟨rfl, hg⟩
   exact ⟨_, _, _, rfl, (GrowD.nil w' 0 31 6).rep, hg⟩
 ·exact nu_bad s o w hs
end Go.Proofs.YtonafedbehnneaaGreat
