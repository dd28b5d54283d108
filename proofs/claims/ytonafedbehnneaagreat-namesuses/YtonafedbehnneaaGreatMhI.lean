/- My texts RpY RpZ RqA RqH NmM NmA NmB NmC NmD, joined. -/
import Derived.Test.YtonafedbehnneaaGreatMhH
import Derived.Test.YtonafedbehnneaaGreatMhB
import Derived.Test.YtonafedbehnneaaGreatProg
import Derived.Maps.OwnSet
import Derived.Maps.RangeWalk
import Derived.WalkKit
import Derived.Lib.Hide
import Derived.Test.YtonafedbehnneaaGreatMhF
import Derived.OwnWalk
import Derived.Deep.RegionHeld3
import Derived.BigQuiet
set_option linter.unusedVariables false
set_option linter.unusedSimpArgs false
set_option linter.unnecessarySimpa false
set_option linter.unusedSectionVars false
set_option maxHeartbeats 12800000
set_option maxRecDepth 20000
namespace Go.Proofs.YtonafedbehnneaaGreat
open Go.RowKit Go.Maps Go.WideMaps
structure Sb (w0 w : World) (b g cap : Nat) (T : List Lex.Tk) (q : Nat) (s : Gram.Rf.St) (acc : List Gram.State) (v : Value) (ya : Int) : Prop where
 p : Rp w b g cap T s
 g' : w0.grownBy w (some b)
 row : w.heap[q]? = some (.cells #[.slice none 0 0, .int .i64 0, .int .i64 0, .string ⟨#[]⟩, .int .i64 0, .int .i64 0, .int .i64 0, .int .i64 0, .slice none 0 0, .int .i64 0, v, .int .i64 ya] 40 (0, 0))
 gro : GrowD w (q + 1) 119 6 (acc.map stateD) v
theorem Sb.ql {w0 w : World} {b g cap : Nat} {T : List Lex.Tk} {q : Nat} {s : Gram.Rf.St} {acc : List Gram.State} {v : Value} {ya : Int} (h : Sb w0 w b g cap T q s acc v ya) : q < w.heap.size := (Array.getElem?_eq_some_iff.1 h.row).1
theorem Sb.on {w0 w w' : World} {b g cap : Nat} {T : List Lex.Tk} {q : Nat} {s s' : Gram.Rf.St} {acc : List Gram.State} {v : Value} {ya : Int} (h : Sb w0 w b g cap T q s acc v ya) (hq : b < q) (hg : w.grownBy w' (some b)) (hp : Rp w' b g cap T s') : Sb w0 w' b g cap T q s' acc v ya :=
 ⟨hp, h.g'.trans hg, (hg.block q h.ql (by simp; omega)).trans h.row, h.gro.keptB hg (by omega)⟩
section
variable (b g cap : Nat) (T : List Lex.Tk)
theorem ritem_auto (f : Nat) (hC : ∀ f', f' < f → CSt b g cap T f') (s : Gram.Rf.St) (w : World) (h : Rp w b g cap T s) (qa : Gram.Rf.is T [97, 117, 116, 111, 109, 97, 116, 111, 110] s = true) (hf : (Gram.Rf.item T (f + 1) s).isSome = true) :
  Calls Tryz.prog 79 #[.pointer (some ⟨b, 0, none⟩)] w fun e w' => r1Post itemD w b g cap T (Gram.Rf.item T (f + 1) s) e w' := by
 obtain ⟨it, hit, hz, hsz, hby⟩ := infoP info_State
 have hbw := h.bl
 have hmost := h.toks.most
 have hi := h.nextIs qa
 have hP0 := h.alloc ritm0
 obtain ⟨R, hR⟩ : ∃ R, R = Gram.Rf.item T (f + 1) s := ⟨_, rfl⟩
 rw [← hR] at hf ⊢
 rw [Gram.Rf.item, qa, if_pos rfl] at hR
 have hT := rtok_any b g cap T s _ hP0
 generalize Gram.tk T s.i = y at hT hR
 obtain ⟨yk, yt, yn, yu, ya⟩ := y
 have hfd := fldAt ⟨yk, yt, yn, yu, ya⟩
 simp only [tokV] at hT hfd
 have HR := ld hR
 clear hR
 have hIs := fun wx (hx : Rp wx b g cap T s) => ris_any b g cap T s ⟨#[97, 117, 116, 111, 109, 97, 116, 111, 110]⟩ wx hx
 rw [show ((⟨#[97, 117, 116, 111, 109, 97, 116, 111, 110]⟩ : ByteArray)).data.toList = [97, 117, 116, 111, 109, 97, 116, 111, 110] from rfl, qa] at hIs
 have HH := ld h
 have HP0 := ld hP0
 clear h hP0
 go_enter Tryz.func79, Tryz.ntmps79
 go_wp2_with (go_at_call 45; refine hT.mono ?_; rintro e w1 ⟨rfl, hg1⟩; refine Hid.out ?_)
 have hs1 := hg1.size
 have hNb : Sb (w.alloc ritm0) (w1.alloc (.cells #[.slice none 0 0, .int .i64 0, .int .i64 0, .string ⟨#[]⟩, .int .i64 0, .int .i64 0, .int .i64 0, .int .i64 0, .slice none 0 0, .int .i64 0, .slice none 0 0, .int .i64 (ya : Int)] 40)) b g cap T w1.heap.size s [] (.slice none 0 0) (ya : Int) :=
  ⟨(HP0.out.kept hg1).alloc _, galloc (grown_some hg1 b) _, heap_alloc_new w1 _, GrowD.nil _ _ _ _⟩
 rw [World.size_alloc] at hs1
 clear hT hg1
 have hbq : b < w1.heap.size := by omega
 have hPq := hNb.p
 have HNb := ld hNb
 clear hNb
 refine ld ?_
 go_wp2_with (go_at_call 46; refine (hIs _ hPq).mono ?_; rintro e wi ⟨rfl, hgi⟩; refine Hid.out ?_)
 have hN1 := HNb.out.on hbq (grown_some hgi b) (hPq.kept hgi)
 have p4 := hN1.p.st.c4
 have f4 := hN1.p.st.fr 4
 have q1 := hN1.p.st.c1
 have fr1 := hN1.p.st.fr 1
 have hKo := ropened_w hN1.p (wrap64 (s.n + 1))
 have hN2 : Sb (w.alloc ritm0) (wi.setCell ⟨b, 4, none⟩ (.int .i64 (wrap64 (s.n + 1)))) b g cap T w1.heap.size (Gram.Rf.opened s) [] (.slice none 0 0) (ya : Int) := hN1.on hbq hKo.2 hKo.1
 clear hKo hN1 HNb hPq hgi hIs
 by_cases hn : 40 < (Gram.Rf.opened s).n
 ·have hd : decide (40 < wrap64 (s.n + 1)) = true := by rw [decide_eq_true_iff]; exact hn
  have hF := rfail_any b g cap T (Gram.Rf.opened s) 2 _ hN2.p
  have HE : Hid (R = some (.mk [] Gram.zeroExp [] (ya : Int), Gram.Rf.fail T 2 (Gram.Rf.opened s))) := by show _ = _; rw [HR.out, if_pos hn]
  have HN2 := ld hN2
  clear hN2 HR hn
  generalize Gram.Rf.fail T 2 (Gram.Rf.opened s) = t at hF HE
  generalize Gram.Rf.opened s = so at HN2
  generalize s.n = n at p4 hd HN2 hF
  generalize hv : wrap64 (n + 1) = v at hd HN2 hF
  refine ld ?_
  go_wp2_with (go_at_call 47; refine hF.mono ?_; rintro e w3 ⟨rfl, hP3, hg3⟩; refine Hid.out ?_)
  have hXX := HN2.out.on hbq hg3 hP3
  obtain ⟨z0, z1, z2, z3, z4, z5, z6, z7, z8, z9, z10, z11, zf⟩ := rcells_12 hXX.row
  have hS : Sr (w.alloc ritm0) w3 b g cap T w1.heap.size t 40 [.l 9 1 [], .c (.int .i64 0), .c (.int .i64 0), .c (.string ⟨#[]⟩), .c (.int .i64 0), .c (.int .i64 0), .c (.int .i64 0), .c (.int .i64 0), .l 37 9 [], .c (.int .i64 0), .l 119 6 ([].map stateD), .c (.int .i64 (ya : Int))] [.slice none 0 0, .int .i64 0, .int .i64 0, .string ⟨#[]⟩, .int .i64 0, .int .i64 0, .int .i64 0, .int .i64 0, .slice none 0 0, .int .i64 0, .slice none 0 0, .int .i64 (ya : Int)] := Sr.make ⟨s, HP0.out⟩ hP3 hXX.g' (by simp; omega) hXX.row (.cons (RepC.nil _ _ _ _ _) (.cons (.c _) (.cons (.c _) (.cons (.c _) (.cons (.c _) (.cons (.c _) (.cons (.c _) (.cons (.c _) (.cons (RepC.nil _ _ _ _ _) (.cons (.c _) (.cons hXX.gro.rep (.cons (.c _) .nil))))))))))))
  clear hXX HN2 hP3 hg3 hF p4 f4 hd
  have hgA := hS.gr
  have HSE := ld hS
  clear hS
  refine ld ?_
  go_wp2_with (with_reducible refine hold_st 2 ?_)
  refine ld ?_
  refine sg ((hgA.block w.heap.size (by simp) (by simp; omega)).trans (heap_alloc_new w ritm0)) ?_
  intro w7 hh7 hg7
  go_wp2
  (try simp only [Exit.inBlock, Exit.then])
  refine br hh7 Tryz.underlying40 ?_
  have hG : w.grownBy w7 (some b) := ((grown_some (ga w ritm0 none) b).trans hgA).andThen hg7 (fun j e => .inl (by cases e; exact Nat.le_refl _))
  obtain ⟨hkk, hss⟩ := HSE.out.ends hg7 (by simp) (by omega)
  rw [HE.out]
  refine ⟨_, rfl, ?_, HH.out.to hG hss HSE.out.pa.lt, hG⟩
  simpa only [itemD, Gram.zeroExp, expD, expsD, statesD_map, List.map_nil, List.cons_append, List.nil_append] using hkk
 have hd : decide (40 < wrap64 (s.n + 1)) = false := by rw [decide_eq_false_iff_not]; exact hn
 have HR1 : Hid (R = Gram.Rf.bindS (Gram.Rf.states T f [] (Gram.Rf.adv (Gram.Rf.opened s))) fun l s' => some (.mk [] Gram.zeroExp l (ya : Int), Gram.Rf.closed (Gram.Rf.take T [101, 110, 100] s'))) := by show _ = _; rw [HR.out, if_neg hn]
 clear HR hn
 have hA := radv_w hN2.p hi
 have hN3 := hN2.on hbq hA.2 hA.1
 have HN3 := ld hN3
 clear hN3 hA hN2
 have HS9 : Hid ((Gram.Rf.opened s).i = s.i) := ld rfl
 rw [HS9.out] at HN3
 generalize hso : Gram.Rf.adv (Gram.Rf.opened s) = so at HN3 HR1
 generalize hnn : s.n = n at p4 hd HN3
 generalize hv : wrap64 (n + 1) = v at hd HN3
 clear HS9 hso hnn
 refine ld ?_
 go_wp2
 go_loopg [] f (fun (f' : Nat) (wr : World) => ∃ (acc : List Gram.State) (s' : Gram.Rf.St) (pa : Option Addr) (pn pc : Nat), f' ≤ f ∧ acc.length ≤ 16 ∧ Hid (Sb (w.alloc ritm0) wr b g cap T w1.heap.size s' acc (.slice pa pn pc) (ya : Int) ∧ Gram.Rf.states T f' acc s' = Gram.Rf.states T f [] so))
 case atStart => exact ⟨[], so, none, 0, 0, Nat.le_refl _, by simp, ld ⟨HN3.out, rfl⟩⟩
 case round =>
  obtain ⟨acc, s', pa, pn, pc, hff, ha16, HG⟩ := hrel
  obtain ⟨hNb, hL⟩ := HG.out
  clear HG HN3 p4 f4 q1 fr1 hd hv
  rcases Nat.eq_zero_or_pos gk with hz0 | hz0
  ·rw [hz0] at hL; rw [HR1.out, ← hL] at hf; exact absurd hf (by simp [Gram.Rf.states, Gram.Rf.bindS])
  obtain ⟨f', hfe⟩ : ∃ f', gk = f' + 1 := ⟨gk - 1, by omega⟩
  subst hfe
  rw [Gram.Rf.states] at hL
  have hP := hNb.p
  have p2 := hP.st.c2
  have hlf : ∀ (ty : TypeId) (wx : World), (Builtin.len_ #[38] ty #[.slice pa pn pc]).run Tryz.prog wx = .ok (.int .i64 (acc.length : Int)) wx := by
   obtain ⟨xs, ho, _⟩ := hNb.gro
   rw [List.length_map] at ho
   exact fun ty wx => len_State ho ty wx
  have HNb := ld hNb
  clear hNb
  by_cases he : s'.e = 0
  ·have b0 : (s'.e == 0) = true := by rw [beq_iff_eq]; exact he
   rw [if_pos he] at hL
   have hIs := ris_any b g cap T s' ⟨#[115, 116, 97, 116, 101]⟩ wr hP
   rw [show ((⟨#[115, 116, 97, 116, 101]⟩ : ByteArray)).data.toList = [115, 116, 97, 116, 101] from rfl] at hIs
   clear he
   cases hq : Gram.Rf.is T [115, 116, 97, 116, 101] s' with
   | false =>
    rw [hq] at hIs hL
    rw [if_neg (by decide)] at hL
    by_cases hl0 : acc.length = 0
    ·rw [if_pos hl0] at hL
     have HTx : Hid (R = some (.mk [] Gram.zeroExp acc (ya : Int), Gram.Rf.closed (Gram.Rf.take T [101, 110, 100] (Gram.Rf.fail T 12 s')))) := by show _ = _; rw [HR1.out, ← hL]; rfl
     have hfl := fun wx (hx : Rp wx b g cap T s') => rfail_any b g cap T s' 12 wx hx
     generalize Gram.Rf.fail T 12 s' = t at HTx hfl
     have hlb : (((acc.length : Nat) : Int) == 0) = true := by rw [beq_iff_eq]; omega
     clear hL HR1
     generalize s'.e = e0 at p2 b0
     go_wp2_with (go_at_call 46; refine hIs.mono ?_; rintro e w2 ⟨rfl, hg2⟩; refine Hid.out ?_)
     have hN2 := HNb.out.on hbq (grown_some hg2 b) (hP.kept hg2)
     obtain ⟨z0, z1, z2, z3, z4, z5, z6, z7, z8, z9, z10, z11, zf⟩ := rcells_12 hN2.row
     refine ld ?_
     go_wp2_with (go_at_call 47; refine (hfl _ hN2.p).mono ?_; rintro e w3 ⟨rfl, hP3, hg3⟩; refine Hid.out ?_)
     have HNx := ld (hN2.on hbq hg3 hP3)
     clear hN2 z0 z1 z2 z3 z4 z5 z6 z7 z8 z9 z10 z11 zf HNb hP3 hg3 hfl hIs hg2 hP
     have hK := rtake_any b g cap T t ⟨#[101, 110, 100]⟩ _ HNx.out.p
     rw [show ((⟨#[101, 110, 100]⟩ : ByteArray)).data.toList = [101, 110, 100] from rfl] at hK
     generalize Gram.Rf.take T [101, 110, 100] t = t9 at hK HTx
     refine ld ?_
     go_wp2_with (go_at_call 64; refine hK.mono ?_; rintro e wx ⟨rfl, hPx, hgx⟩; refine Hid.out ?_)
     have hXX := HNx.out.on hbq hgx hPx
     have p4 := hPx.st.c4
     have f4 := hPx.st.fr 4
     have hKo := ropened_w hPx (wrap64 (t9.n - 1))
     have hXX := hXX.on hbq hKo.2 hKo.1
     generalize hnn : t9.n = nn at p4 hXX hKo
     generalize hvv : wrap64 (nn - 1) = vv at hXX hKo
     have HCL : Hid (Gram.Rf.closed t9 = { t9 with n := vv }) := ld (by unfold Gram.Rf.closed; rw [hnn, hvv])
     have HE9 : Hid (R = some (.mk [] Gram.zeroExp acc (ya : Int), { t9 with n := vv })) := by show _ = _; rw [HTx.out, HCL.out]
     obtain ⟨z0, z1, z2, z3, z4, z5, z6, z7, z8, z9, z10, z11, zf⟩ := rcells_12 hXX.row
     have hS : Sr (w.alloc ritm0) (wx.setCell ⟨b, 4, none⟩ (.int .i64 vv)) b g cap T w1.heap.size { t9 with n := vv } 40 [.l 9 1 [], .c (.int .i64 0), .c (.int .i64 0), .c (.string ⟨#[]⟩), .c (.int .i64 0), .c (.int .i64 0), .c (.int .i64 0), .c (.int .i64 0), .l 37 9 [], .c (.int .i64 0), .l 119 6 (acc.map stateD), .c (.int .i64 (ya : Int))] [.slice none 0 0, .int .i64 0, .int .i64 0, .string ⟨#[]⟩, .int .i64 0, .int .i64 0, .int .i64 0, .int .i64 0, .slice none 0 0, .int .i64 0, .slice pa pn pc, .int .i64 (ya : Int)] := Sr.make ⟨s, HP0.out⟩ hXX.p hXX.g' (by simp; omega) hXX.row (.cons (RepC.nil _ _ _ _ _) (.cons (.c _) (.cons (.c _) (.cons (.c _) (.cons (.c _) (.cons (.c _) (.cons (.c _) (.cons (.c _) (.cons (RepC.nil _ _ _ _ _) (.cons (.c _) (.cons hXX.gro.rep (.cons (.c _) .nil))))))))))))
     clear hXX hKo hPx hgx hK HNx HTx HCL hnn
     have hgA := hS.gr
     have HSE := ld hS
     clear hS
     refine ld ?_
     go_wp2_with (with_reducible refine hold_st 2 ?_)
     refine ld ?_
     refine sg ((hgA.block w.heap.size (by simp) (by simp; omega)).trans (heap_alloc_new w ritm0)) ?_
     intro w7 hh7 hg7
     go_wp2
     (try simp only [Exit.inBlock, Exit.then])
     refine br hh7 Tryz.underlying40 ?_
     have hG : w.grownBy w7 (some b) := ((grown_some (ga w ritm0 none) b).trans hgA).andThen hg7 (fun j e => .inl (by cases e; exact Nat.le_refl _))
     obtain ⟨hkk, hss⟩ := HSE.out.ends hg7 (by simp) (by omega)
     rw [HE9.out]
     refine ⟨_, rfl, ?_, HH.out.to hG hss HSE.out.pa.lt, hG⟩
     simpa only [itemD, Gram.zeroExp, expD, expsD, statesD_map, List.map_nil, List.cons_append, List.nil_append] using hkk
    ·rw [if_neg hl0] at hL
     have HTx : Hid (R = some (.mk [] Gram.zeroExp acc (ya : Int), Gram.Rf.closed (Gram.Rf.take T [101, 110, 100] s'))) := by show _ = _; rw [HR1.out, ← hL]; rfl
     have hlb : (((acc.length : Nat) : Int) == 0) = false := by rw [beq_eq_false_iff_ne]; omega
     clear hL HR1
     generalize s'.e = e0 at p2 b0
     go_wp2_with (go_at_call 46; refine hIs.mono ?_; rintro e w2 ⟨rfl, hg2⟩; refine Hid.out ?_)
     have hN2 := HNb.out.on hbq (grown_some hg2 b) (hP.kept hg2)
     obtain ⟨y0, y1, y2, y3, y4, y5, y6, y7, y8, y9, y10, y11, yf⟩ := rcells_12 hN2.row
     have HNx := ld hN2
     obtain ⟨t, ht⟩ : ∃ t, t = s' := ⟨_, rfl⟩
     rw [← ht] at HNx HTx
     clear hN2 HNb hIs hg2 hP ht
     have hK := rtake_any b g cap T t ⟨#[101, 110, 100]⟩ _ HNx.out.p
     rw [show ((⟨#[101, 110, 100]⟩ : ByteArray)).data.toList = [101, 110, 100] from rfl] at hK
     generalize Gram.Rf.take T [101, 110, 100] t = t9 at hK HTx
     refine ld ?_
     go_wp2_with (go_at_call 64; refine hK.mono ?_; rintro e wx ⟨rfl, hPx, hgx⟩; refine Hid.out ?_)
     have hXX := HNx.out.on hbq hgx hPx
     have p4 := hPx.st.c4
     have f4 := hPx.st.fr 4
     have hKo := ropened_w hPx (wrap64 (t9.n - 1))
     have hXX := hXX.on hbq hKo.2 hKo.1
     generalize hnn : t9.n = nn at p4 hXX hKo
     generalize hvv : wrap64 (nn - 1) = vv at hXX hKo
     have HCL : Hid (Gram.Rf.closed t9 = { t9 with n := vv }) := ld (by unfold Gram.Rf.closed; rw [hnn, hvv])
     have HE9 : Hid (R = some (.mk [] Gram.zeroExp acc (ya : Int), { t9 with n := vv })) := by show _ = _; rw [HTx.out, HCL.out]
     obtain ⟨z0, z1, z2, z3, z4, z5, z6, z7, z8, z9, z10, z11, zf⟩ := rcells_12 hXX.row
     have hS : Sr (w.alloc ritm0) (wx.setCell ⟨b, 4, none⟩ (.int .i64 vv)) b g cap T w1.heap.size { t9 with n := vv } 40 [.l 9 1 [], .c (.int .i64 0), .c (.int .i64 0), .c (.string ⟨#[]⟩), .c (.int .i64 0), .c (.int .i64 0), .c (.int .i64 0), .c (.int .i64 0), .l 37 9 [], .c (.int .i64 0), .l 119 6 (acc.map stateD), .c (.int .i64 (ya : Int))] [.slice none 0 0, .int .i64 0, .int .i64 0, .string ⟨#[]⟩, .int .i64 0, .int .i64 0, .int .i64 0, .int .i64 0, .slice none 0 0, .int .i64 0, .slice pa pn pc, .int .i64 (ya : Int)] := Sr.make ⟨s, HP0.out⟩ hXX.p hXX.g' (by simp; omega) hXX.row (.cons (RepC.nil _ _ _ _ _) (.cons (.c _) (.cons (.c _) (.cons (.c _) (.cons (.c _) (.cons (.c _) (.cons (.c _) (.cons (.c _) (.cons (RepC.nil _ _ _ _ _) (.cons (.c _) (.cons hXX.gro.rep (.cons (.c _) .nil))))))))))))
     clear hXX hKo hPx hgx hK HNx HTx HCL hnn
     have hgA := hS.gr
     have HSE := ld hS
     clear hS
     refine ld ?_
     go_wp2_with (with_reducible refine hold_st 2 ?_)
     refine ld ?_
     refine sg ((hgA.block w.heap.size (by simp) (by simp; omega)).trans (heap_alloc_new w ritm0)) ?_
     intro w7 hh7 hg7
     go_wp2
     (try simp only [Exit.inBlock, Exit.then])
     refine br hh7 Tryz.underlying40 ?_
     have hG : w.grownBy w7 (some b) := ((grown_some (ga w ritm0 none) b).trans hgA).andThen hg7 (fun j e => .inl (by cases e; exact Nat.le_refl _))
     obtain ⟨hkk, hss⟩ := HSE.out.ends hg7 (by simp) (by omega)
     rw [HE9.out]
     refine ⟨_, rfl, ?_, HH.out.to hG hss HSE.out.pa.lt, hG⟩
     simpa only [itemD, Gram.zeroExp, expD, expsD, statesD_map, List.map_nil, List.cons_append, List.nil_append] using hkk
   | true =>
    rw [hq] at hIs hL
    rw [if_pos rfl] at hL
    by_cases hm : 16 ≤ acc.length
    ·rw [if_pos hm] at hL
     have HTx : Hid (R = some (.mk [] Gram.zeroExp acc (ya : Int), Gram.Rf.closed (Gram.Rf.take T [101, 110, 100] (Gram.Rf.fail T 2 s')))) := by show _ = _; rw [HR1.out, ← hL]; rfl
     have hrm := fun wx (hx : Rp wx b g cap T s') => rfull_yes b g cap T s' (acc.length : Int) 16 (by omega) wx hx
     generalize Gram.Rf.fail T 2 s' = t at HTx hrm
     clear hL HR1
     generalize s'.e = e0 at p2 b0
     go_wp2_with (go_at_call 46; refine hIs.mono ?_; rintro e w2 ⟨rfl, hg2⟩; refine Hid.out ?_)
     have hN2 := HNb.out.on hbq (grown_some hg2 b) (hP.kept hg2)
     obtain ⟨z0, z1, z2, z3, z4, z5, z6, z7, z8, z9, z10, z11, zf⟩ := rcells_12 hN2.row
     refine ld ?_
     go_wp2_with (go_at_call 48; refine (hrm _ hN2.p).mono ?_; rintro e w3 ⟨rfl, hP3, hg3⟩; refine Hid.out ?_)
     have HNx := ld (hN2.on hbq hg3 hP3)
     clear hN2 z0 z1 z2 z3 z4 z5 z6 z7 z8 z9 z10 z11 zf HNb hP3 hg3 hrm hIs hg2 hP
     have hK := rtake_any b g cap T t ⟨#[101, 110, 100]⟩ _ HNx.out.p
     rw [show ((⟨#[101, 110, 100]⟩ : ByteArray)).data.toList = [101, 110, 100] from rfl] at hK
     generalize Gram.Rf.take T [101, 110, 100] t = t9 at hK HTx
     refine ld ?_
     go_wp2_with (go_at_call 64; refine hK.mono ?_; rintro e wx ⟨rfl, hPx, hgx⟩; refine Hid.out ?_)
     have hXX := HNx.out.on hbq hgx hPx
     have p4 := hPx.st.c4
     have f4 := hPx.st.fr 4
     have hKo := ropened_w hPx (wrap64 (t9.n - 1))
     have hXX := hXX.on hbq hKo.2 hKo.1
     generalize hnn : t9.n = nn at p4 hXX hKo
     generalize hvv : wrap64 (nn - 1) = vv at hXX hKo
     have HCL : Hid (Gram.Rf.closed t9 = { t9 with n := vv }) := ld (by unfold Gram.Rf.closed; rw [hnn, hvv])
     have HE9 : Hid (R = some (.mk [] Gram.zeroExp acc (ya : Int), { t9 with n := vv })) := by show _ = _; rw [HTx.out, HCL.out]
     obtain ⟨z0, z1, z2, z3, z4, z5, z6, z7, z8, z9, z10, z11, zf⟩ := rcells_12 hXX.row
     have hS : Sr (w.alloc ritm0) (wx.setCell ⟨b, 4, none⟩ (.int .i64 vv)) b g cap T w1.heap.size { t9 with n := vv } 40 [.l 9 1 [], .c (.int .i64 0), .c (.int .i64 0), .c (.string ⟨#[]⟩), .c (.int .i64 0), .c (.int .i64 0), .c (.int .i64 0), .c (.int .i64 0), .l 37 9 [], .c (.int .i64 0), .l 119 6 (acc.map stateD), .c (.int .i64 (ya : Int))] [.slice none 0 0, .int .i64 0, .int .i64 0, .string ⟨#[]⟩, .int .i64 0, .int .i64 0, .int .i64 0, .int .i64 0, .slice none 0 0, .int .i64 0, .slice pa pn pc, .int .i64 (ya : Int)] := Sr.make ⟨s, HP0.out⟩ hXX.p hXX.g' (by simp; omega) hXX.row (.cons (RepC.nil _ _ _ _ _) (.cons (.c _) (.cons (.c _) (.cons (.c _) (.cons (.c _) (.cons (.c _) (.cons (.c _) (.cons (.c _) (.cons (RepC.nil _ _ _ _ _) (.cons (.c _) (.cons hXX.gro.rep (.cons (.c _) .nil))))))))))))
     clear hXX hKo hPx hgx hK HNx HTx HCL hnn
     have hgA := hS.gr
     have HSE := ld hS
     clear hS
     refine ld ?_
     go_wp2_with (with_reducible refine hold_st 2 ?_)
     refine ld ?_
     refine sg ((hgA.block w.heap.size (by simp) (by simp; omega)).trans (heap_alloc_new w ritm0)) ?_
     intro w7 hh7 hg7
     go_wp2
     (try simp only [Exit.inBlock, Exit.then])
     refine br hh7 Tryz.underlying40 ?_
     have hG : w.grownBy w7 (some b) := ((grown_some (ga w ritm0 none) b).trans hgA).andThen hg7 (fun j e => .inl (by cases e; exact Nat.le_refl _))
     obtain ⟨hkk, hss⟩ := HSE.out.ends hg7 (by simp) (by omega)
     rw [HE9.out]
     refine ⟨_, rfl, ?_, HH.out.to hG hss HSE.out.pa.lt, hG⟩
     simpa only [itemD, Gram.zeroExp, expD, expsD, statesD_map, List.map_nil, List.cons_append, List.nil_append] using hkk
    rw [if_neg hm] at hL
    have hrm := fun wx => rfull_no b (acc.length : Int) 16 (by omega) wx
    cases hex : Gram.Rf.state T f' s' with
    | none => rw [HR1.out, ← hL, hex] at hf; cases hf
    | some r =>
    obtain ⟨x, s2⟩ := r
    cases x with
    | mk nm us ut ls its at_ =>
    have hSt : ∀ wx, Rp wx b g cap T s' → Calls Tryz.prog 87 #[.pointer (some ⟨b, 0, none⟩)] wx fun e w' => ∃ a1 n1 c1 a2 n2 c2 a3 n3 c3 a4 n4 c4, e = .returned (.agg #[.string ⟨nm.toArray⟩, .slice a1 n1 c1, .slice a2 n2 c2, .slice a3 n3 c3, .slice a4 n4 c4, .int .i64 at_]) ∧ RepRow w' wx.heap.size [] (stateD (.mk nm us ut ls its at_)) [.string ⟨nm.toArray⟩, .slice a1 n1 c1, .slice a2 n2 c2, .slice a3 n3 c3, .slice a4 n4 c4, .int .i64 at_] ∧ Rp w' b g cap T s2 ∧ wx.grownBy w' (some b) := by
     intro wx hx
     have h9 := hC f' (by omega) s' wx hx (by rw [hex]; rfl)
     simp only [hex, r1Post] at h9
     refine h9.mono ?_
     rintro e w' ⟨vs, rfl, hr, hP9, hg9⟩
     obtain ⟨a1, n1, c1, a2, n2, c2, a3, n3, c3, a4, n4, c4, e9⟩ := stateInv hr
     subst e9
     exact ⟨a1, n1, c1, a2, n2, c2, a3, n3, c3, a4, n4, c4, rfl, hr, hP9, hg9⟩
    have HE : Hid (Gram.Rf.states T f' (acc ++ [(.mk nm us ut ls its at_)]) s2 = Gram.Rf.states T f [] so) := by show _ = _; rw [← hL, hex]; rfl
    clear hL hex
    generalize s'.e = e0 at p2 b0
    go_wp2_with (first | (go_at_call 48; refine (hrm _).mono ?_; rintro e w8 ⟨rfl, hw8⟩; rw [hw8]; clear hw8) | (go_at_call 46; refine hIs.mono ?_; rintro e w2 ⟨rfl, hg2⟩; refine Hid.out ?_))
    obtain ⟨WB, hWB⟩ : ∃ WB, WB = w2.drew := ⟨_, rfl⟩
    have hN2 := HNb.out.on hbq (grown_some hg2 b) (HNb.out.p.kept hg2)
    obtain ⟨z0, z1, z2, z3, z4, z5, z6, z7, z8, z9, z10, z11, zf⟩ := rcells_12 hN2.row
    have hNW : Sb (w.alloc ritm0) WB b g cap T w1.heap.size s' acc (.slice pa pn pc) (ya : Int) := by rw [hWB]; exact hN2.on hbq (grown_some (gdrew (World.grownBy.refl w2 none)) b) hN2.p.drew
    have hce := hSt WB hNW.p
    have HNW := ld hNW
    have hS0 : WB.cell? ⟨w1.heap.size, 10, none⟩ = some (.slice pa pn pc) := (rcells_12 hNW.row).2.2.2.2.2.2.2.2.2.2.1
    clear hNW hN2 hSt hIs
    refine ld ?_
    go_wp2_with (go_at_call 48; refine (hrm _).mono ?_; rintro e w8 ⟨rfl, hw8⟩; rw [hw8]; clear hw8)
    refine wp_region_L (S := fun w' => w'.cell? ⟨w1.heap.size, 10, none⟩ = some (.slice pa pn pc)) (Z := [7]) (by kernel_rfl) ?_
    rw [← hWB]
    clear hWB z0 z1 z2 z3 z4 z5 z6 z7 z8 z9 z10 z11 zf
    refine wpL_take (i := 0) (v := .pointer (some ⟨w1.heap.size, 10, none⟩)) rfl (by kernel_rfl) (by kernel_rfl) (by kernel_rfl) (fun _ _ _ h => h) (by kernel_rfl) (.inl ⟨rfl, fun w' hw' => ?_⟩) hS0 ?_
    ·go_simp
    refine wpL_take (i := 1) (v := .slice pa pn pc) rfl (by kernel_rfl) (by kernel_rfl) (by kernel_rfl) (fun _ _ _ h => h) (by kernel_rfl) (.inl ⟨rfl, fun w' hw' => ?_⟩) hS0 ?_
    ·go_simp
    refine wpL_take (i := 2) (v := .pointer (some ⟨b, 0, none⟩)) rfl (by kernel_rfl) (by kernel_rfl) (by kernel_rfl) (fun _ _ _ h => h) (by kernel_rfl) (.inl ⟨rfl, fun w' hw' => ?_⟩) hS0 ?_
    ·go_simp
    refine wpL_one (i := 3) (by kernel_rfl) ?_
    refine wpOp_step rfl (fun K' hK => ?_)
    split
    case isFalse hno => exact absurd rfl hno
    unfold Oper.wp
    go_simp
    refine hce.mono ?_
    rintro e w8 ⟨a1, n1, c1, a2, n2, c2, a3, n3, c3, a4, n4, c4, rfl, hk8, hp8, hg8⟩
    have H8 := HNW.out.on hbq hg8 hp8
    have hqlW := HNW.out.ql
    refine hK _ _ ⟨fun _ => (rcells_12 H8.row).2.2.2.2.2.2.2.2.2.2.1, ?_⟩
    clear hK K'
    refine wpL_one (i := 4) (by kernel_rfl) ?_
    refine wpOp_step rfl (fun K' hK => ?_)
    split
    case isFalse hno => exact absurd rfl hno
    unfold Oper.wp
    go_simp
    have H9 := H8.on hbq (ga w8 (.cells #[.string ⟨nm.toArray⟩, .slice a1 n1 c1, .slice a2 n2 c2, .slice a3 n3 c3, .slice a4 n4 c4, .int .i64 at_] 119) (some b)) (H8.p.alloc _)
    refine hK _ _ ⟨fun _ => (rcells_12 H9.row).2.2.2.2.2.2.2.2.2.2.1, ?_⟩
    clear hK K'
    have hql8 := H8.ql
    have hltW := HNW.out.gro.lt
    obtain ⟨xs2, ho2, hr2⟩ := H8.gro
    rw [List.length_map] at ho2
    refine wpL_one (i := 5) (by kernel_rfl) ?_
    refine wpOp_step rfl (fun K' hK => ?_)
    split
    case isFalse hno => exact absurd rfl hno
    refine wp_append_at _ _ 38 rfl (w1.heap.size + 1) 119 it _ 6 120 Tryz.underlying38 hit hz hsz hby rfl (by decide) (.slice pa pn pc) acc.length xs2 rfl (ho2.alloc _) ⟨w8.heap.size, 0, none⟩ 1 1 [.string ⟨nm.toArray⟩, .slice a1 n1 c1, .slice a2 n2 c2, .slice a3 n3 c3, .slice a4 n4 c4, .int .i64 at_] rfl rfl (cell_row_new w8 [.string ⟨nm.toArray⟩, .slice a1 n1 c1, .slice a2 n2 c2, .slice a3 n3 c3, .slice a4 n4 c4, .int .i64 at_] 119) (by simp [Value.oneCell']) ?_ ?_ ?_ ?_
    ·unfold maxLen; omega
    ·omega
    ·simp only [World.size_alloc]; omega
    intro v' w9 hown' hgrow9 _ hvb
    have hrx : RepRow w8 (w1.heap.size + 1) (Value.slice pa pn pc).ownBlock.toList (stateD (.mk nm us ut ls its at_)) [.string ⟨nm.toArray⟩, .slice a1 n1 c1, .slice a2 n2 c2, .slice a3 n3 c3, .slice a4 n4 c4, .int .i64 at_] := RepRow.mono (by omega) (RepRow.toX (Value.slice pa pn pc).ownBlock.toList (fun k e => .inr (hltW k e)) hk8)
    have hG9 : GrowD w9 (w1.heap.size + 1) 119 6 (acc.map stateD ++ [stateD (.mk nm us ut ls its at_)]) v' := growD_snoc hgrow9 (by rw [List.length_map]; exact hown') (RepRow.keptX (ga w8 _ none) (fun k e => by cases e) hr2) (RepRow.keptX (ga w8 _ none) (fun k e => by cases e) hrx) (by first | exact hvb | (rw [World.size_alloc] at hvb; rw [World.size_alloc]; exact hvb))
    have hG9b : (w.alloc ritm0).grownBy w9 (some b) := H9.g'.andThen hgrow9 (fun j e => .inl (by have := (ho2.lt j e).1; simp; omega))
    have hq9 : ∀ k, k ≤ w1.heap.size → some k ≠ (Value.slice pa pn pc).ownBlock := fun k hk e => by have := (ho2.lt k e.symm).1; omega
    have hP9 : Rp w9 b g cap T s2 := HP0.out.to hG9b (H9.p.st.kept hgrow9 (hq9 b (by omega))) H9.p.lt
    have hrow9 := (hgrow9.block w1.heap.size H9.ql (hq9 _ (Nat.le_refl _))).trans H9.row
    obtain ⟨va, vn, vc, rfl⟩ := hG9.form
    have hfr9 := (rcells_12 hrow9).2.2.2.2.2.2.2.2.2.2.2.2
    have hc9 := (rcells_12 hrow9).2.2.2.2.2.2.2.2.2.2.1
    refine hK _ _ ⟨fun _ => hc9, ?_⟩
    clear hK K'
    refine wpL_one (i := 6) (by kernel_rfl) ?_
    refine wpOp_step rfl (fun K' hK => ?_)
    split
    case isFalse hno => exact absurd rfl hno
    unfold Oper.wp
    go_simp
    refine hK _ _ ⟨fun _ => hc9, ?_⟩
    clear hK K'
    have hNn : Sb (w.alloc ritm0) (w9.setCell ⟨w1.heap.size, 10, none⟩ (.slice va vn vc)) b g cap T w1.heap.size s2 (acc ++ [(.mk nm us ut ls its at_)]) (.slice va vn vc) (ya : Int) := by
     have hg' : (w.alloc ritm0).grownBy (w9.setCell ⟨w1.heap.size, 10, none⟩ (.slice va vn vc)) (some b) := gset hG9b (.inl (by simp; omega)) _
     refine ⟨HP0.out.to hg' (hP9.st.kept (grown_set w9 ⟨w1.heap.size, 10, none⟩ _) (by simp; omega)) hP9.lt, hg', ?_, ?_⟩
     ·rw [heap_setCell_same w9 w1.heap.size 10 _ _ _ hrow9]; simp
     ·rw [List.map_append]; exact GrowD.kept (grown_set w9 ⟨w1.heap.size, 10, none⟩ _) (fun k e => by cases e; exact Nat.lt_succ_self _) hG9
    refine wpL_one (i := 7) (by kernel_rfl) ?_
    refine wpOp_step rfl (fun K' hK => ?_)
    split
    case isFalse hno => exact absurd rfl hno
    unfold Oper.wp
    go_simp
    refine hK _ _ ⟨fun hno => absurd (by simp) hno, ?_⟩
    clear hK K'
    refine wpL_done (by kernel_rfl) ?_ _
    have HNn := ld hNn
    clear hNn hc9 hfr9 hrow9 hP9 hG9b hG9 hgrow9 hown' hvb H9 H8 hr2 ho2 hg8 hp8 HNW hS0 hce
    go_wp2
    go_roundg f'
    case measure => exact Nat.lt_succ_self _
    case rel => exact ⟨acc ++ [(.mk nm us ut ls its at_)], s2, va, vn, vc, by omega, by simp; omega, ld ⟨HNn.out, HE.out⟩⟩
  ·have b0 : (s'.e == 0) = false := by rw [beq_eq_false_iff_ne]; exact he
   rw [if_neg he] at hL
   have HTx : Hid (R = some (.mk [] Gram.zeroExp acc (ya : Int), Gram.Rf.closed (Gram.Rf.take T [101, 110, 100] s'))) := by show _ = _; rw [HR1.out, ← hL]; rfl
   clear hL HR1 he
   generalize s'.e = e0 at p2 b0
   have HNx := HNb
   obtain ⟨t, ht⟩ : ∃ t, t = s' := ⟨_, rfl⟩
   rw [← ht] at HNx HTx
   clear HNb hP ht
   refine Hid.out ?_
   have hK := rtake_any b g cap T t ⟨#[101, 110, 100]⟩ _ HNx.out.p
   rw [show ((⟨#[101, 110, 100]⟩ : ByteArray)).data.toList = [101, 110, 100] from rfl] at hK
   generalize Gram.Rf.take T [101, 110, 100] t = t9 at hK HTx
   refine ld ?_
   go_wp2_with (go_at_call 64; refine hK.mono ?_; rintro e wx ⟨rfl, hPx, hgx⟩; refine Hid.out ?_)
   have hXX := HNx.out.on hbq hgx hPx
   have p4 := hPx.st.c4
   have f4 := hPx.st.fr 4
   have hKo := ropened_w hPx (wrap64 (t9.n - 1))
   have hXX := hXX.on hbq hKo.2 hKo.1
   generalize hnn : t9.n = nn at p4 hXX hKo
   generalize hvv : wrap64 (nn - 1) = vv at hXX hKo
   have HCL : Hid (Gram.Rf.closed t9 = { t9 with n := vv }) := ld (by unfold Gram.Rf.closed; rw [hnn, hvv])
   have HE9 : Hid (R = some (.mk [] Gram.zeroExp acc (ya : Int), { t9 with n := vv })) := by show _ = _; rw [HTx.out, HCL.out]
   obtain ⟨z0, z1, z2, z3, z4, z5, z6, z7, z8, z9, z10, z11, zf⟩ := rcells_12 hXX.row
   have hS : Sr (w.alloc ritm0) (wx.setCell ⟨b, 4, none⟩ (.int .i64 vv)) b g cap T w1.heap.size { t9 with n := vv } 40 [.l 9 1 [], .c (.int .i64 0), .c (.int .i64 0), .c (.string ⟨#[]⟩), .c (.int .i64 0), .c (.int .i64 0), .c (.int .i64 0), .c (.int .i64 0), .l 37 9 [], .c (.int .i64 0), .l 119 6 (acc.map stateD), .c (.int .i64 (ya : Int))] [.slice none 0 0, .int .i64 0, .int .i64 0, .string ⟨#[]⟩, .int .i64 0, .int .i64 0, .int .i64 0, .int .i64 0, .slice none 0 0, .int .i64 0, .slice pa pn pc, .int .i64 (ya : Int)] := Sr.make ⟨s, HP0.out⟩ hXX.p hXX.g' (by simp; omega) hXX.row (.cons (RepC.nil _ _ _ _ _) (.cons (.c _) (.cons (.c _) (.cons (.c _) (.cons (.c _) (.cons (.c _) (.cons (.c _) (.cons (.c _) (.cons (RepC.nil _ _ _ _ _) (.cons (.c _) (.cons hXX.gro.rep (.cons (.c _) .nil))))))))))))
   clear hXX hKo hPx hgx hK HNx HTx HCL hnn
   have hgA := hS.gr
   have HSE := ld hS
   clear hS
   refine ld ?_
   go_wp2_with (with_reducible refine hold_st 2 ?_)
   refine ld ?_
   refine sg ((hgA.block w.heap.size (by simp) (by simp; omega)).trans (heap_alloc_new w ritm0)) ?_
   intro w7 hh7 hg7
   go_wp2
   (try simp only [Exit.inBlock, Exit.then])
   refine br hh7 Tryz.underlying40 ?_
   have hG : w.grownBy w7 (some b) := ((grown_some (ga w ritm0 none) b).trans hgA).andThen hg7 (fun j e => .inl (by cases e; exact Nat.le_refl _))
   obtain ⟨hkk, hss⟩ := HSE.out.ends hg7 (by simp) (by omega)
   rw [HE9.out]
   refine ⟨_, rfl, ?_, HH.out.to hG hss HSE.out.pa.lt, hG⟩
   simpa only [itemD, Gram.zeroExp, expD, expsD, statesD_map, List.map_nil, List.cons_append, List.nil_append] using hkk
theorem ritem_step (f : Nat) (hC : ∀ f', f' < f → CSt b g cap T f') : CIm b g cap T (f + 1) := by
 intro s w h hf
 cases qa : Gram.Rf.is T [97, 117, 116, 111, 109, 97, 116, 111, 110] s with
 | true => exact ritem_auto b g cap T f hC s w h qa hf
 | false =>
  cases qb : Gram.Rf.is T [40] s with
  | true => exact ritem_brack b g cap T f s w h qa qb hf
  | false => exact ritem_plain b g cap T f s w h qa qb hf
theorem citem_all (f : Nat) : CIm b g cap T f ∧ CSt b g cap T f := by
 induction f using Nat.strongRecOn with
 | _ f ih =>
  cases f with
  | zero => exact ⟨fun s w _ hf => (by rw [Gram.Rf.item] at hf; cases hf), fun s w _ hf => (by rw [Gram.Rf.state] at hf; cases hf)⟩
  | succ f => exact ⟨ritem_step b g cap T f (fun f' h => (ih f' (by omega)).2), rstate_step b g cap T f (rlocals_any b g cap T f) (fun f' h => (ih f' (by omega)).1)⟩
end
open Go.RowKit Go.Maps Go.WideMaps
structure Pb (w0 w : World) (b g cap : Nat) (T : List Lex.Tk) (q : Nat) (s : Gram.Rf.St) (acc : List Gram.Node) (v : Value) : Prop where
 p : Rp w b g cap T s
 g' : w0.grownBy w (some b)
 row : w.heap[q]? = some (.cells #[v] 25 (0, 0))
 gro : GrowD w (q + 1) 31 6 (acc.map nodeD) v
section
variable {w0 w w' : World} {b g cap : Nat} {T : List Lex.Tk} {q : Nat} {s s' : Gram.Rf.St} {acc : List Gram.Node} {v : Value}
theorem Pb.ql (h : Pb w0 w b g cap T q s acc v) : q < w.heap.size := (Array.getElem?_eq_some_iff.1 h.row).1
theorem Pb.c0 (h : Pb w0 w b g cap T q s acc v) : w.cell? ⟨q, 0, none⟩ = some v := cell_of_row w q 0 _ _ _ h.row
theorem Pb.fr (h : Pb w0 w b g cap T q s acc v) (j : Nat) : w.frozen? ⟨q, j, none⟩ = false := frozen_of_row w q j _ _ h.row
theorem Pb.on (h : Pb w0 w b g cap T q s acc v) (hq : b < q) (hg : w.grownBy w' (some b)) (hp : Rp w' b g cap T s') : Pb w0 w' b g cap T q s' acc v :=
 ⟨hp, h.g'.trans hg, (hg.block q h.ql (by simp; omega)).trans h.row, h.gro.keptB hg (by omega)⟩
end
def pgPost (w : World) (b g cap : Nat) (T : List Lex.Tk) (r : Option (List Gram.Node × Gram.Rf.St)) (e : Ending) (w' : World) : Prop :=
 match r with
 | some x => ∃ v, e = .returned (.agg #[v]) ∧ GrowD w' w.heap.size 31 6 (x.1.map nodeD) v ∧ Rp w' b g cap T x.2 ∧ w.grownBy w' (some b)
 | none => False
section
variable (b g cap : Nat) (T : List Lex.Tk)
theorem rprogram_any (f : Nat) (s : Gram.Rf.St) (w : World) (h : Rp w b g cap T s) (hf : (Gram.Rf.nodes T f [] s).isSome = true) :
  Calls Tryz.prog 31 #[.pointer (some ⟨b, 0, none⟩)] w fun e w' => pgPost w b g cap T (Gram.Rf.nodes T f [] s) e w' := by
 obtain ⟨it, hit, hz, hsz, hby⟩ := infoP info_Node
 have hbw := h.bl
 obtain ⟨R, hR⟩ : ∃ R, R = Gram.Rf.nodes T f [] s := ⟨_, rfl⟩
 rw [← hR] at hf ⊢
 have HR := ld hR
 clear hR
 have HH := ld h
 obtain ⟨w0, hw0e⟩ : ∃ w0, w0 = w.alloc (.cells #[.slice none 0 0] 25) := ⟨_, rfl⟩
 have hs0 : w0.heap.size = w.heap.size + 1 := by rw [hw0e, World.size_alloc]
 have hw0 : w.grownBy w0 (some b) := by rw [hw0e]; exact ga w _ (some b)
 have hr0 : w0.heap[w.heap.size]? = some (.cells #[.slice none 0 0] 25 (0, 0)) := by rw [hw0e]; exact heap_alloc_new w _
 have hP0 : Rp w0 b g cap T s := by rw [hw0e]; exact h.alloc _
 have hNb0 : Pb w0 (w0.alloc (.cells #[.slice none 0 0] 25)) b g cap T (w.heap.size + 1) s [] (.slice none 0 0) := ⟨hP0.alloc _, ga w0 _ (some b), by have e := heap_alloc_new w0 (.cells #[.slice none 0 0] 25); rw [hs0] at e; exact e, GrowD.nil _ _ _ _⟩
 have HP0 := ld hP0
 have HNb0 := ld hNb0
 have HW0 := ld hw0e
 have hbq : b < w.heap.size + 1 := by omega
 clear h hP0 hNb0 hw0e
 go_enter Tryz.func31, Tryz.ntmps31
 go_wp2
 go_loopg [] f (fun (f' : Nat) (wr : World) => ∃ (acc : List Gram.Node) (s' : Gram.Rf.St) (pa : Option Addr) (pn pc : Nat), f' ≤ f ∧ acc.length ≤ 60 ∧ Hid (Pb w0 wr b g cap T (w.heap.size + 1) s' acc (.slice pa pn pc) ∧ Gram.Rf.nodes T f' acc s' = R))
 case atStart => exact ⟨[], s, none, 0, 0, Nat.le_refl _, by simp, ld ⟨by rw [← HW0.out]; exact HNb0.out, HR.out.symm⟩⟩
 case round =>
  obtain ⟨acc, s', pa, pn, pc, hff, ha16, HG⟩ := hrel
  obtain ⟨hNb, hL⟩ := HG.out
  clear HG HNb0 HW0 HR
  rcases Nat.eq_zero_or_pos gk with hz0 | hz0
  ·rw [hz0] at hL; rw [← hL] at hf; exact absurd hf (by simp [Gram.Rf.nodes])
  obtain ⟨f', hfe⟩ : ∃ f', gk = f' + 1 := ⟨gk - 1, by omega⟩
  subst hfe
  rw [Gram.Rf.nodes] at hL
  have hP := hNb.p
  have p2 := hP.st.c2
  have z0 := hNb.c0
  have zf := hNb.fr
  have hlf : ∀ (ty : TypeId) (wx : World), (Builtin.len_ #[23] ty #[.slice pa pn pc]).run Tryz.prog wx = .ok (.int .i64 (acc.length : Int)) wx := by
   obtain ⟨xs, ho, _⟩ := hNb.gro
   rw [List.length_map] at ho
   exact fun ty wx => len_Node ho ty wx
  have HNb := ld hNb
  clear hNb
  by_cases he : s'.e = 0
  ·have b0 : (s'.e == 0) = true := by rw [beq_iff_eq]; exact he
   have hn := rtok_any b g cap T s' wr hP
   generalize Gram.tk T s'.i = y at hn hL
   obtain ⟨yk, yt, yn, yu, ya⟩ := y
   have hfk := fldKind ⟨yk, yt, yn, yu, ya⟩
   simp only [tokV] at hn hfk
   simp only at hL
   by_cases hk : yk = 5
   ·have bk : (yk != 5) = false := bne_t (by rw [beq_iff_eq]; exact hk)
    rw [if_neg (fun e => e.2 hk)] at hL
    have HTx : Hid (R = some (acc, s')) := ld hL.symm
    clear hL he hk z0 zf
    generalize s'.e = e0 at p2 b0
    go_wp2_with (go_at_call 45; refine hn.mono ?_; rintro e w4 ⟨rfl, hg4⟩; refine Hid.out ?_)
    have HNx := ld (HNb.out.on hbq (grown_some hg4 b) (hP.kept hg4))
    have z0 := HNx.out.c0
    clear HNb hn hg4 hP p2
    have hgA := HNx.out.g'
    refine ld ?_
    go_wp2_with (with_reducible refine hold_st 2 ?_)
    refine ld ?_
    refine sg ((hgA.block w.heap.size (by omega) (by simp; omega)).trans hr0) ?_
    intro w7 hh7 hg7
    go_wp2
    (try simp only [Exit.inBlock, Exit.then])
    refine br hh7 Tryz.underlying25 ?_
    have hG : w.grownBy w7 (some b) := (hw0.trans hgA).andThen hg7 (fun j e => .inl (by cases e; exact Nat.le_refl _))
    rw [HTx.out]
    exact ⟨_, rfl, (HNx.out.gro.kept hg7 (fun k e => by cases e; omega)).mono (by omega), HH.out.to hG (HNx.out.p.st.kept hg7 (by simp; omega)) HNx.out.p.lt, hG⟩
   have bk : (yk != 5) = true := bne_f (by rw [beq_eq_false_iff_ne]; exact hk)
   rw [if_pos ⟨he, hk⟩] at hL
   have hIs := fun wx (hx : Rp wx b g cap T s') => ris_any b g cap T s' ⟨#[110, 111, 100, 101]⟩ wx hx
   rw [show ((⟨#[110, 111, 100, 101]⟩ : ByteArray)).data.toList = [110, 111, 100, 101] from rfl] at hIs
   clear he hk z0 zf
   cases hq : Gram.Rf.is T [110, 111, 100, 101] s' with
   | false =>
    rw [hq] at hIs hL
    rw [if_neg (by decide)] at hL
    have HTx : Hid (R = some (acc, Gram.Rf.fail T 12 s')) := ld hL.symm
    have hfl := fun wx (hx : Rp wx b g cap T s') => rfail_any b g cap T s' 12 wx hx
    generalize Gram.Rf.fail T 12 s' = t at HTx hfl
    clear hL
    generalize s'.e = e0 at p2 b0
    go_wp2_with (first | (go_at_call 47; refine (hfl _ ((hP.kept hg4).kept hg2)).mono ?_; rintro e w3 ⟨rfl, hP3, hg3⟩; refine Hid.out ?_) | (go_at_call 45; refine hn.mono ?_; rintro e w4 ⟨rfl, hg4⟩) | (go_at_call 46; refine (hIs _ (hP.kept hg4)).mono ?_; rintro e w2 ⟨rfl, hg2⟩))
    have HNx := ld (HNb.out.on hbq ((grown_some (hg4.trans hg2) b).trans hg3) hP3)
    have z0 := HNx.out.c0
    clear HNb hn hg4 hP p2 hIs hfl hg2 hg3 hP3
    have hgA := HNx.out.g'
    refine ld ?_
    go_wp2_with (with_reducible refine hold_st 2 ?_)
    refine ld ?_
    refine sg ((hgA.block w.heap.size (by omega) (by simp; omega)).trans hr0) ?_
    intro w7 hh7 hg7
    go_wp2
    (try simp only [Exit.inBlock, Exit.then])
    refine br hh7 Tryz.underlying25 ?_
    have hG : w.grownBy w7 (some b) := (hw0.trans hgA).andThen hg7 (fun j e => .inl (by cases e; exact Nat.le_refl _))
    rw [HTx.out]
    exact ⟨_, rfl, (HNx.out.gro.kept hg7 (fun k e => by cases e; omega)).mono (by omega), HH.out.to hG (HNx.out.p.st.kept hg7 (by simp; omega)) HNx.out.p.lt, hG⟩
   | true =>
    rw [hq] at hIs hL
    rw [if_pos rfl] at hL
    by_cases hm : 60 ≤ acc.length
    ·rw [if_pos hm] at hL
     have HTx : Hid (R = some (acc, Gram.Rf.fail T 2 s')) := ld hL.symm
     have hrm := fun wx (hx : Rp wx b g cap T s') => rfull_yes b g cap T s' (acc.length : Int) 60 (by omega) wx hx
     generalize Gram.Rf.fail T 2 s' = t at HTx hrm
     clear hL
     generalize s'.e = e0 at p2 b0
     go_wp2_with (first | (go_at_call 45; refine hn.mono ?_; rintro e w4 ⟨rfl, hg4⟩) | (go_at_call 46; refine (hIs _ (hP.kept hg4)).mono ?_; rintro e w2 ⟨rfl, hg2⟩; refine Hid.out ?_))
     have hN2 := HNb.out.on hbq (grown_some (hg4.trans hg2) b) ((hP.kept hg4).kept hg2)
     have z0 := hN2.c0
     refine ld ?_
     go_wp2_with (go_at_call 48; refine (hrm _ hN2.p).mono ?_; rintro e w3 ⟨rfl, hP3, hg3⟩; refine Hid.out ?_)
     have HNx := ld (hN2.on hbq hg3 hP3)
     clear z0
     have z0 := HNx.out.c0
     clear hN2 HNb hn hg4 hP p2 hIs hrm hg2 hg3 hP3
     have hgA := HNx.out.g'
     refine ld ?_
     go_wp2_with (with_reducible refine hold_st 2 ?_)
     refine ld ?_
     refine sg ((hgA.block w.heap.size (by omega) (by simp; omega)).trans hr0) ?_
     intro w7 hh7 hg7
     go_wp2
     (try simp only [Exit.inBlock, Exit.then])
     refine br hh7 Tryz.underlying25 ?_
     have hG : w.grownBy w7 (some b) := (hw0.trans hgA).andThen hg7 (fun j e => .inl (by cases e; exact Nat.le_refl _))
     rw [HTx.out]
     exact ⟨_, rfl, (HNx.out.gro.kept hg7 (fun k e => by cases e; omega)).mono (by omega), HH.out.to hG (HNx.out.p.st.kept hg7 (by simp; omega)) HNx.out.p.lt, hG⟩
    rw [if_neg hm] at hL
    have hrm := fun wx => rfull_no b (acc.length : Int) 60 (by omega) wx
    cases hex : Gram.Rf.node T f' s' with
    | none => rw [← hL, hex] at hf; cases hf
    | some r =>
    obtain ⟨x, s2⟩ := r
    obtain ⟨nm, ins, outs, ls, its, at_⟩ := x
    have hSt : ∀ wx, Rp wx b g cap T s' → Calls Tryz.prog 49 #[.pointer (some ⟨b, 0, none⟩)] wx fun e w' => ∃ a1 n1 c1 a2 n2 c2 a3 n3 c3 a4 n4 c4, e = .returned (.agg #[.string ⟨nm.toArray⟩, .slice a1 n1 c1, .slice a2 n2 c2, .slice a3 n3 c3, .slice a4 n4 c4, .int .i64 at_]) ∧ RepRow w' wx.heap.size [] (nodeD ⟨nm, ins, outs, ls, its, at_⟩) [.string ⟨nm.toArray⟩, .slice a1 n1 c1, .slice a2 n2 c2, .slice a3 n3 c3, .slice a4 n4 c4, .int .i64 at_] ∧ Rp w' b g cap T s2 ∧ wx.grownBy w' (some b) := by
     intro wx hx
     have h9 := rnode_any b g cap T f' (fun f'' _ => (citem_all b g cap T f'').1) s' wx hx (by rw [hex]; rfl)
     simp only [hex, r1Post] at h9
     refine h9.mono ?_
     rintro e w' ⟨vs, rfl, hr, hP9, hg9⟩
     obtain ⟨a1, n1, c1, a2, n2, c2, a3, n3, c3, a4, n4, c4, e9⟩ := nodeInv hr
     subst e9
     exact ⟨a1, n1, c1, a2, n2, c2, a3, n3, c3, a4, n4, c4, rfl, hr, hP9, hg9⟩
    have HE : Hid (Gram.Rf.nodes T f' (acc ++ [⟨nm, ins, outs, ls, its, at_⟩]) s2 = R) := by show _ = _; rw [← hL, hex]; rfl
    clear hL hex
    generalize s'.e = e0 at p2 b0
    go_wp2_with (first | (go_at_call 45; refine hn.mono ?_; rintro e w4 ⟨rfl, hg4⟩) | (go_at_call 46; refine (hIs _ (hP.kept hg4)).mono ?_; rintro e w2 ⟨rfl, hg2⟩; refine Hid.out ?_))
    obtain ⟨WB, hWB⟩ : ∃ WB, WB = w2.drew := ⟨_, rfl⟩
    have hN2 := HNb.out.on hbq (grown_some (hg4.trans hg2) b) ((hP.kept hg4).kept hg2)
    have z0 := hN2.c0
    have zf := hN2.fr
    have hNW : Pb w0 WB b g cap T (w.heap.size + 1) s' acc (.slice pa pn pc) := by rw [hWB]; exact hN2.on hbq (grown_some (gdrew (World.grownBy.refl w2 none)) b) hN2.p.drew
    have hce := hSt WB hNW.p
    have HNW := ld hNW
    have hS0 : WB.cell? ⟨w.heap.size + 1, 0, none⟩ = some (.slice pa pn pc) := hNW.c0
    clear hNW hN2 hSt hIs hn
    refine ld ?_
    go_wp2_with (go_at_call 48; refine (hrm _).mono ?_; rintro e w8 ⟨rfl, hw8⟩; rw [hw8]; clear hw8)
    refine wp_region_L (S := fun w' => w'.cell? ⟨w.heap.size + 1, 0, none⟩ = some (.slice pa pn pc)) (Z := [7]) (by kernel_rfl) ?_
    rw [← hWB]
    clear hWB z0 zf
    refine wpL_take (i := 0) (v := .pointer (some ⟨w.heap.size + 1, 0, none⟩)) rfl (by kernel_rfl) (by kernel_rfl) (by kernel_rfl) (fun _ _ _ h => h) (by kernel_rfl) (.inl ⟨rfl, fun w' hw' => ?_⟩) hS0 ?_
    ·go_simp
    refine wpL_take (i := 1) (v := .slice pa pn pc) rfl (by kernel_rfl) (by kernel_rfl) (by kernel_rfl) (fun _ _ _ h => h) (by kernel_rfl) (.inl ⟨rfl, fun w' hw' => ?_⟩) hS0 ?_
    ·go_simp
    refine wpL_take (i := 2) (v := .pointer (some ⟨b, 0, none⟩)) rfl (by kernel_rfl) (by kernel_rfl) (by kernel_rfl) (fun _ _ _ h => h) (by kernel_rfl) (.inl ⟨rfl, fun w' hw' => ?_⟩) hS0 ?_
    ·go_simp
    refine wpL_one (i := 3) (by kernel_rfl) ?_
    refine wpOp_step rfl (fun K' hK => ?_)
    split
    case isFalse hno => exact absurd rfl hno
    unfold Oper.wp
    go_simp
    refine hce.mono ?_
    rintro e w8 ⟨a1, n1, c1, a2, n2, c2, a3, n3, c3, a4, n4, c4, rfl, hk8, hp8, hg8⟩
    have H8 := HNW.out.on hbq hg8 hp8
    have hqlW := HNW.out.ql
    refine hK _ _ ⟨fun _ => H8.c0, ?_⟩
    clear hK K'
    refine wpL_one (i := 4) (by kernel_rfl) ?_
    refine wpOp_step rfl (fun K' hK => ?_)
    split
    case isFalse hno => exact absurd rfl hno
    unfold Oper.wp
    go_simp
    have H9 := H8.on hbq (ga w8 (.cells #[.string ⟨nm.toArray⟩, .slice a1 n1 c1, .slice a2 n2 c2, .slice a3 n3 c3, .slice a4 n4 c4, .int .i64 at_] 31) (some b)) (H8.p.alloc _)
    refine hK _ _ ⟨fun _ => H9.c0, ?_⟩
    clear hK K'
    have hql8 := H8.ql
    have hltW := HNW.out.gro.lt
    obtain ⟨xs2, ho2, hr2⟩ := H8.gro
    rw [List.length_map] at ho2
    refine wpL_one (i := 5) (by kernel_rfl) ?_
    refine wpOp_step rfl (fun K' hK => ?_)
    split
    case isFalse hno => exact absurd rfl hno
    refine wp_append_at _ _ 23 rfl (w.heap.size + 1 + 1) 31 it _ 6 120 Tryz.underlying23 hit hz hsz hby rfl (by decide) (.slice pa pn pc) acc.length xs2 rfl (ho2.alloc _) ⟨w8.heap.size, 0, none⟩ 1 1 [.string ⟨nm.toArray⟩, .slice a1 n1 c1, .slice a2 n2 c2, .slice a3 n3 c3, .slice a4 n4 c4, .int .i64 at_] rfl rfl (cell_row_new w8 [.string ⟨nm.toArray⟩, .slice a1 n1 c1, .slice a2 n2 c2, .slice a3 n3 c3, .slice a4 n4 c4, .int .i64 at_] 31) (by simp [Value.oneCell']) ?_ ?_ ?_ ?_
    ·unfold maxLen; omega
    ·omega
    ·simp only [World.size_alloc]; omega
    intro v' w9 hown' hgrow9 _ hvb
    have hrx : RepRow w8 (w.heap.size + 1 + 1) (Value.slice pa pn pc).ownBlock.toList (nodeD ⟨nm, ins, outs, ls, its, at_⟩) [.string ⟨nm.toArray⟩, .slice a1 n1 c1, .slice a2 n2 c2, .slice a3 n3 c3, .slice a4 n4 c4, .int .i64 at_] := RepRow.mono (by omega) (RepRow.toX (Value.slice pa pn pc).ownBlock.toList (fun k e => .inr (hltW k e)) hk8)
    have hG9 : GrowD w9 (w.heap.size + 1 + 1) 31 6 (acc.map nodeD ++ [nodeD ⟨nm, ins, outs, ls, its, at_⟩]) v' := growD_snoc hgrow9 (by rw [List.length_map]; exact hown') (RepRow.keptX (ga w8 _ none) (fun k e => by cases e) hr2) (RepRow.keptX (ga w8 _ none) (fun k e => by cases e) hrx) (by first | exact hvb | (rw [World.size_alloc] at hvb; rw [World.size_alloc]; exact hvb))
    have hG9b : w0.grownBy w9 (some b) := H9.g'.andThen hgrow9 (fun j e => .inl (by have := (ho2.lt j e).1; omega))
    have hq9 : ∀ k, k ≤ w.heap.size + 1 → some k ≠ (Value.slice pa pn pc).ownBlock := fun k hk e => by have := (ho2.lt k e.symm).1; omega
    have hP9 : Rp w9 b g cap T s2 := HP0.out.to hG9b (H9.p.st.kept hgrow9 (hq9 b (by omega))) H9.p.lt
    have hrow9 := (hgrow9.block (w.heap.size + 1) H9.ql (hq9 _ (Nat.le_refl _))).trans H9.row
    obtain ⟨va, vn, vc, rfl⟩ := hG9.form
    have hfr9 : ∀ j, w9.frozen? ⟨w.heap.size + 1, j, none⟩ = false := fun j => frozen_of_row w9 _ j _ _ hrow9
    have hc9 : w9.cell? ⟨w.heap.size + 1, 0, none⟩ = some (.slice pa pn pc) := cell_of_row w9 _ 0 _ _ _ hrow9
    refine hK _ _ ⟨fun _ => hc9, ?_⟩
    clear hK K'
    refine wpL_one (i := 6) (by kernel_rfl) ?_
    refine wpOp_step rfl (fun K' hK => ?_)
    split
    case isFalse hno => exact absurd rfl hno
    unfold Oper.wp
    go_simp
    refine hK _ _ ⟨fun _ => hc9, ?_⟩
    clear hK K'
    have hNn : Pb w0 (w9.setCell ⟨w.heap.size + 1, 0, none⟩ (.slice va vn vc)) b g cap T (w.heap.size + 1) s2 (acc ++ [⟨nm, ins, outs, ls, its, at_⟩]) (.slice va vn vc) := by
     have hg' : w0.grownBy (w9.setCell ⟨w.heap.size + 1, 0, none⟩ (.slice va vn vc)) (some b) := gset hG9b (.inl (by show w0.heap.size ≤ w.heap.size + 1; omega)) _
     refine ⟨HP0.out.to hg' (hP9.st.kept (grown_set w9 ⟨w.heap.size + 1, 0, none⟩ _) (by simp; omega)) hP9.lt, hg', ?_, ?_⟩
     ·rw [heap_setCell_same w9 (w.heap.size + 1) 0 _ _ _ hrow9]; simp
     ·rw [List.map_append]; exact GrowD.kept (grown_set w9 ⟨w.heap.size + 1, 0, none⟩ _) (fun k e => by cases e; exact Nat.lt_succ_self _) hG9
    refine wpL_one (i := 7) (by kernel_rfl) ?_
    refine wpOp_step rfl (fun K' hK => ?_)
    split
    case isFalse hno => exact absurd rfl hno
    unfold Oper.wp
    go_simp
    refine hK _ _ ⟨fun hno => absurd (by simp) hno, ?_⟩
    clear hK K'
    refine wpL_done (by kernel_rfl) ?_ _
    have HNn := ld hNn
    clear hNn hc9 hfr9 hrow9 hP9 hG9b hG9 hgrow9 hown' hvb H9 H8 hr2 ho2 hg8 hp8 HNW hS0 hce
    go_wp2
    go_roundg f'
    case measure => exact Nat.lt_succ_self _
    case rel => exact ⟨acc ++ [⟨nm, ins, outs, ls, its, at_⟩], s2, va, vn, vc, by omega, by simp; omega, ld ⟨HNn.out, HE.out⟩⟩
  ·have b0 : (s'.e == 0) = false := by rw [beq_eq_false_iff_ne]; exact he
   rw [if_neg (fun e => he e.1)] at hL
   have HTx : Hid (R = some (acc, s')) := ld hL.symm
   have HNx := HNb
   clear hL he HNb hP
   generalize s'.e = e0 at p2 b0
   refine Hid.out ?_
   have hgA := HNx.out.g'
   refine ld ?_
   go_wp2_with (with_reducible refine hold_st 2 ?_)
   refine ld ?_
   refine sg ((hgA.block w.heap.size (by omega) (by simp; omega)).trans hr0) ?_
   intro w7 hh7 hg7
   go_wp2
   (try simp only [Exit.inBlock, Exit.then])
   refine br hh7 Tryz.underlying25 ?_
   have hG : w.grownBy w7 (some b) := (hw0.trans hgA).andThen hg7 (fun j e => .inl (by cases e; exact Nat.le_refl _))
   rw [HTx.out]
   exact ⟨_, rfl, (HNx.out.gro.kept hg7 (fun k e => by cases e; omega)).mono (by omega), HH.out.to hG (HNx.out.p.st.kept hg7 (by simp; omega)) HNx.out.p.lt, hG⟩
end
open Go.RowKit Go.Maps Go.WideMaps
theorem toks_end : ∀ (f : Nat) (l : List UInt8) (a room : Nat) (T : List Lex.Tk), Lex.toks f l a room = .ok T → ∃ init x, T = init ++ [x] ∧ x.kind = 5 ∧ x.text = [] ∧ T.length ≤ room
 | 0, _, _, _, _, h => by unfold Lex.toks at h; cases h
 | f + 1, l, a, room, T, h => by
  unfold Lex.toks at h
  cases ht : Lex.tokAt (l.drop (Lex.skp false l)) with
  | bad e => rw [ht] at h; cases h
  | tok kd n t len =>
   rw [ht] at h
   simp only at h
   by_cases hr : room = 0
   ·rw [if_pos hr] at h; cases h
   rw [if_neg hr] at h
   by_cases hk : kd = 5
   ·rw [if_pos hk] at h
    cases h
    exact ⟨[], _, rfl, rfl, rfl, by simp; omega⟩
   rw [if_neg hk] at h
   cases hq : Lex.toks f ((l.drop (Lex.skp false l)).drop len) (a + Lex.skp false l + len) (room - 1) with
   | err p e => rw [hq] at h; cases h
   | ok T2 =>
    rw [hq] at h
    cases h
    obtain ⟨init, x, e, h1, h2, h3⟩ := toks_end f _ _ _ T2 hq
    refine ⟨_ :: init, x, by rw [e]; rfl, h1, h2, ?_⟩
    simp only [List.length_cons]
    omega
theorem tokens_end {l : List UInt8} {T : List Lex.Tk} (h : Lex.tokens l = .ok T) : T.length ≤ 20000 ∧ 0 < T.length ∧ ∀ i, i < T.length → ((Gram.tk T i).kind ≠ 5 ∨ (Gram.tk T i).text ≠ []) → i + 1 < T.length := by
 unfold Lex.tokens at h
 split at h
 ·cases h
 obtain ⟨init, x, rfl, h1, h2, h3⟩ := toks_end _ _ _ _ _ h
 refine ⟨h3, by simp, fun i hi hk => ?_⟩
 rcases Nat.lt_or_ge i init.length with hl | hl
 ·simp; omega
 ·exfalso
  have e : i = init.length := by simp at hi; omega
  subst e
  have e2 : Gram.tk (init ++ [x]) init.length = x := by unfold Gram.tk; simp [List.getD]
  rw [e2, h1, h2] at hk
  rcases hk with hk | hk <;> exact hk rfl
theorem results_cell_tmp2 {P : Program} {fn : Func} {p u1 u2 : Tmp} {ty : TypeId} (h : fn.results = #[.cell p ty, .tmp u1, .tmp u2]) (tmps : Array Value) (w : World) (g : Nat) (t : TypeId) (cs : Array Value) (fr : Nat × Nat) (d : TypeDesc) (v1 v2 : Value) (hv1 : tmps.getD u1 undef = v1) (hv2 : tmps.getD u2 undef = v2)
  (hp : tmps.getD p undef = .pointer (some ⟨g, 0, none⟩)) (hg : w.heap[g]? = some (.cells cs t fr))
  (hu : P.underlying ty = some d) (hd : (match d with | .struct _ | .array _ _ => true | _ => false) = true) (hi : (P.info? ty).map (·.size) = some cs.size) :
  (results fn tmps).run P w = .ok (.tuple #[.agg cs, v1, v2]) w := by
 have hp' : tmps[p]?.getD undef = .pointer (some ⟨g, 0, none⟩) := by simpa using hp
 have hv1' : tmps[u1]?.getD undef = v1 := by simpa using hv1
 have hv2' : tmps[u2]?.getD undef = v2 := by simpa using hv2
 simp [results, h, hp', hv1', hv2', asAddr, run_loadVar_row w g t ty cs fr d hg hu hd hi]
theorem results_cell_tmp {P : Program} {fn : Func} {p u1 : Tmp} {ty : TypeId} (h : fn.results = #[.cell p ty, .tmp u1]) (tmps : Array Value) (w : World) (g : Nat) (t : TypeId) (cs : Array Value) (fr : Nat × Nat) (d : TypeDesc) (v1 : Value) (hv1 : tmps.getD u1 undef = v1)
  (hp : tmps.getD p undef = .pointer (some ⟨g, 0, none⟩)) (hg : w.heap[g]? = some (.cells cs t fr))
  (hu : P.underlying ty = some d) (hd : (match d with | .struct _ | .array _ _ => true | _ => false) = true) (hi : (P.info? ty).map (·.size) = some cs.size) :
  (results fn tmps).run P w = .ok (.tuple #[.agg cs, v1]) w := by
 have hp' : tmps[p]?.getD undef = .pointer (some ⟨g, 0, none⟩) := by simpa using hp
 have hv1' : tmps[u1]?.getD undef = v1 := by simpa using hv1
 simp [results, h, hp', hv1', asAddr, run_loadVar_row w g t ty cs fr d hg hu hd hi]
def rpsPost (w : World) (r : Gram.Rf.Res) (e : Ending) (w' : World) : Prop :=
 match r with
 | .ok l => ∃ a L c, e = .returned (.tuple #[.agg #[.slice a L c], .int .i64 0, .int .i64 0]) ∧ RepC w' w.heap.size [] (.l 31 6 (l.map nodeD)) (.slice a L c) ∧ w.grownBy w' none
 | .bad a er => e = .returned (.tuple #[.agg #[.slice none 0 0], .int .i64 a, .int .i64 er]) ∧ er ≠ 0 ∧ w.grownBy w' none
 | .fuel => False
def prE : Obj := .cells #[.slice none 0 0] 25
theorem row1_set {w : World} {b : Nat} {u : Value} {t : TypeId} {fr : Nat × Nat} (h : w.heap[b]? = some (.cells #[u] t fr)) (v : Value) : ((w.setCell ⟨b, 0, none⟩ v).drew).heap[b]? = some (.cells #[v] t fr) := by
 show (w.setCell ⟨b, 0, none⟩ v).heap[b]? = _
 simp only [World.setCell, Array.getElem?_modify, if_true, h, Option.map_some]
 rfl
theorem rparse_any (s : ByteArray) (w : World) (hf : Gram.Rf.parse s.data.toList ≠ .fuel) : Calls Tryz.prog 20 #[.string s] w fun e w' => rpsPost w (Gram.Rf.parse s.data.toList) e w' := by
 obtain ⟨W0, hW0⟩ : ∃ W, W = w.alloc prE := ⟨_, rfl⟩
 have hgW : w.grownBy W0 none := by rw [hW0]; exact ga w _ none
 have hr0 : W0.heap[w.heap.size]? = some prE := by rw [hW0]; exact heap_alloc_new w _
 have hs0 : W0.heap.size = w.heap.size + 1 := by rw [hW0]; simp
 have hT := rtokens_any s W0
 rw [hW0] at hT
 unfold prE at hT
 have HW0 := ld hW0
 clear hW0
 cases hr : Lex.tokens s.data.toList with
 | err p x =>
  rw [hr] at hT
  simp only [tkRel] at hT
  have hR : Gram.Rf.parse s.data.toList = .bad (p : Int) x := by unfold Gram.Rf.parse; rw [hr]
  rw [hR]
  clear hf hR hr
  go_enter Tryz.func20, Tryz.ntmps20
  go_wp2_with (first | (go_at_call 30; refine hT.mono ?_; rintro e w1 ⟨v, a, er, rfl, ⟨rfl, rfl, rfl, hx⟩, hg1⟩; refine Hid.out ?_))
  rw [show (Obj.cells #[Value.slice none 0 0] 25) = prE from rfl, ← HW0.out] at hg1
  have hce := (hg1.block w.heap.size (by omega) (by simp)).trans hr0
  have hx2 : (er != 0) = true := by simp [hx]
  have HG := ld (hgW.trans hg1)
  have HX := ld hx
  clear hg1 hT hx HW0
  refine ld ?_
  go_wp2_with (with_reducible refine hold_st 2 ?_)
  refine ld ?_
  refine sg hce ?_
  intro w7 hh7 hg7
  go_wp2
  (try simp only [Exit.inBlock, Exit.then])
  refine bodyPost_ret (results_cell_tmp2 rfl _ _ w.heap.size 25 _ (0, 0) _ _ _ rfl rfl rfl hh7 Tryz.underlying25 rfl (by kernel_rfl)) rfl ?_
  exact ⟨rfl, HX.out, HG.out.andThen hg7 (fun j e => .inl (by cases e; exact Nat.le_refl _))⟩
 | ok T =>
  rw [hr] at hT
  simp only [tkRel] at hT
  obtain ⟨hm, h0, hlast⟩ := tokens_end hr
  cases hq : Gram.Rf.nodes T (20 * T.length + 100) [] ⟨0, 0, 0, 0⟩ with
  | none => exact absurd (by unfold Gram.Rf.parse; rw [hr]; simp only [hq]) hf
  | some x =>
  obtain ⟨l, s'⟩ := x
  have hR : Gram.Rf.parse s.data.toList = if s'.e = 0 then .ok l else .bad s'.bad s'.e := by unfold Gram.Rf.parse; rw [hr]; simp only [hq]
  obtain ⟨R, hRR⟩ : ∃ R, R = (if s'.e = 0 then Gram.Rf.Res.ok l else .bad s'.bad s'.e) := ⟨_, rfl⟩
  rw [hR, ← hRR]
  have HR := ld hRR
  clear hf hR hr hRR
  go_enter Tryz.func20, Tryz.ntmps20
  go_wp2_with (first | (go_at_call 30; refine hT.mono ?_; rintro e w1 ⟨v, a, er, rfl, ⟨rfl, rfl, hown⟩, hg1⟩; obtain ⟨g, cap, rfl⟩ : ∃ g cap, v = .slice (some ⟨g, 0, none⟩) T.length cap := (by rcases hown.2 with ⟨_, h9⟩ | ⟨g, cap, cur, e, _⟩; exact absurd h9 (by omega); exact ⟨g, cap, e⟩); refine Hid.out ?_))
  rw [show (Obj.cells #[Value.slice none 0 0] 25) = prE from rfl, ← HW0.out] at hg1
  have hgA := hgW.trans hg1
  have hce1 := (hg1.block w.heap.size (by omega) (by simp)).trans hr0
  have hs1 := hg1.size
  obtain ⟨W2, hW2⟩ : ∃ W2, W2 = w1.alloc (.cells #[.slice (some ⟨g, 0, none⟩) T.length cap, .int .i64 0, .int .i64 0, .int .i64 0, .int .i64 0] 70 (0, 0)) := ⟨_, rfl⟩
  have hg2 : w1.grownBy W2 none := by rw [hW2]; exact ga w1 _ none
  have hgl : g < w1.heap.size := (hown.lt g rfl).2
  have hP2 : Rp W2 w1.heap.size g cap T ⟨0, 0, 0, 0⟩ := ⟨⟨(hown.mono (Nat.zero_le _)).kept hg2 (by simp [Value.ownBlock]), by omega, hm, hlast⟩, by unfold Rst; rw [hW2]; exact heap_alloc_new w1 _, h0⟩
  have hpg := rprogram_any w1.heap.size g cap T (20 * T.length + 100) ⟨0, 0, 0, 0⟩ W2 hP2 (by rw [hq]; rfl)
  rw [hq] at hpg
  simp only [pgPost] at hpg
  rw [hW2] at hpg
  have HG2 := ld hg2
  have HW2 := ld hW2
  have hs2 : W2.heap.size = w1.heap.size + 1 := by rw [hW2]; simp
  have hce2 := (hg2.block w.heap.size (by omega) (by simp)).trans hce1
  clear hT hg2 hW2 hq hown hP2 hlast
  refine ld ?_
  go_wp2_with (first | (go_at_call 31; refine hpg.mono ?_; rintro e w3 ⟨v3, rfl, hk3, hP3, hg3⟩; obtain ⟨va, vn, vc, rfl⟩ := hk3.form; refine Hid.out ?_))
  rw [← HW2.out] at hg3 hk3
  have hce3 := (hg3.block w.heap.size (by omega) (by simp; omega)).trans hce2
  have hsz3 := hg3.size
  refine ld ?_
  go_wp2_with (with_reducible refine hold_st 9 ?_)
  refine ld ?_
  refine sg (heap_alloc_new w3 _) ?_
  intro w5 hh5 hg5
  have hgx : w3.grownBy w5 none := (ga w3 _ none).andThen hg5 (fun j e => .inl (by cases e; exact Nat.le_refl _))
  have hP5 := hP3.kept hgx
  have p2 := hP5.st.c2
  have p3 := hP5.st.c3
  have z5 := cell_of_row w5 _ 0 _ _ _ hh5
  have hce5 := (hgx.block w.heap.size (by omega) (by simp)).trans hce3
  have hk5 : RepC w5 W2.heap.size [] (.l 31 6 (l.map nodeD)) (.slice va vn vc) := RepC.kept hgx (fun k e => by cases e) hk3.rep
  have hG5 : w.grownBy w5 none := (hgA.trans (HG2.out.andThen hg3 (fun j e => .inl (by cases e; exact Nat.le_refl _)))).trans hgx
  have HK := ld (And.intro hk5 (And.intro hG5 hce5))
  clear hk5 hk3 hG5 hP5 hP3 hg5 hgx hg3 hce3 hpg HG2 HW2 HW0 hh5
  by_cases he : s'.e = 0
  ·have HR2 := ld (HR.out.trans (if_pos he))
   rw [he] at p2
   clear p3 he HR
   go_wp2_with (with_reducible refine hold_st 2 ?_)
   refine ld ?_
   refine sg hce5 ?_
   intro w7 hh7 hg7
   go_wp2
   (try simp only [Exit.inBlock, Exit.then])
   refine bodyPost_ret (results_cell_tmp2 rfl _ _ w.heap.size 25 _ (0, 0) _ _ _ rfl rfl rfl hh7 Tryz.underlying25 rfl (by kernel_rfl)) rfl ?_
   rw [HR2.out]
   exact ⟨_, _, _, rfl, RepC.mono (by omega) (RepC.kept hg7 (fun k e => by cases e; omega) HK.out.1), HK.out.2.1.andThen hg7 (fun j e => .inl (by cases e; exact Nat.le_refl _))⟩
  ·have HR2 := ld (HR.out.trans (if_neg he))
   clear HR
   have hb : (s'.e != 0) = true := by simp [he]
   have HE := ld he
   clear he
   generalize s'.e = e0 at *
   generalize s'.bad = b0 at *
   have c0 : w5.cell? ⟨w.heap.size, 0, none⟩ = some (.slice none 0 0) := cell_of_row w5 _ 0 _ _ _ hce5
   have d0 := frozen_of_row w5 _ 0 _ _ hce5
   clear hce5
   go_wp2
   go_region
   go_wp2
   (try simp only [Exit.inBlock, Exit.then])
   refine bodyPost_ret (results_cell_tmp2 rfl _ _ w.heap.size 25 #[.slice none 0 0] (0, 0) _ _ _ rfl rfl rfl (row1_set HK.out.2.2 _) Tryz.underlying25 rfl (by kernel_rfl)) rfl ?_
   rw [HR2.out]
   exact ⟨rfl, HE.out, gdrew (HK.out.2.1.andThen (grown_set w5 ⟨w.heap.size, 0, none⟩ _) (fun j e => .inl (by cases e; exact Nat.le_refl _)))⟩
end Go.Proofs.YtonafedbehnneaaGreat
namespace Go.Proofs.YtonafedbehnneaaGreat.Gram.Rf
open Go.RowKit
open Lex (Tk)
def mu (T : List Tk) (s : St) : Nat := if s.e = 0 then T.length - s.i else 0
def Fw (T : List Tk) (k : Nat) (s0 s : St) : Prop := s.i ≤ T.length ∧ (s.e = 0 → s0.e = 0 ∧ s0.i + k ≤ s.i)
def Adv {α : Type} (T : List Tk) (k : Nat) (s0 : St) (r : Option (α × St)) : Prop := ∃ x s, r = some (x, s) ∧ Fw T k s0 s
section
variable {T : List Tk} {α β : Type} {s0 s s1 s2 : St} {k j m : Nat}
theorem Fw.mu (h : Fw T k s0 s) : mu T s ≤ mu T s0 - k := by
 unfold Rf.mu
 by_cases h0 : s.e = 0
 ·have := h.2 h0
  rw [if_pos h0, if_pos this.1]
  omega
 ·rw [if_neg h0]; omega
theorem Fw.trans (h : Fw T k s0 s1) (g : Fw T j s1 s2) : Fw T (k + j) s0 s2 := ⟨g.1, fun h0 => ⟨(h.2 (g.2 h0).1).1, by have := g.2 h0; have := h.2 this.1; omega⟩⟩
theorem Fw.mono (h : Fw T k s0 s) (hj : j ≤ k) : Fw T j s0 s := ⟨h.1, fun h0 => ⟨(h.2 h0).1, by have := h.2 h0; omega⟩⟩
theorem Fw.refl (h : s.i ≤ T.length) : Fw T 0 s s := ⟨h, fun h0 => ⟨h0, by omega⟩⟩
theorem Fw.bad (h : s.i ≤ T.length) (he : ¬ s.e = 0) (k : Nat) (s0 : St) : Fw T k s0 s := ⟨h, fun h0 => absurd h0 he⟩
theorem Adv.some {x : α} (h : Fw T k s0 s) : Adv T k s0 (Option.some (x, s)) := ⟨x, s, rfl, h⟩
theorem Adv.bind {r : Option (α × St)} {g : α → St → Option (β × St)} (h : Adv T k s0 r) (hg : ∀ x s, Fw T k s0 s → Adv T m s0 (g x s)) : Adv T m s0 (bindS r g) := by
 obtain ⟨x, s, rfl, h2⟩ := h
 exact hg x s h2
theorem Adv.from {r : Option (α × St)} (h : Fw T k s0 s) (g : Adv T j s r) : Adv T (k + j) s0 r := by
 obtain ⟨x, s, rfl, h2⟩ := g
 exact ⟨x, s, rfl, h.trans h2⟩
theorem Adv.mono {r : Option (α × St)} (h : Adv T k s0 r) (hj : j ≤ k) : Adv T j s0 r := by
 obtain ⟨x, s, rfl, h2⟩ := h
 exact ⟨x, s, rfl, h2.mono hj⟩
theorem Adv.ite {c : Prop} [Decidable c] {r q : Option (α × St)} (h : c → Adv T m s0 r) (h2 : ¬ c → Adv T m s0 q) : Adv T m s0 (if c then r else q) := by
 split
 ·next hb => exact h hb
 ·next hb => exact h2 hb
theorem fail_fw (c : Int) (hc : ¬ c = 0) (k : Nat) (s0 s : St) : Fw T k s0 (fail T c s) := by
 unfold fail
 split
 ·exact ⟨by show T.length - 1 ≤ T.length; omega, fun e => absurd e hc⟩
 ·next h => exact ⟨by show T.length - 1 ≤ T.length; omega, fun e => absurd e h⟩
theorem tk_lt {i : Nat} (h : tk T i ≠ endTk) : i < T.length := by
 rcases Nat.lt_or_ge i T.length with h1 | h1
 ·exact h1
 ·exact absurd (by unfold tk; simp [List.getD, List.getElem?_eq_none h1]) h
theorem is_lt {w : B} (hw : w ≠ []) (h : is T w s = true) : s.e = 0 ∧ s.i < T.length := by
 unfold is at h
 simp only [Bool.and_eq_true, beq_iff_eq] at h
 exact ⟨h.1.1, tk_lt fun e => by rw [e] at h; exact hw (by have := h.2; simpa [endTk] using this.symm)⟩
theorem kd_lt {i : Nat} (h : (tk T i).kind ≠ 5) : i < T.length := tk_lt fun e => by rw [e] at h; exact h rfl
theorem adv_fw (h0 : s.e = 0) (h : s.i < T.length) : Fw T 1 s (adv s) := ⟨h, fun _ => ⟨h0, Nat.le_refl _⟩⟩
theorem is_adv {w : B} (hw : w ≠ []) (h : is T w s = true) : Fw T 1 s (adv s) := adv_fw (is_lt hw h).1 (is_lt hw h).2
theorem mu_pos (h0 : s.e = 0) (h : s.i < T.length) : 1 ≤ mu T s := by unfold mu; rw [if_pos h0]; omega
theorem take_fw {w : B} (hw : w ≠ []) (s : St) : Fw T 1 s (take T w s) := by
 unfold take
 split
 ·next h => exact is_adv hw h
 ·exact fail_fw 12 (by decide) _ _ _
theorem maybe_fw {w : B} (hw : w ≠ []) (hs : s.i ≤ T.length) : Fw T 0 s (maybe T w s) := by
 unfold maybe
 split
 ·next h => exact (is_adv hw h).mono (Nat.zero_le _)
 ·exact Fw.refl hs
theorem name_fw (s : St) : Fw T 1 s (name T s).2 := by
 unfold name
 split
 ·next h =>
  unfold nameOk at h
  simp only [Bool.and_eq_true, beq_iff_eq] at h
  exact adv_fw h.1 (kd_lt (by rw [h.2]; decide))
 ·exact fail_fw 12 (by decide) _ _ _
theorem size_fw (s : St) : Fw T 1 s (size T s).2 := by
 unfold size
 split
 ·next h =>
  unfold sizeOk at h
  simp only [Bool.and_eq_true, beq_iff_eq] at h
  exact adv_fw h.1.1 (kd_lt (by rw [h.1.2]; decide))
 ·exact fail_fw 12 (by decide) _ _ _
theorem kind_fw (s : St) : Fw T 1 s (kind T s).2 := by
 unfold kind
 split
 ·next h =>
  unfold kindOk at h
  simp only [Bool.and_eq_true, beq_iff_eq] at h
  exact adv_fw h.1.1 (kd_lt (by rw [h.1.2]; decide))
 ·exact fail_fw 12 (by decide) _ _ _
theorem edge_fw (hs : s.i ≤ T.length) : Fw T 1 s (edge T s).2 := ((maybe_fw (by decide) hs).trans (name_fw _)).mono (by omega)
theorem opened_fw (hs : s.i ≤ T.length) : Fw T 0 s (opened s) := ⟨hs, fun h => ⟨h, Nat.le_refl _⟩⟩
theorem closed_fw (hs : s.i ≤ T.length) : Fw T 0 s (closed s) := ⟨hs, fun h => ⟨h, Nat.le_refl _⟩⟩
theorem mu_opened (s : St) : mu T (opened s) = mu T s := rfl
theorem inf_lt {lv : Nat} (h : ¬ inf T lv s = 0) : s.e = 0 ∧ s.i < T.length := by
 unfold inf at h
 split at h
 ·next hc => exact ⟨hc.1, kd_lt (by rcases hc.2 with h2 | h2 <;> rw [h2] <;> decide)⟩
 ·exact absurd rfl h
end
theorem indexed_adv (T : List Tk) : ∀ f x s, s.i ≤ T.length → mu T s + 1 ≤ f → Adv T 0 s (indexed T f x s)
 | 0, _, _, _, h => by omega
 | f + 1, x, s, hs, h => by
  unfold indexed
  refine Adv.ite (fun hi => ?_) fun _ => Adv.some (Fw.refl hs)
  have h1 := is_adv (by decide) hi
  have h2 := (h1.trans (size_fw (T := T) (adv s))).trans (take_fw (w := [93]) (by decide) _)
  have h3 := h2.mu
  exact (Adv.from h2 (indexed_adv T f _ _ h2.1 (by have := mu_pos (is_lt (by decide) hi).1 (is_lt (by decide) hi).2; omega))).mono (by omega)
structure Enough (T : List Tk) (f : Nat) : Prop where
 exp : ∀ s, s.i ≤ T.length → 20 * mu T s + 16 ≤ f → Adv T 1 s (Rf.exp T f s)
 arrow : ∀ s, s.i ≤ T.length → 20 * mu T s + 15 ≤ f → Adv T 1 s (Rf.arrow T f s)
 fby : ∀ s, s.i ≤ T.length → 20 * mu T s + 14 ≤ f → Adv T 1 s (Rf.fby T f s)
 imp : ∀ s, s.i ≤ T.length → 20 * mu T s + 13 ≤ f → Adv T 1 s (Rf.imp T f s)
 level : ∀ n s, n ≤ 8 → s.i ≤ T.length → 20 * mu T s + 12 ≤ f + n → Adv T 1 s (Rf.level T f n s)
 levels : ∀ n a s, n < 8 → s.i ≤ T.length → 20 * mu T s + 1 ≤ f → Adv T 0 s (Rf.levels T f n a s)
 unary : ∀ s, s.i ≤ T.length → 20 * mu T s + 3 ≤ f → Adv T 1 s (Rf.unary T f s)
 signed : ∀ s, s.i ≤ T.length → 20 * mu T s + 2 ≤ f → Adv T 1 s (Rf.signed T f s)
 exps : ∀ l s, s.i ≤ T.length → 20 * mu T s + 17 ≤ f → Adv T 1 s (Rf.exps T f l s)
 call : ∀ s, s.i ≤ T.length → 20 * mu T s + 18 ≤ f → Adv T 1 s (Rf.call T f s)
 prim : ∀ s, s.i ≤ T.length → 20 * mu T s + 1 ≤ f → Adv T 1 s (Rf.prim T f s)
 wordE : ∀ t s, s.e = 0 → s.i < T.length → 20 * mu T s ≤ f → Adv T 1 s (Rf.wordE T f t s)
theorem enough (T : List Tk) : ∀ f, Enough T f
 | 0 => ⟨fun _ _ h => by omega, fun _ _ h => by omega, fun _ _ h => by omega, fun _ _ h => by omega, fun _ _ _ _ h => by omega, fun _ _ _ _ _ h => by omega, fun _ _ h => by omega, fun _ _ h => by omega, fun _ _ _ h => by omega, fun _ _ h => by omega, fun _ _ h => by omega, fun _ _ h0 h1 h => by have := mu_pos h0 h1; omega⟩
 | f + 1 => by
  have E := enough T f
  constructor
  ·intro s hs h
   unfold Rf.exp
   refine Adv.ite (fun _ => Adv.some (fail_fw 2 (by decide) _ _ _)) fun _ => ?_
   refine ((Adv.from (opened_fw hs) (E.arrow (opened s) hs (by rw [mu_opened]; omega))).mono (j := 1) (by omega)).bind fun x s1 h1 => ?_
   exact Adv.some ((h1.trans (closed_fw h1.1)).mono (by omega))
  ·intro s hs h
   unfold Rf.arrow
   refine (E.fby s hs (by omega)).bind fun a s1 h1 => ?_
   have m1 := h1.mu
   refine Adv.ite (fun hi => ?_) fun _ => Adv.some h1
   have h2 := is_adv (by decide) hi
   have m2 := h2.mu
   have p := mu_pos (is_lt (by decide) hi).1 (is_lt (by decide) hi).2
   refine (Adv.from (h1.trans h2) (E.arrow _ h2.1 (by omega))).bind fun b s2 h3 => ?_
   exact Adv.some (h3.mono (by omega))
  ·intro s hs h
   unfold Rf.fby
   refine (E.imp s hs (by omega)).bind fun a s1 h1 => ?_
   have m1 := h1.mu
   refine Adv.ite (fun hi => ?_) fun _ => Adv.some h1
   have h2 := is_adv (by decide) hi
   have m2 := h2.mu
   have p := mu_pos (is_lt (by decide) hi).1 (is_lt (by decide) hi).2
   refine (Adv.from (h1.trans h2) (E.fby _ h2.1 (by omega))).bind fun b s2 h3 => ?_
   exact Adv.some (h3.mono (by omega))
  ·intro s hs h
   unfold Rf.imp
   refine (E.level 0 s (by omega) hs (by omega)).bind fun a s1 h1 => ?_
   have m1 := h1.mu
   refine Adv.ite (fun hi => ?_) fun _ => Adv.some h1
   have h2 := is_adv (by decide) hi
   have m2 := h2.mu
   have p := mu_pos (is_lt (by decide) hi).1 (is_lt (by decide) hi).2
   refine (Adv.from (h1.trans h2) (E.imp _ h2.1 (by omega))).bind fun b s2 h3 => ?_
   exact Adv.some (h3.mono (by omega))
  ·intro n s hn hs h
   unfold Rf.level
   refine Adv.ite (fun _ => E.unary s hs (by omega)) fun h8 => ?_
   refine (E.level (n + 1) s (by omega) hs (by omega)).bind fun a s1 h1 => ?_
   have m1 := h1.mu
   exact (Adv.from h1 (E.levels n a s1 (by omega) h1.1 (by omega))).mono (by omega)
  ·intro n a s hn hs h
   unfold Rf.levels
   refine Adv.ite (fun _ => Adv.some (Fw.refl hs)) fun hi => ?_
   have hl := inf_lt hi
   have h2 := adv_fw hl.1 hl.2
   have m2 := h2.mu
   have p := mu_pos hl.1 hl.2
   refine (Adv.from h2 (E.level (n + 1) _ (by omega) h2.1 (by omega))).bind fun b s2 h3 => ?_
   have m3 := h3.mu
   refine Adv.ite (fun _ => Adv.some (h3.mono (by omega))) fun _ => ?_
   exact (Adv.from h3 (E.levels n _ s2 hn h3.1 (by omega))).mono (by omega)
  ·intro s hs h
   unfold Rf.unary
   refine Adv.ite (fun _ => ?_) fun _ => E.signed s hs (by omega)
   refine Adv.ite (fun _ => Adv.some (fail_fw 2 (by decide) _ _ _)) fun _ => ?_
   refine ((Adv.from (opened_fw hs) (E.signed (opened s) hs (by rw [mu_opened]; omega))).mono (j := 1) (by omega)).bind fun x s1 h1 => ?_
   exact Adv.some ((h1.trans (closed_fw h1.1)).mono (by omega))
  ·intro s hs h
   unfold Rf.signed
   simp only
   refine Adv.ite (fun hi => ?_) fun _ => Adv.ite (fun hi => ?_) fun _ => Adv.ite (fun hi => ?_) fun _ => ?_
   ·have h2 := is_adv (by decide) hi
    have m2 := h2.mu
    have p := mu_pos (is_lt (by decide) hi).1 (is_lt (by decide) hi).2
    exact (Adv.from h2 (E.unary _ h2.1 (by omega))).bind fun x s1 h1 => Adv.some (h1.mono (by omega))
   ·have h2 := is_adv (by decide) hi
    have m2 := h2.mu
    have p := mu_pos (is_lt (by decide) hi).1 (is_lt (by decide) hi).2
    exact (Adv.from h2 (E.unary _ h2.1 (by omega))).bind fun x s1 h1 => Adv.some (h1.mono (by omega))
   ·have h2 := is_adv (by decide) hi
    have m2 := h2.mu
    have p := mu_pos (is_lt (by decide) hi).1 (is_lt (by decide) hi).2
    refine Adv.ite (fun hv => ?_) fun _ => ?_
    ·have h3 : Fw T 1 (adv s) (adv (adv s)) := adv_fw (is_lt (by decide) hi).1 (kd_lt (by show (tk T (s.i + 1)).kind ≠ 5; rw [hv.1]; decide))
     have m3 := (h2.trans h3).mu
     exact (Adv.from (h2.trans h3) (indexed_adv T f _ _ h3.1 (by omega))).mono (by omega)
    ·exact (Adv.from h2 (E.unary _ h2.1 (by omega))).bind fun x s1 h1 => Adv.some (h1.mono (by omega))
   ·refine (E.prim s hs (by omega)).bind fun x s1 h1 => ?_
    have m1 := h1.mu
    exact (Adv.from h1 (indexed_adv T f x s1 h1.1 (by omega))).mono (by omega)
  ·intro l s hs h
   unfold Rf.exps
   refine Adv.ite (fun h0 => ?_) fun h0 => Adv.some (Fw.bad hs h0 _ _)
   refine Adv.ite (fun _ => Adv.some (fail_fw 2 (by decide) _ _ _)) fun _ => ?_
   refine (E.exp s hs (by omega)).bind fun x s1 h1 => ?_
   have m1 := h1.mu
   refine Adv.ite (fun hi => ?_) fun _ => Adv.some h1
   have h2 := is_adv (by decide) hi
   have m2 := h2.mu
   have p := mu_pos (is_lt (by decide) hi).1 (is_lt (by decide) hi).2
   exact (Adv.from (h1.trans h2) (E.exps _ _ h2.1 (by omega))).mono (by omega)
  ·intro s hs h
   unfold Rf.call
   simp only
   have h1 := take_fw (T := T) (w := [40]) (by decide) s
   have m1 := h1.mu
   refine Adv.ite (fun _ => Adv.some ((h1.trans (take_fw (by decide) _)).mono (by omega))) fun _ => ?_
   refine (Adv.from h1 (E.exps [] _ h1.1 (by omega))).bind fun l s2 h2 => ?_
   exact Adv.some ((h2.trans (take_fw (by decide) _)).mono (by omega))
  ·intro s hs h
   unfold Rf.prim
   simp only
   refine Adv.ite (fun h0 => ?_) fun h0 => Adv.some (Fw.bad hs h0 _ _)
   refine Adv.ite (fun hk => ?_) fun _ => Adv.ite (fun hk => ?_) fun _ => Adv.ite (fun hk => ?_) fun _ => Adv.ite (fun hk => ?_) fun _ => Adv.some (fail_fw 12 (by decide) _ _ _)
   ·have hl : s.i < T.length := kd_lt (by rw [hk]; decide)
    have h2 := adv_fw h0 hl
    have m2 := h2.mu
    have p := mu_pos h0 hl
    refine Adv.ite (fun _ => ?_) fun _ => Adv.some h2
    exact (Adv.from h2 (E.call _ h2.1 (by omega))).bind fun l s1 h1 => Adv.some (h1.mono (by omega))
   ·have hl : s.i < T.length := kd_lt (by rw [hk]; decide)
    exact Adv.ite (fun _ => Adv.some (fail_fw 12 (by decide) _ _ _)) fun _ => Adv.some (adv_fw h0 hl)
   ·have hl : s.i < T.length := kd_lt (by rw [hk]; decide)
    have h2 := adv_fw h0 hl
    have m2 := h2.mu
    have p := mu_pos h0 hl
    refine Adv.ite (fun _ => ?_) fun _ => Adv.ite (fun _ => ?_) fun _ => Adv.some (fail_fw 12 (by decide) _ _ _)
    ·exact (Adv.from h2 (E.exp _ h2.1 (by omega))).bind fun y s1 h1 => Adv.some ((h1.trans (take_fw (by decide) _)).mono (by omega))
    ·exact (Adv.from h2 (E.exps [] _ h2.1 (by omega))).bind fun y s1 h1 => Adv.some ((h1.trans (take_fw (by decide) _)).mono (by omega))
   ·have hl : s.i < T.length := kd_lt (by rw [hk]; decide)
    exact E.wordE _ s h0 hl (by omega)
  ·intro t s h0 hl h
   unfold Rf.wordE
   simp only
   have h2 := adv_fw h0 hl
   have m2 := h2.mu
   have p := mu_pos h0 hl
   have h1 := h2.trans (take_fw (T := T) (w := [40]) (by decide) (adv s))
   have m1 := h1.mu
   have hn := h1.trans (name_fw (T := T) (take T [40] (adv s)))
   have mn := hn.mu
   refine Adv.ite (fun _ => Adv.some h2) fun _ => Adv.ite (fun _ => Adv.some h2) fun _ => Adv.ite (fun _ => ?_) fun _ => Adv.ite (fun _ => ?_) fun _ => Adv.ite (fun _ => ?_) fun _ => Adv.ite (fun _ => ?_) fun _ => Adv.ite (fun _ => ?_) fun _ => Adv.ite (fun _ => ?_) fun _ => Adv.ite (fun _ => ?_) fun _ => Adv.ite (fun _ => ?_) fun _ => Adv.ite (fun _ => ?_) fun _ => Adv.some (fail_fw 12 (by decide) _ _ _)
   ·refine (Adv.from h2 (E.exp _ h2.1 (by omega))).bind fun x s3 h3 => ?_
    have h4 := h3.trans (take_fw (T := T) (w := [116, 104, 101, 110]) (by decide) s3)
    have m4 := h4.mu
    refine (Adv.from h4 (E.exp _ h4.1 (by omega))).bind fun y s5 h5 => ?_
    have h6 := h5.trans (take_fw (T := T) (w := [101, 108, 115, 101]) (by decide) s5)
    have m6 := h6.mu
    exact (Adv.from h6 (E.exp _ h6.1 (by omega))).bind fun z s7 h7 => Adv.some (h7.mono (by omega))
   ·refine (Adv.from h1 (E.exp _ h1.1 (by omega))).bind fun x s3 h3 => ?_
    have h4 := h3.trans (take_fw (T := T) (w := [44]) (by decide) s3)
    have h5 := h4.trans (edge_fw h4.1)
    exact Adv.some ((h5.trans (take_fw (by decide) _)).mono (by omega))
   ·have h4 := hn.trans (take_fw (T := T) (w := [44]) (by decide) _)
    have m4 := h4.mu
    refine (Adv.from h4 (E.exp _ h4.1 (by omega))).bind fun x s5 h5 => ?_
    have h6 := h5.trans (take_fw (T := T) (w := [44]) (by decide) s5)
    have m6 := h6.mu
    exact (Adv.from h6 (E.exp _ h6.1 (by omega))).bind fun y s7 h7 => Adv.some ((h7.trans (take_fw (by decide) _)).mono (by omega))
   ·have h4 := (h1.trans (kind_fw (T := T) _)).trans (take_fw (T := T) (w := [44]) (by decide) _)
    have m4 := h4.mu
    exact (Adv.from h4 (E.exp _ h4.1 (by omega))).bind fun x s5 h5 => Adv.some ((h5.trans (take_fw (by decide) _)).mono (by omega))
   ·have h4 := (((h1.trans (size_fw (T := T) _)).trans (take_fw (T := T) (w := [44]) (by decide) _)).trans (size_fw (T := T) _)).trans (take_fw (T := T) (w := [41]) (by decide) _)
    exact Adv.some (h4.mono (by omega))
   ·refine (Adv.from hn (E.call _ hn.1 (by omega))).bind fun l s3 h3 => ?_
    have h4 := h3.trans (take_fw (T := T) (w := [44]) (by decide) s3)
    have m4 := h4.mu
    exact (Adv.from h4 (E.exp _ h4.1 (by omega))).bind fun x s5 h5 => Adv.some ((h5.trans (take_fw (by decide) _)).mono (by omega))
   ·refine (Adv.from h1 (E.exp _ h1.1 (by omega))).bind fun x s3 h3 => ?_
    have h4 := ((h3.trans (take_fw (T := T) (w := [44]) (by decide) s3)).trans (size_fw (T := T) _)).trans (take_fw (T := T) (w := [41]) (by decide) _)
    exact Adv.some (h4.mono (by omega))
   ·have h4 := hn.trans (take_fw (T := T) (w := [44]) (by decide) _)
    have m4 := h4.mu
    exact (Adv.from h4 (E.exps [] _ h4.1 (by omega))).bind fun x s5 h5 => Adv.some ((h5.trans (take_fw (by decide) _)).mono (by omega))
   ·have h4 := hn.trans (take_fw (T := T) (w := [44]) (by decide) _)
    have m4 := h4.mu
    refine (Adv.from h4 (E.exp _ h4.1 (by omega))).bind fun x s5 h5 => ?_
    have h6 := h5.trans (take_fw (T := T) (w := [44]) (by decide) s5)
    have m6 := h6.mu
    exact (Adv.from h6 (E.exp _ h6.1 (by omega))).bind fun y s7 h7 => Adv.some ((h7.trans (take_fw (by decide) _)).mono (by omega))
theorem names_adv (T : List Tk) : ∀ f l s, s.i ≤ T.length → mu T s + 1 ≤ f → Adv T 1 s (names T f l s)
 | 0, _, _, _, h => by omega
 | f + 1, l, s, hs, h => by
  unfold names
  refine Adv.ite (fun h0 => ?_) fun h0 => Adv.some (Fw.bad hs h0 _ _)
  refine Adv.ite (fun _ => Adv.some (fail_fw 2 (by decide) _ _ _)) fun _ => ?_
  simp only
  have h1 := name_fw (T := T) s
  have m1 := h1.mu
  refine Adv.ite (fun hi => ?_) fun _ => Adv.some h1
  have h2 := is_adv (by decide) hi
  have m2 := h2.mu
  have p := mu_pos (is_lt (by decide) hi).1 (is_lt (by decide) hi).2
  exact (Adv.from (h1.trans h2) (names_adv T f _ _ h2.1 (by omega))).mono (by omega)
theorem decl_adv (T : List Tk) (f : Nat) (l : List Var) (s : St) (hs : s.i ≤ T.length) (h : mu T s + 1 ≤ f) : Adv T 1 s (decl T f l s) := by
 unfold decl
 refine (names_adv T f l s hs h).bind fun r s1 h1 => ?_
 refine Adv.ite (fun _ => Adv.some h1) fun _ => ?_
 simp only
 have h2 := (h1.trans (take_fw (T := T) (w := [58]) (by decide) s1)).trans (kind_fw (T := T) _)
 split
 ·next hi => exact Adv.some (((h2.trans (is_adv (by decide) hi)).trans (size_fw (T := T) _)).mono (by omega))
 ·exact Adv.some (h2.mono (by omega))
theorem declsL_adv (T : List Tk) : ∀ f l s, s.i ≤ T.length → mu T s + 2 ≤ f → Adv T 0 s (declsL T f l s)
 | 0, _, _, _, h => by omega
 | f + 1, l, s, hs, h => by
  unfold declsL
  refine Adv.ite (fun hc => ?_) fun _ => Adv.some (Fw.refl hs)
  have h2 := is_adv (by decide) hc.2
  have m2 := h2.mu
  have p := mu_pos (is_lt (by decide) hc.2).1 (is_lt (by decide) hc.2).2
  refine (Adv.from h2 (decl_adv T f l _ h2.1 (by omega))).bind fun l s3 h3 => ?_
  have m3 := h3.mu
  exact (Adv.from h3 (declsL_adv T f l s3 h3.1 (by omega))).mono (by omega)
theorem decls_adv (T : List Tk) (f : Nat) (s : St) (hs : s.i ≤ T.length) (h : mu T s + 2 ≤ f) : Adv T 1 s (decls T f s) := by
 unfold decls
 refine (decl_adv T f [] s hs (by omega)).bind fun l s1 h1 => ?_
 have m1 := h1.mu
 exact (Adv.from h1 (declsL_adv T f l s1 h1.1 (by omega))).mono (by omega)
theorem edges_adv (T : List Tk) : ∀ f l s, s.i ≤ T.length → mu T s + 1 ≤ f → Adv T 1 s (edges T f l s)
 | 0, _, _, _, h => by omega
 | f + 1, l, s, hs, h => by
  unfold edges
  refine Adv.ite (fun h0 => ?_) fun h0 => Adv.some (Fw.bad hs h0 _ _)
  simp only
  have h1 := edge_fw hs
  have m1 := h1.mu
  refine Adv.ite (fun hi => ?_) fun _ => Adv.some h1
  have h2 := is_adv (by decide) hi
  have m2 := h2.mu
  have p := mu_pos (is_lt (by decide) hi).1 (is_lt (by decide) hi).2
  refine Adv.ite (fun _ => Adv.some (fail_fw 2 (by decide) _ _ _)) fun _ => ?_
  exact (Adv.from (h1.trans h2) (edges_adv T f _ _ h2.1 (by omega))).mono (by omega)
theorem localsL_adv (T : List Tk) : ∀ f l s, s.i ≤ T.length → mu T s + 2 ≤ f → Adv T 1 s (localsL T f l s)
 | 0, _, _, _, h => by omega
 | f + 1, l, s, hs, h => by
  unfold localsL
  refine Adv.ite (fun h0 => ?_) fun h0 => Adv.some (Fw.bad hs h0 _ _)
  refine (decl_adv T f l s hs (by omega)).bind fun l1 s1 h1 => ?_
  have m1 := h1.mu
  have hx : Adv T 1 s (if is T [119, 104, 101, 110] s1 then bindS (edges T f [] (adv s1)) fun c s => some (l1.take l.length ++ (l1.drop l.length).map (fun v => { v with clock := c }), s) else some (l1, s1)) := by
   refine Adv.ite (fun hi => ?_) fun _ => Adv.some h1
   have h2 := is_adv (by decide) hi
   have m2 := h2.mu
   have p := mu_pos (is_lt (by decide) hi).1 (is_lt (by decide) hi).2
   exact (Adv.from (h1.trans h2) (edges_adv T f _ _ h2.1 (by omega))).bind fun c s3 h3 => Adv.some (h3.mono (by omega))
  refine hx.bind fun l2 s2 h2 => ?_
  simp only
  have h3 := h2.trans (take_fw (T := T) (w := [59]) (by decide) s2)
  have m3 := h3.mu
  refine Adv.ite (fun hc => ?_) fun _ => Adv.some (h3.mono (by omega))
  have p := mu_pos hc.1 (kd_lt (by rw [hc.2]; decide))
  exact (Adv.from h3 (localsL_adv T f l2 _ h3.1 (by omega))).mono (by omega)
theorem lhs_adv (T : List Tk) : ∀ f l s, s.i ≤ T.length → mu T s + 1 ≤ f → Adv T 1 s (lhs T f l s)
 | 0, _, _, _, h => by omega
 | f + 1, l, s, hs, h => by
  unfold lhs
  refine Adv.ite (fun h0 => ?_) fun h0 => Adv.some (Fw.bad hs h0 _ _)
  refine Adv.ite (fun _ => Adv.some (fail_fw 2 (by decide) _ _ _)) fun _ => ?_
  simp only
  have h1 := name_fw (T := T) s
  have m1 := h1.mu
  refine Adv.ite (fun hi => ?_) fun _ => Adv.some h1
  have h2 := is_adv (by decide) hi
  have m2 := h2.mu
  have p := mu_pos (is_lt (by decide) hi).1 (is_lt (by decide) hi).2
  exact (Adv.from (h1.trans h2) (lhs_adv T f _ _ h2.1 (by omega))).mono (by omega)
theorem equation_adv (T : List Tk) (f : Nat) (s : St) (hs : s.i ≤ T.length) (h : 20 * mu T s + 16 ≤ f) : Adv T 1 s (equation T f s) := by
 unfold equation
 simp only
 have hx : Adv T 1 s (if is T [40] s then bindS (lhs T f [] (adv s)) fun r s => some (r, if r.2 then s else take T [41] s) else some (([(name T s).1], false), (name T s).2)) := by
  refine Adv.ite (fun hi => ?_) fun _ => Adv.some (name_fw s)
  have h2 := is_adv (by decide) hi
  have m2 := h2.mu
  refine (Adv.from h2 (lhs_adv T f _ _ h2.1 (by omega))).bind fun r s3 h3 => ?_
  split
  ·exact Adv.some (h3.mono (by omega))
  ·exact Adv.some ((h3.trans (take_fw (by decide) _)).mono (by omega))
 refine hx.bind fun r s1 h1 => ?_
 refine Adv.ite (fun _ => Adv.some h1) fun _ => ?_
 have h2 := h1.trans (take_fw (T := T) (w := [61]) (by decide) s1)
 have m2 := h2.mu
 exact (Adv.from h2 ((enough T f).exp _ h2.1 (by omega))).bind fun e s3 h3 => Adv.some ((h3.trans (take_fw (by decide) _)).mono (by omega))
theorem transs_adv (T : List Tk) (w : B) (hw : w ≠ []) : ∀ f l s, s.i ≤ T.length → 20 * mu T s + 1 ≤ f → Adv T 0 s (transs T w f l s)
 | 0, _, _, _, h => by omega
 | f + 1, l, s, hs, h => by
  unfold transs
  refine Adv.ite (fun hi => ?_) fun _ => Adv.some (Fw.refl hs)
  refine Adv.ite (fun _ => Adv.some (fail_fw 2 (by decide) _ _ _)) fun _ => ?_
  simp only
  have h2 := is_adv hw hi
  have m2 := h2.mu
  have p := mu_pos (is_lt hw hi).1 (is_lt hw hi).2
  refine (Adv.from h2 ((enough T f).exp _ h2.1 (by omega))).bind fun c s3 h3 => ?_
  have hy : Fw T 0 s3 (if is T [99, 111, 110, 116, 105, 110, 117, 101] s3 then adv s3 else take T [116, 104, 101, 110] s3) := by
   split
   ·next hc => exact (is_adv (by decide) hc).mono (by omega)
   ·exact (take_fw (by decide) _).mono (by omega)
  have h4 := ((h3.trans hy).trans (name_fw (T := T) _)).trans (take_fw (T := T) (w := [59]) (by decide) _)
  have m4 := h4.mu
  exact (Adv.from h4 (transs_adv T w hw f _ _ h4.1 (by omega))).mono (by omega)
theorem begins_lt {T : List Tk} {s : St} (h : begins T s = true) : s.e = 0 ∧ s.i < T.length := by
 unfold begins at h
 simp only [Bool.and_eq_true, Bool.or_eq_true, beq_iff_eq] at h
 refine ⟨h.1, ?_⟩
 rcases h.2 with (h2 | h2) | h2
 ·exact (is_lt (by decide) h2).2
 ·exact (is_lt (by decide) h2).2
 ·exact kd_lt (by rw [h2]; decide)
structure EnoughI (T : List Tk) (f : Nat) : Prop where
 items : ∀ l s, s.i ≤ T.length → 20 * mu T s + 18 ≤ f → Adv T 0 s (Rf.items T f l s)
 item : ∀ s, s.i ≤ T.length → 20 * mu T s + 17 ≤ f → Adv T 1 s (Rf.item T f s)
 states : ∀ l s, s.i ≤ T.length → 20 * mu T s + 1 ≤ f → Adv T 0 s (Rf.states T f l s)
 state : ∀ s, 1 ≤ mu T s → 20 * mu T s ≤ f → Adv T 1 s (Rf.state T f s)
theorem enoughI (T : List Tk) : ∀ f, EnoughI T f
 | 0 => ⟨fun _ _ _ h => by omega, fun _ _ h => by omega, fun _ _ _ h => by omega, fun _ h1 h => by omega⟩
 | f + 1 => by
  have E := enoughI T f
  constructor
  ·intro l s hs h
   unfold Rf.items
   refine Adv.ite (fun h0 => ?_) fun h0 => Adv.some (Fw.refl hs)
   refine Adv.ite (fun hb => ?_) fun _ => ?_
   ·have p := mu_pos (begins_lt hb).1 (begins_lt hb).2
    refine Adv.ite (fun _ => Adv.some (fail_fw 2 (by decide) _ _ _)) fun _ => ?_
    refine (E.item s hs (by omega)).bind fun x s1 h1 => ?_
    have m1 := h1.mu
    exact (Adv.from h1 (E.items _ s1 h1.1 (by omega))).mono (by omega)
   ·split
    ·exact Adv.some (fail_fw 12 (by decide) _ _ _)
    ·exact Adv.some (Fw.refl hs)
  ·intro s hs h
   unfold Rf.item
   refine Adv.ite (fun hi => ?_) fun _ => equation_adv T f s hs (by omega)
   refine Adv.ite (fun _ => Adv.some (fail_fw 2 (by decide) _ _ _)) fun _ => ?_
   have hl := is_lt (by decide) hi
   have h2 : Fw T 1 s (adv (opened s)) := ⟨hl.2, fun _ => ⟨hl.1, Nat.le_refl _⟩⟩
   have m2 := h2.mu
   have p := mu_pos hl.1 hl.2
   refine (Adv.from h2 (E.states [] _ h2.1 (by omega))).bind fun l s3 h3 => ?_
   have h4 := h3.trans (take_fw (T := T) (w := [101, 110, 100]) (by decide) s3)
   exact Adv.some ((h4.trans (closed_fw h4.1)).mono (by omega))
  ·intro l s hs h
   unfold Rf.states
   refine Adv.ite (fun h0 => ?_) fun h0 => Adv.some (Fw.refl hs)
   refine Adv.ite (fun hi => ?_) fun _ => ?_
   ·have p := mu_pos (is_lt (by decide) hi).1 (is_lt (by decide) hi).2
    refine Adv.ite (fun _ => Adv.some (fail_fw 2 (by decide) _ _ _)) fun _ => ?_
    refine (E.state s p (by omega)).bind fun x s1 h1 => ?_
    have m1 := h1.mu
    exact (Adv.from h1 (E.states _ s1 h1.1 (by omega))).mono (by omega)
   ·split
    ·exact Adv.some (fail_fw 12 (by decide) _ _ _)
    ·exact Adv.some (Fw.refl hs)
  ·intro s p h
   unfold Rf.state
   simp only
   have h1 := (take_fw (T := T) (w := [115, 116, 97, 116, 101]) (by decide) s).trans (name_fw (T := T) _)
   have m1 := h1.mu
   refine (Adv.from h1 (transs_adv T _ (by decide) f [] _ h1.1 (by omega))).bind fun us s2 h2 => ?_
   have m2 := h2.mu
   have hx : Adv T 1 s (if is T [118, 97, 114] s2 then localsL T f [] (adv s2) else some ([], s2)) := by
    refine Adv.ite (fun hi => ?_) fun _ => Adv.some (h2.mono (by omega))
    have h3 := h2.trans (is_adv (by decide) hi)
    have m3 := h3.mu
    exact (Adv.from h3 (localsL_adv T f [] _ h3.1 (by omega))).mono (by omega)
   refine hx.bind fun ls s3 h3 => ?_
   have h4 := h3.trans (take_fw (T := T) (w := [100, 111]) (by decide) s3)
   have m4 := h4.mu
   refine (Adv.from h4 (E.items [] _ h4.1 (by omega))).bind fun its s5 h5 => ?_
   have m5 := h5.mu
   exact (Adv.from h5 (transs_adv T _ (by decide) f [] s5 h5.1 (by omega))).bind fun ut s6 h6 => Adv.some (h6.mono (by omega))
theorem node_adv (T : List Tk) (f : Nat) (s : St) (p : 1 ≤ mu T s) (h : 20 * mu T s ≤ f) : Adv T 1 s (node T f s) := by
 unfold node
 simp only
 have h1 := ((take_fw (T := T) (w := [110, 111, 100, 101]) (by decide) s).trans (name_fw (T := T) _)).trans (take_fw (T := T) (w := [40]) (by decide) _)
 have m1 := h1.mu
 have hx : Adv T 1 s (if is T [41] (take T [40] (name T (take T [110, 111, 100, 101] s)).2) then some ([], take T [40] (name T (take T [110, 111, 100, 101] s)).2) else decls T f (take T [40] (name T (take T [110, 111, 100, 101] s)).2)) :=
  Adv.ite (fun _ => Adv.some (h1.mono (by omega))) fun _ => (Adv.from h1 (decls_adv T f _ h1.1 (by omega))).mono (by omega)
 refine hx.bind fun ins s2 h2 => ?_
 have h3 := ((h2.trans (take_fw (T := T) (w := [41]) (by decide) s2)).trans (take_fw (T := T) (w := [114, 101, 116, 117, 114, 110, 115]) (by decide) _)).trans (take_fw (T := T) (w := [40]) (by decide) _)
 have m3 := h3.mu
 refine (Adv.from h3 (decls_adv T f _ h3.1 (by omega))).bind fun outs s4 h4 => ?_
 have h5 := h4.trans (take_fw (T := T) (w := [41]) (by decide) s4)
 have m5 := h5.mu
 have hy : Adv T 1 s (if is T [118, 97, 114] (take T [41] s4) then localsL T f [] (adv (take T [41] s4)) else some ([], take T [41] s4)) := by
  refine Adv.ite (fun hi => ?_) fun _ => Adv.some (h5.mono (by omega))
  have h6 := h5.trans (is_adv (by decide) hi)
  have m6 := h6.mu
  exact (Adv.from h6 (localsL_adv T f [] _ h6.1 (by omega))).mono (by omega)
 refine hy.bind fun ls s7 h7 => ?_
 have h8 := h7.trans (take_fw (T := T) (w := [108, 101, 116]) (by decide) s7)
 have m8 := h8.mu
 exact (Adv.from h8 ((enoughI T f).items [] _ h8.1 (by omega))).bind fun its s9 h9 => Adv.some ((h9.trans (take_fw (by decide) _)).mono (by omega))
theorem nodes_adv (T : List Tk) : ∀ f l s, s.i ≤ T.length → 20 * mu T s + 1 ≤ f → Adv T 0 s (nodes T f l s)
 | 0, _, _, _, h => by omega
 | f + 1, l, s, hs, h => by
  unfold nodes
  refine Adv.ite (fun hc => ?_) fun _ => Adv.some (Fw.refl hs)
  refine Adv.ite (fun hi => ?_) fun _ => Adv.some (fail_fw 12 (by decide) _ _ _)
  refine Adv.ite (fun _ => Adv.some (fail_fw 2 (by decide) _ _ _)) fun _ => ?_
  have p := mu_pos (is_lt (by decide) hi).1 (is_lt (by decide) hi).2
  refine (node_adv T f s p (by omega)).bind fun x s1 h1 => ?_
  have m1 := h1.mu
  exact (Adv.from h1 (nodes_adv T f _ s1 h1.1 (by omega))).mono (by omega)
theorem parse_any (s : B) : parse s ≠ .fuel := by
 unfold parse
 cases Lex.tokens s with
 | err a e => simp
 | ok T =>
  obtain ⟨x, s', hx, _⟩ := nodes_adv T (20 * T.length + 100) [] ⟨0, 0, 0, 0⟩ (Nat.zero_le _) (by unfold mu; simp)
  simp only [hx]
  split <;> simp
end Go.Proofs.YtonafedbehnneaaGreat.Gram.Rf
namespace Go.Proofs.YtonafedbehnneaaGreat.Nam
open Go.RowKit
open Gram (B Exp Var Trans)
abbrev F := Int × Int
structure St where
 nodes : List B
 ins : List B
 owns : List B
 cnt : Nat
def short (s : B) : Bool := decide (s.length ≤ 100000)
def has (L : List B) (s : B) : Option Bool := if short s then some (L.contains s) else none
def drop (L : List B) (s : B) : List B := L.filter (fun x => x != s)
def seen (st : St) (s : B) : Bool := st.ins.contains s || st.owns.contains s
def St.addOwn (st : St) (s : B) : St := { st with owns := st.owns ++ [s], cnt := st.cnt + 1 }
def St.addIn (st : St) (s : B) : St := { st with ins := st.ins ++ [s], cnt := st.cnt + 1 }
def St.addNode (st : St) (s : B) : St := { st with nodes := st.nodes ++ [s], cnt := st.cnt + 1 }
def St.dropOwn (st : St) (s : B) : St := { st with owns := drop st.owns s }
def St.dropIn (st : St) (s : B) : St := { st with ins := drop st.ins s }
def room (st : St) : Bool := decide (st.cnt < 1000000)
def declare (own : Bool) : List Var → St → Option (F × St)
 | [], st => some ((0, 0), st)
 | v :: r, st =>
  if short v.name && room st then
   (if seen st v.name then some ((v.at_, 20), st) else declare own r (if own then st.addOwn v.name else st.addIn v.name))
  else none
def forget (own : Bool) : List Var → St → Option St
 | [], st => some st
 | v :: r, st => if short v.name then forget own r (if own then st.dropOwn v.name else st.dropIn v.name) else none
def missing (D : List B) : List Var → Option F
 | [] => some (0, 0)
 | v :: r => if short v.name then (if D.contains v.name then missing D r else some (v.at_, 24)) else none
def leaf (f : Int) : Bool := f == 1 || f == 2 || f == 12
def uses (f : Int) : Bool := f == 2 || f == 9 || f == 10
def calls (f : Int) : Bool := f == 13 || f == 14 || f == 18 || f == 19
def remembers (f : Int) : Bool := f == 6 || f == 7 || f == 8 || f == 12 || calls f
def needsKid (f : Int) : Bool := f == 14 || f == 15 || f == 18
mutual
def parts : Exp → List Exp
 | .mk f s nm tk tl n m ks a => .mk f s nm tk tl n m ks a :: (if leaf f then [] else partsL ks)
def partsL : List Exp → List Exp
 | [] => []
 | e :: r => parts e ++ partsL r
end
def lost (st : St) (e : Exp) : Bool := (uses e.form && !seen st e.name) || (calls e.form && !st.nodes.contains e.name)
def bare (e : Exp) : Bool := needsKid e.form && e.kids.isEmpty
def expression (st : St) (e : Exp) : Option F :=
 if (parts e).all (fun x => short x.name) then
  match (parts e).find? (lost st) with
  | some x => some (x.at_, 21)
  | none =>
   match (parts e).find? bare with
   | some x => some (x.at_, 23)
   | none => some (0, 0)
 else none
def memory (e : Exp) : Bool := (parts e).any (fun x => remembers x.form)
def clock (st : St) (v : Var) : List Gram.Edge → Option Bool
 | [] => some true
 | g :: r => if short g.name then (if g.name == v.name || !seen st g.name then some false else clock st v r) else none
def clockVars (st : St) : List Var → Option F
 | [] => some (0, 0)
 | v :: r => match clock st v v.clock with
  | none => none
  | some false => some (v.at_, 21)
  | some true => clockVars st r
def inOrder {σ : Type} : List (σ → Option (F × σ)) → σ → Option (F × σ)
 | [], s => some ((0, 0), s)
 | k :: r, s => match k s with
  | none => none
  | some x => if x.1.2 = 0 then inOrder r x.2 else some x
def clocksI (clocks : List Var → List Gram.Item → St → Option (F × St)) : List Gram.State → St → Option (F × St)
 | [], st => some ((0, 0), st)
 | .mk _ _ _ ls its _ :: r, st =>
  match declare true ls st with
  | none => none
  | some x =>
   match clocks ls its x.2 with
   | none => none
   | some y => if y.1.2 = 0 then (match forget true ls y.2 with
    | none => none
    | some st' => clocksI clocks r st') else some y
def itStates : Gram.Item → List Gram.State | .mk _ _ ss _ => ss
def clocksL (clocks : List Var → List Gram.Item → St → Option (F × St)) : List Gram.Item → St → Option (F × St)
 | [], st => some ((0, 0), st)
 | i :: r, st =>
  match clocksI clocks (itStates i) st with
  | none => none
  | some y => if y.1.2 = 0 then clocksL clocks r y.2 else some y
def clocks : Nat → List Var → List Gram.Item → St → Option (F × St)
 | 0, _, _, _ => none
 | f + 1, ls, its, st =>
  match clockVars st ls with
  | none => none
  | some x => if x.2 = 0 then clocksL (clocks f) its st else some (x, st)
def eqNames (at_ : Int) (st : St) : List B → List B → Option (F × List B)
 | [], D => some ((0, 0), D)
 | s :: r, D =>
  if short s && decide (D.length < 1000000) then
   (if st.owns.contains s then (if D.contains s then some ((at_, 20), D) else eqNames at_ st r (D ++ [s])) else some ((at_, 21), D))
  else none
def trans (O : List B) (st : St) : List Trans → Option F
 | [] => some (0, 0)
 | t :: r =>
  if short t.to then
   (if O.contains t.to then
     (match expression st t.cond with
      | none => none
      | some x => if x.2 = 0 then (if memory t.cond then some (t.at_, 26) else trans O st r) else some x)
    else some (t.at_, 21))
  else none
def stNames : List Gram.State → List B → Option F
 | [], _ => some (0, 0)
 | .mk n _ _ _ _ a :: r, O => if short n && decide (O.length < 1000000) then (if O.contains n then some (a, 20) else stNames r (O ++ [n])) else none
def stName : Gram.State → B | .mk n _ _ _ _ _ => n
def stAt : Gram.State → Int | .mk _ _ _ _ _ a => a
def dropAll (D : List B) : List Var → Option (List B)
 | [] => some D
 | v :: r => if short v.name then dropAll (drop D v.name) r else none
abbrev SS := St × Option (List B)
def sEnter (ls : List Var) (s : SS) : Option (F × SS) :=
 match declare true ls s.1 with
 | none => none
 | some x => some (x.1, (x.2, s.2))
def sLeave (ls : List Var) (s : SS) : Option (F × SS) :=
 match forget true ls s.1 with
 | none => none
 | some st => (match s.2 with
  | none => some ((0, 0), (st, none))
  | some D => (match dropAll D ls with
   | none => none
   | some D' => some ((0, 0), (st, some D'))))
def sTrans (O : List B) (ts : List Trans) (s : SS) : Option (F × SS) :=
 match trans O s.1 ts with
 | none => none
 | some x => some (x, s)
def sItems (items : List Gram.Item → St → Option ((List B × F) × St)) (its : List Gram.Item) (s : SS) : Option (F × SS) :=
 match items its s.1 with
 | none => none
 | some x => some (x.1.2, (x.2, some x.1.1))
def sMissing (ls : List Var) (s : SS) : Option (F × SS) :=
 match missing (s.2.getD []) ls with
 | none => none
 | some x => some (x, s)
def state (items : List Gram.Item → St → Option ((List B × F) × St)) (O : List B) : Gram.State → SS → Option (F × SS)
 | .mk _ us ut ls its _, s => inOrder [sEnter ls, sLeave ls, sTrans O us, sEnter ls, sItems items its, sMissing ls, sTrans O ut, sLeave ls] s
def each (items : List Gram.Item → St → Option ((List B × F) × St)) (O : List B) : List Gram.State → List (List B) → St → Option ((List (List B) × F) × St)
 | [], acc, st => some ((acc, (0, 0)), st)
 | s :: r, acc, st =>
  match state items O s (st, none) with
  | none => none
  | some x => if x.1.2 = 0 then each items O r (acc ++ [x.2.2.getD []]) x.2.1 else some ((acc, x.1), x.2.1)
def sameAs (first : List B) (D : List B) : Bool := D.length == first.length && D.all (fun x => first.contains x)
def same (first : List B) : List Gram.State → List (List B) → Option F
 | s :: r, D :: ds => if sameAs first D then same first r ds else some (stAt s, 25)
 | _, _ => some (0, 0)
def states (items : List Gram.Item → St → Option ((List B × F) × St)) (ss : List Gram.State) (st : St) : Option ((List B × F) × St) :=
 match stNames ss [] with
 | none => none
 | some x =>
  if x.2 = 0 then
   (match each items (ss.map stName) ss [] st with
    | none => none
    | some y =>
     if y.1.2.2 = 0 then
      (match same (y.1.1.headD []) ss y.1.1 with
       | none => none
       | some z => some ((y.1.1.headD [], z), y.2))
     else some (([], y.1.2), y.2))
  else some (([], x), st)
def item (items : List Gram.Item → St → Option ((List B × F) × St)) : Gram.Item → List B → St → Option ((List B × F) × St)
 | .mk ns e ss a, D, st =>
  if ss.isEmpty then
   (match eqNames a st ns D with
    | none => none
    | some x => if x.1.2 = 0 then (match expression st e with
      | none => none
      | some y => some ((x.2, y), st)) else some (([], x.1), st))
  else
   (match states items ss st with
    | none => none
    | some x =>
     if x.1.2.2 = 0 then
      (if decide (D.length + x.1.1.length < 1000000) then (if x.1.1.any (fun n => D.contains n) then some (([], (a, 20)), x.2) else some ((D ++ x.1.1, (0, 0)), x.2)) else none)
     else some (([], x.1.2), x.2))
def listI (items : List Gram.Item → St → Option ((List B × F) × St)) : List Gram.Item → List B → St → Option ((List B × F) × St)
 | [], D, st => some ((D, (0, 0)), st)
 | i :: r, D, st =>
  match item items i D st with
  | none => none
  | some x => if x.1.2.2 = 0 then listI items r x.1.1 x.2 else some (([], x.1.2), x.2)
def items : Nat → List Gram.Item → St → Option ((List B × F) × St)
 | 0, _, _ => none
 | f + 1, its, st => listI (items f) its [] st
def nName (n : Gram.Node) (s : SS) : Option (F × SS) := if short n.name then some (if s.1.nodes.contains n.name then (n.at_, 20) else (0, 0), s) else none
def nDeclare (own : Bool) (vs : List Var) (s : SS) : Option (F × SS) :=
 match declare own vs s.1 with
 | none => none
 | some x => some (x.1, (x.2, s.2))
def nClocks (f : Nat) (n : Gram.Node) (s : SS) : Option (F × SS) :=
 match clocks f n.locals n.items s.1 with
 | none => none
 | some x => some (x.1, (x.2, s.2))
def nLeave (n : Gram.Node) (s : SS) : Option (F × SS) :=
 match forget false n.ins s.1 with
 | none => none
 | some s1 => match forget true n.outs s1 with
  | none => none
  | some s2 => match forget true n.locals s2 with
   | none => none
   | some s3 => if room s3 && short n.name && !s3.nodes.contains n.name then some ((0, 0), (s3.addNode n.name, s.2)) else none
def node (f : Nat) (n : Gram.Node) (st : St) : Option (F × SS) :=
 inOrder [nName n, nDeclare false n.ins, nDeclare true n.outs, nDeclare true n.locals, sItems (items f) n.items, sMissing n.outs, sMissing n.locals, nClocks f n, nLeave n] (st, none)
def nodes (f : Nat) : List Gram.Node → St → Option F
 | [], _ => some (0, 0)
 | n :: r, st =>
  match node f n st with
  | none => none
  | some x => if x.1.2 = 0 then nodes f r x.2.1 else some x.1
def check (l : List Gram.Node) : Option F := nodes 60 l ⟨[], [], [], 0⟩
end Go.Proofs.YtonafedbehnneaaGreat.Nam
namespace Go.Proofs.YtonafedbehnneaaGreat
open Go.RowKit Go.Maps Go.WideMaps
open Nam (St F)
theorem gl {w : World} {b : Nat} {o : Obj} (h : w.heap[b]? = some o) : b < w.heap.size := (Array.getElem?_eq_some_iff.1 h).1
structure Kp (X : List Nat) (w w' : World) : Prop where
 os : w'.os = w.os
 tape : w'.tape = w.tape
 output : w'.output = w.output
 size : w.heap.size ≤ w'.heap.size
 block : ∀ k, k < w.heap.size → k ∉ X → w'.heap[k]? = w.heap[k]?
theorem Kp.refl (X : List Nat) (w : World) : Kp X w w := ⟨rfl, rfl, rfl, Nat.le_refl _, fun _ _ _ => rfl⟩
theorem Kp.trans {X : List Nat} {a b c : World} (h : Kp X a b) (k : Kp X b c) : Kp X a c :=
 ⟨k.os.trans h.os, k.tape.trans h.tape, k.output.trans h.output, Nat.le_trans h.size k.size, fun i hi hx => (k.block i (Nat.lt_of_lt_of_le hi h.size) hx).trans (h.block i hi hx)⟩
theorem Kp.of {a b : World} {r : Option Nat} (h : a.grownBy b r) (X : List Nat) (hr : ∀ k, r = some k → k < a.heap.size → k ∈ X) : Kp X a b :=
 ⟨h.os, h.tape, h.output, h.size, fun i hi hx => h.block i hi (fun e => hx (hr i e.symm hi))⟩
theorem Kp.of0 {a b : World} (h : a.grownBy b none) (X : List Nat) : Kp X a b := Kp.of h X (fun k e => by cases e)
theorem Kp.mono {X Y : List Nat} {a b : World} (h : Kp X a b) (hs : ∀ k, k ∈ X → k < a.heap.size → k ∈ Y) : Kp Y a b :=
 ⟨h.os, h.tape, h.output, h.size, fun i hi hx => h.block i hi (fun e => hx (hs i e hi))⟩
theorem Kp.grown {X : List Nat} {w0 a b : World} (hg : w0.grownBy a none) (h : Kp X a b) (hX : ∀ k ∈ X, w0.heap.size ≤ k) : w0.grownBy b none :=
 ⟨h.os.trans hg.os, h.tape.trans hg.tape, h.output.trans hg.output, Nat.le_trans hg.size h.size, fun i hi _ => (h.block i (Nat.lt_of_lt_of_le hi hg.size) (fun e => by have := hX i e; omega)).trans (hg.block i hi (by simp))⟩
def strV (s : List UInt8) : Value := .string ⟨s.toArray⟩
theorem kLaw : Keyed Tryz.prog 9 := string_keyed Tryz.underlying9
theorem key_of (s : List UInt8) (h : Nam.short s = true) : keyOf Tryz.prog 9 (strV s) = some (.string s) := by
 have h1 : (⟨s.toArray⟩ : ByteArray).size ≤ maxLen := by
  have : (⟨s.toArray⟩ : ByteArray).size = s.length := by simp [ByteArray.size]
  rw [this]
  have h2 : s.length ≤ 100000 := by simpa [Nam.short] using h
  unfold maxLen; omega
 exact keyOf_string_mk Tryz.underlying9 h1
theorem zeroUnit (w : World) : (zeroValue 108).run Tryz.prog w = .ok (.agg #[]) w := by kernel_rfl
def SetAt (w : World) (b n : Nat) (L : List (List UInt8)) : Prop :=
 ∃ D : DataW Unit, w.ownsMap Tryz.prog 9 unitElem b n D ∧ (∀ s, Maps.has D (.string s) = L.contains s) ∧ Maps.size D = L.length
theorem SetAt.mono {w : World} {b n m : Nat} {L : List (List UInt8)} (h : SetAt w b n L) (hn : n ≤ m) : SetAt w b m L := by
 obtain ⟨D, h1, h2⟩ := h
 exact ⟨D, h1.mono hn, h2⟩
theorem SetAt.lt {w : World} {b n : Nat} {L : List (List UInt8)} (h : SetAt w b n L) : b < w.heap.size := by
 obtain ⟨D, h1, _⟩ := h
 exact h1.lt
theorem SetAt.keptK {w w' : World} {X : List Nat} {b n : Nat} {L : List (List UInt8)} (h : SetAt w b n L) (hk : Kp X w w') (hb : b ∉ X) : SetAt w' b n L := by
 have hl := h.lt
 obtain ⟨D, ⟨es, clock, e1, e2⟩, h2⟩ := h
 exact ⟨D, ⟨es, clock, (hk.block b hl hb).trans e1, e2⟩, h2⟩
theorem SetAt.kept {w w' : World} {b n : Nat} {L : List (List UInt8)} (h : SetAt w b n L) (hk : w.grownBy w' none) : SetAt w' b n L := h.keptK (Kp.of0 hk []) (by simp)
theorem SetAt.new (w : World) : SetAt (w.alloc (.map #[] 0)) w.heap.size 0 [] :=
 ⟨_, World.ownsMap_made w _ _ _, fun s => by simp [Maps.has_eq], rfl⟩
theorem isKey_str (s : List UInt8) : WideAt.IsKeyLit (.string s) := by first | exact trivial | simp [WideAt.IsKeyLit]
theorem SetAt.put {w w' : World} {b n : Nat} {L : List (List UInt8)} {D : DataW Unit} {s : List UInt8} (h1 : w.ownsMap Tryz.prog 9 unitElem b n D) (h2 : ∀ s, Maps.has D (.string s) = L.contains s) (h3 : Maps.size D = L.length) (hs : L.contains s = false)
  (h' : w'.ownsMap Tryz.prog 9 unitElem b (n + 1) (D.put (.string s) (.agg []))) : SetAt w' b (n + 1) (L ++ [s]) := by
 refine ⟨_, h', fun t => ?_, ?_⟩
 ·by_cases e : t = s
  ·subst e
   rw [Maps.has_put_same h1.isMap (isKey_str t)]
   simp
  ·rw [Maps.has_put_other (by intro e2; exact e (by injection e2)), h2]
   simp [e]
 ·rw [Maps.size_put (h1.tidy kLaw), h2, hs, h3]
  simp
theorem SetAt.del {w w' : World} {b n : Nat} {L : List (List UInt8)} {D : DataW Unit} {s : List UInt8} (hn : L.Nodup) (h1 : w.ownsMap Tryz.prog 9 unitElem b n D) (h2 : ∀ s, Maps.has D (.string s) = L.contains s) (h3 : Maps.size D = L.length)
  (h' : w'.ownsMap Tryz.prog 9 unitElem b n (D.del (.string s))) : SetAt w' b n (Nam.drop L s) := by
 refine ⟨_, h', fun t => ?_, ?_⟩
 ·by_cases e : t = s
  ·subst e
   rw [Maps.has_del_same]
   simp [Nam.drop]
  ·rw [Maps.has_del_other (by intro e2; exact e (by injection e2)), h2]
   rw [Bool.eq_iff_iff]
   simp [Nam.drop, e]
 ·have h4 := Maps.size_del (h1.tidy kLaw) (k := .string s)
  rw [h2, h3] at h4
  unfold Nam.drop
  by_cases e : s ∈ L
  ·rw [if_pos (by simpa using e)] at h4
   have : (L.filter (fun x => x != s)) = L.erase s := by rw [hn.erase_eq_filter]
   rw [this, List.length_erase_of_mem e]
   omega
  ·rw [if_neg (by simpa using e)] at h4
   rw [List.filter_eq_self.2 (fun x hx => by simp; intro e2; exact e (e2 ▸ hx))]
   omega
open Go.RowKit Go.Maps Go.WideMaps
open Nam (St F)
def SetO (w : World) (b : Option Nat) (n : Nat) (L : List (List UInt8)) : Prop := match b with
 | none => L = []
 | some k => SetAt w k n L
theorem SetO.kept {w w' : World} {b : Option Nat} {n : Nat} {L : List (List UInt8)} (h : SetO w b n L) (hk : w.grownBy w' none) : SetO w' b n L := by
 cases b with
 | none => exact h
 | some k => exact SetAt.kept h hk
theorem has_any (b : Option Nat) (n : Nat) (L : List (List UInt8)) (s : List UInt8) (hs : Nam.short s = true) (w : World) (h : SetO w b n L) :
  Calls Tryz.prog 51 #[.map b, strV s] w fun e w' => e = .returned (.bool (L.contains s)) ∧ w.grownBy w' none := by
 cases b with
 | none =>
  have hl := Maps.look_nil (P := Tryz.prog) (w := w) (t := 74) (e := 108) true kLaw Tryz.underlying74 (zeroUnit w) (key_of s hs)
  rw [if_pos rfl] at hl
  have hL : L = [] := h
  subst hL
  unfold strV at hl ⊢
  go_enter Tryz.func51, Tryz.ntmps51
  go_wp2
  go_ret
  exact ⟨rfl, ga w _ none⟩
 | some k =>
  obtain ⟨D, h1, h2, h3⟩ := h
  rw [← h2]
  clear h2 h3
  have hk := key_of s hs
  unfold strV at hk ⊢
  go_enter Tryz.func51, Tryz.ntmps51
  go_wp2_with (at_lookup; refine wpList_lookup_own_unit _ rfl _ _ 74 rfl 9 108 kLaw Tryz.underlying74 (zeroUnit _) k n D rfl h1 _ _ rfl hk ?_)
  go_ret
  exact ⟨rfl, ga w _ none⟩
theorem add_any (k n : Nat) (L : List (List UInt8)) (s : List UInt8) (hs : Nam.short s = true) (hc : L.contains s = false) (hn : n < 2000000) (w : World) (h : SetAt w k n L) :
  Calls Tryz.prog 57 #[.map (some k), strV s] w fun e w' => e = .returned (.tuple #[]) ∧ SetAt w' k (n + 1) (L ++ [s]) ∧ w.grownBy w' (some k) := by
 obtain ⟨D, h1, h2, h3⟩ := h
 have hk := key_of s hs
 unfold strV at hk ⊢
 go_enter Tryz.func57, Tryz.ntmps57
 go_wp2_with (at_mapUpdate; refine wpList_mapUpdate_own _ rfl _ _ _ 74 rfl 9 108 kLaw Tryz.underlying74 unitElem k n D rfl h1 (by unfold maxLen; omega) _ _ _ rfl rfl hk (.agg []) [] unitElem_mk ?_; intro w1 hown1 hg1)
 go_end0
 exact ⟨rfl, SetAt.put h1 h2 h3 hc hown1, hg1⟩
open Go.RowKit Go.Maps Go.WideMaps
open Nam (St F)
def mapElem : Value → Option (DataW Unit × List MemPlace)
 | .map none => some (.lit (.int .i64 (-1)), [])
 | .map (some b) => some (.lit (.int .i64 (b : Int)), [])
 | _ => none
theorem mapElem_none : mapElem (.map none) = some (.lit (.int .i64 (-1)), []) := rfl
theorem mapElem_some (b : Nat) : mapElem (.map (some b)) = some (.lit (.int .i64 (b : Int)), []) := rfl
theorem mapElem_inv {v : Value} {b : Nat} {ps : List MemPlace} (h : mapElem v = some (.lit (.int .i64 (b : Int)), ps)) : v = .map (some b) := by
 unfold mapElem at h
 split at h
 ·simp at h
 ·rename_i b'; simp at h; obtain rfl : b' = b := by omega
  rfl
 ·cases h
theorem intLaw : Keyed Tryz.prog 3 := int_keyed Tryz.underlying3
theorem zeroSet (w : World) : (zeroValue 74).run Tryz.prog w = .ok (.map none) w := by kernel_rfl
structure Adr where
 c : Nat
 m : Nat
 b0 : Nat
 b1 : Nat
 b2 : Nat
def Mm (w : World) (A : Adr) : Prop := ∃ (D : DataW Unit) (n : Nat), w.ownsMap Tryz.prog 3 mapElem A.m n D ∧ (∀ z, D.atKey (.int .i64 0) z = .lit (.int .i64 (A.b0 : Int))) ∧ (∀ z, D.atKey (.int .i64 1) z = .lit (.int .i64 (A.b1 : Int))) ∧ ∀ z, D.atKey (.int .i64 2) z = .lit (.int .i64 (A.b2 : Int))
theorem Mm.keptK {w w' : World} {A : Adr} {X : List Nat} (h : Mm w A) (hk : Kp X w w') (hm : A.m ∉ X) : Mm w' A := by
 obtain ⟨D, n, ⟨es, clock, e1, e2⟩, h2⟩ := h
 exact ⟨D, n, ⟨es, clock, (hk.block _ (gl e1) hm).trans e1, e2⟩, h2⟩
theorem Mm.look {w : World} {A : Adr} (h : Mm w A) :
  (Instr.lookup 75 (.map (some A.m)) (.int .i64 0) false).run Tryz.prog w = .ok (.map (some A.b0)) w ∧
  (Instr.lookup 75 (.map (some A.m)) (.int .i64 1) false).run Tryz.prog w = .ok (.map (some A.b1)) w ∧
  (Instr.lookup 75 (.map (some A.m)) (.int .i64 2) false).run Tryz.prog w = .ok (.map (some A.b2)) w := by
 obtain ⟨D, n, h1, g0, g1, g2⟩ := h
 have key : ∀ (k : Int) (b : Nat) (hk : (Lit.int .i64 k).wf = true), (∀ z, D.atKey (.int .i64 k) z = .lit (.int .i64 (b : Int))) →
   (Instr.lookup 75 (.map (some A.m)) (.int .i64 k) false).run Tryz.prog w = .ok (.map (some b)) w := fun k b hk hD => by
  obtain ⟨v, ps, hr, hv⟩ := h1.lookup intLaw Tryz.underlying75 (zeroSet w) mapElem_none (keyOf_int_mk Tryz.underlying3 hk)
  rw [hD] at hv
  rw [mapElem_inv hv] at hr
  exact hr
 exact ⟨key 0 _ (by decide) g0, key 1 _ (by decide) g1, key 2 _ (by decide) g2⟩
structure Ck (w0 w : World) (A : Adr) (st : St) : Prop where
 base : w0.grownBy w none
 lo : w0.heap.size ≤ A.c ∧ w0.heap.size ≤ A.m ∧ w0.heap.size ≤ A.b0 ∧ w0.heap.size ≤ A.b1 ∧ w0.heap.size ≤ A.b2
 ne : A.c ∉ [A.b0, A.b1, A.b2] ∧ A.m ∉ [A.b0, A.b1, A.b2] ∧ A.b0 ≠ A.b1 ∧ A.b0 ≠ A.b2 ∧ A.b1 ≠ A.b2
 cc : w.heap[A.c]? = some (.cells #[.map (some A.m)] 77 (0, 0))
 mm : Mm w A
 s0 : SetAt w A.b0 st.cnt st.nodes
 s1 : SetAt w A.b1 st.cnt st.ins
 s2 : SetAt w A.b2 st.cnt st.owns
 nd : st.nodes.Nodup ∧ st.ins.Nodup ∧ st.owns.Nodup
section
variable {w0 w w' : World} {A : Adr} {st : St}
theorem Ck.cell (h : Ck w0 w A st) : w.cell? ⟨A.c, 0, none⟩ = some (.map (some A.m)) := cell_of_row w A.c 0 _ _ _ h.cc
theorem Ck.lt (h : Ck w0 w A st) : A.c < w.heap.size ∧ A.b0 < w.heap.size ∧ A.b1 < w.heap.size ∧ A.b2 < w.heap.size := ⟨(gl h.cc), h.s0.lt, h.s1.lt, h.s2.lt⟩
theorem Ck.keptK {X : List Nat} (h : Ck w0 w A st) (hk : Kp X w w') (hX : ∀ k ∈ X, w0.heap.size ≤ k ∧ k ∉ [A.c, A.m, A.b0, A.b1, A.b2]) : Ck w0 w' A st := by
 have n : ∀ k, k ∈ [A.c, A.m, A.b0, A.b1, A.b2] → k ∉ X := fun k hk hx => (hX k hx).2 hk
 exact ⟨Kp.grown h.base hk (fun k e => (hX k e).1), h.lo, h.ne, (hk.block _ h.lt.1 (n _ (by simp))).trans h.cc, h.mm.keptK hk (n _ (by simp)), h.s0.keptK hk (n _ (by simp)), h.s1.keptK hk (n _ (by simp)), h.s2.keptK hk (n _ (by simp)), h.nd⟩
theorem Ck.kept (h : Ck w0 w A st) (hg : w.grownBy w' none) : Ck w0 w' A st := h.keptK (Kp.of0 hg []) (by simp)
theorem Ck.keptB {b : Nat} (h : Ck w0 w A st) (hg : w.grownBy w' (some b)) (hb : w0.heap.size ≤ b ∧ b ∉ [A.c, A.m, A.b0, A.b1, A.b2]) : Ck w0 w' A st :=
 h.keptK (Kp.of hg [b] (fun k e _ => by cases e; simp)) (by simpa using hb)
end
def fv (f : F) : Value := .agg #[.int .i64 f.1, .int .i64 f.2]
def fo : Obj := .cells #[.int .i64 0, .int .i64 0] 63
theorem found_any (f : F) (w : World) : Calls Tryz.prog 29 #[fv f] w fun e w' => e = .returned (.bool (f.2 != 0)) ∧ w.grownBy w' none := by
 obtain ⟨a, x⟩ := f
 unfold fv
 go_enter Tryz.func29, Tryz.ntmps29
 go_wp2
 go_ret
 exact ⟨rfl, ga w _ none⟩
theorem variable_any (A : Adr) (st : St) (s : List UInt8) (hs : Nam.short s = true) (w0 w : World) (h : Ck w0 w A st) :
  Calls Tryz.prog 70 #[.pointer (some ⟨A.c, 0, none⟩), strV s] w fun e w' => e = .returned (.bool (Nam.seen st s)) ∧ w.grownBy w' none := by
 obtain ⟨l0, l1, l2⟩ := h.mm.look
 have c0 := h.cell
 have h1 := has_any (some A.b1) st.cnt st.ins s hs w h.s1
 have HH := ld h
 unfold Nam.seen
 have h2 : ∀ wx, w.grownBy wx none → (Instr.lookup 75 (.map (some A.m)) (.int .i64 2) false).run Tryz.prog wx = .ok (.map (some A.b2)) wx ∧ wx.cell? ⟨A.c, 0, none⟩ = some (.map (some A.m)) ∧ Calls Tryz.prog 51 #[.map (some A.b2), strV s] wx fun e w' => e = .returned (.bool (st.owns.contains s)) ∧ wx.grownBy w' none :=
  fun wx hg => ⟨(h.kept hg).mm.look.2.2, (h.kept hg).cell, has_any (some A.b2) st.cnt st.owns s hs wx (h.kept hg).s2⟩
 clear h
 unfold strV at h1 h2 ⊢
 generalize st.ins.contains s = q1 at h1 ⊢
 generalize st.owns.contains s = q2 at h2 ⊢
 cases q1 with
 | true =>
  go_enter Tryz.func70, Tryz.ntmps70
  go_wp2_with (go_at_call 51; refine h1.mono ?_; rintro e w1 ⟨rfl, hg1⟩)
  go_ret
  exact ⟨rfl, hg1⟩
 | false =>
  go_enter Tryz.func70, Tryz.ntmps70
  go_wp2_with (go_at_call 51; refine h1.mono ?_; rintro e w1 ⟨rfl, hg1⟩; obtain ⟨k1, k2, k3⟩ := h2 w1 hg1; clear h1)
  go_wp2_with (go_at_call 51; refine k3.mono ?_; rintro e w2 ⟨rfl, hg2⟩)
  go_ret
  exact ⟨rfl, hg1.trans hg2⟩
open Go.RowKit Go.Maps Go.WideMaps
open Nam (St F)
section
variable {w : World} {B : Nat} {E : List Nat}
theorem nRow.drop : ∀ {ds : List D} {vs : List Value} (j : Nat), RepRow w B E ds vs → RepRow w B E (ds.drop j) (vs.drop j)
 | _, _, 0, h => by simpa using h
 | _, _, _ + 1, .nil => by simpa using RepRow.nil
 | _, _, j + 1, .cons _ t => by simpa using nRow.drop j t
theorem nRow.take : ∀ {ds : List D} {vs : List Value} (j : Nat), RepRow w B E ds vs → RepRow w B E (ds.take j) (vs.take j)
 | _, _, 0, _ => by simpa using RepRow.nil
 | _, _, _ + 1, .nil => by simpa using RepRow.nil
 | _, _, j + 1, .cons h t => by simpa using RepRow.cons h (nRow.take j t)
theorem nFlatAt {sz : Nat} : ∀ {l : List (List D)}, (∀ r ∈ l, r.length = sz) → ∀ {i : Nat} {r : List D}, l[i]? = some r → (l.flatten.drop (i * sz)).take sz = r
 | [], _, i, r, h => by simp at h
 | a :: l, hs, 0, r, h => by
  simp at h; subst h
  rw [Nat.zero_mul, List.drop_zero, List.flatten_cons, List.take_append_of_le_length (by rw [hs _ List.mem_cons_self]; exact Nat.le_refl _), List.take_of_length_le (by rw [hs _ List.mem_cons_self]; exact Nat.le_refl _)]
 | a :: l, hs, i + 1, r, h => by
  have h1 := hs _ List.mem_cons_self
  have e : (a ++ l.flatten).drop ((i + 1) * sz) = l.flatten.drop (i * sz) := by
   rw [Nat.add_mul, Nat.one_mul, Nat.add_comm, ← h1, List.drop_append]
   simp
  rw [List.flatten_cons, e]
  exact nFlatAt (fun x hx => hs x (List.mem_cons_of_mem _ hx)) (by simpa using h)
theorem nLen {e : TypeId} {sz L cap : Nat} {a : Option Addr} {rows : List (List D)} (h : RepC w B E (.l e sz rows) (.slice a L cap)) : L = rows.length ∧ L ≤ maxLen := by
 cases h with
 | l ho _ _ =>
  rcases ho.2 with ⟨h0, h1⟩ | ⟨g, cap, cur, h0, _, _, h2, h3, _⟩
  ·cases h0; exact ⟨h1.symm, Nat.zero_le _⟩
  ·cases h0; exact ⟨rfl, by first | exact h3 | (have := h3; omega) | (unfold maxLen at *; omega)⟩
theorem nRowAt {e : TypeId} {sz L cap : Nat} {a : Option Addr} {rows : List (List D)} (h : RepC w B E (.l e sz rows) (.slice a L cap)) (hs : ∀ r ∈ rows, r.length = sz) (i : Nat) {r : List D} (hi : rows[i]? = some r) :
  ∃ g vs, a = some ⟨g, 0, none⟩ ∧ RepRow w B E r vs ∧ ∀ k u, vs[k]? = some u → w.cell? ⟨g, i * sz + k, none⟩ = some u := by
 cases h with
 | @l _ _ _ _ xs ho _ hr =>
  have hl : i < rows.length := (List.getElem?_eq_some_iff.1 hi).1
  obtain ⟨g, ha, hn⟩ : ∃ g, a = some ⟨g, 0, none⟩ ∧ L = rows.length := by
   rcases ho.2 with ⟨_, h1⟩ | ⟨g, cap, cur, h1, _⟩
   ·omega
   ·cases h1; exact ⟨g, rfl, rfl⟩
  subst ha hn
  refine ⟨g, (xs.drop (i * sz)).take sz, rfl, ?_, ?_⟩
  ·have h1 := nRow.take sz (nRow.drop (i * sz) hr)
   rw [nFlatAt hs hi] at h1
   exact h1
  ·intro k u hk
   have hk1 : k < sz := by
    rcases Nat.lt_or_ge k sz with h1 | h1
    ·exact h1
    ·rw [List.getElem?_take, if_neg (by omega)] at hk; cases hk
   rw [List.getElem?_take, if_pos hk1, List.getElem?_drop] at hk
   have hx : i * sz + k < xs.length := (List.getElem?_eq_some_iff.1 hk).1
   rw [← hk]
   exact ho.cellAt _ (by rw [← ho.1]; exact hx)
theorem nMap {α : Type} (G : α → List D) {sz : Nat} (hG : ∀ x, (G x).length = sz) (l : List α) : ∀ r ∈ l.map G, r.length = sz := fun r hr => by
 obtain ⟨x, _, rfl⟩ := List.mem_map.1 hr
 exact hG x
theorem nAt {α β : Type} (G : α → β) {l : List α} {t : Nat} {k : α} (h : l[t]? = some k) : (l.map G)[t]? = some (G k) := by rw [List.getElem?_map, h]; rfl
theorem varAt {L cap t : Nat} {a : Option Addr} {vs : List Gram.Var} {x : Gram.Var} (h : RepC w B E (.l 112 5 (vs.map varD)) (.slice a L cap)) (hx : vs[t]? = some x) :
  ∃ g p q r, a = some ⟨g, 0, none⟩ ∧ w.cell? ⟨g, t * 5, none⟩ = some (.string ⟨x.name.toArray⟩) ∧ w.cell? ⟨g, t * 5 + 1, none⟩ = some (.int .i64 x.tk) ∧ w.cell? ⟨g, t * 5 + 2, none⟩ = some (.int .i64 x.tl) ∧ w.cell? ⟨g, t * 5 + 3, none⟩ = some (.slice p q r) ∧ w.cell? ⟨g, t * 5 + 4, none⟩ = some (.int .i64 x.at_) ∧ RepC w B E (.l 126 2 (x.clock.map edgeD)) (.slice p q r) := by
 obtain ⟨g, us, ha, hr, hq⟩ := nRowAt h (nMap varD (fun _ => rfl) vs) t (nAt varD hx)
 obtain ⟨nm, tk, tl, cl, at_⟩ := x
 obtain ⟨r1, rfl, h_1⟩ := RepRow.cInv hr
 obtain ⟨r2, rfl, h_2⟩ := h_1.cInv
 obtain ⟨r3, rfl, h_3⟩ := h_2.cInv
 obtain ⟨p, q, r, r4, rfl, hc, h_4⟩ := h_3.lInv
 obtain ⟨r5, rfl, h_5⟩ := h_4.cInv
 exact ⟨g, p, q, r, ha, by have := hq 0 _ rfl; rwa [Nat.add_zero] at this, hq 1 _ rfl, hq 2 _ rfl, hq 3 _ rfl, hq 4 _ rfl, hc⟩
end
theorem missing_any (b : Option Nat) (n : Nat) (D' : List (List UInt8)) (vs : List Gram.Var) (a : Option Addr) (L cap : Nat) (w0 w : World) (r : F) (hB : w0.grownBy w none) (hv : RepC w0 0 [] (.l 112 5 (vs.map varD)) (.slice a L cap)) (hS : SetO w b n D') (hr : Nam.missing D' vs = some r) :
  Calls Tryz.prog 54 #[.slice a L cap, .map b] w fun e w' => e = .returned (fv r) ∧ w.grownBy w' none := by
 obtain ⟨hL, hLm⟩ := nLen hv
 rw [List.length_map] at hL
 unfold maxLen at hLm
 have HL := ld hL
 have HR := ld hr
 clear hL hr
 go_enter Tryz.func54, Tryz.ntmps54
 go_wp2
 go_loopw [9] (fun iv wr => ∃ t : Nat, t ≤ L ∧ iv = .int .i64 (t : Int) ∧ Hid (w.grownBy wr none ∧ wr.heap[w.heap.size]? = some fo ∧ Nam.missing D' (vs.drop t) = some r)) (fun i _ => L - (intOf i).toNat)
 case atStart => exact ⟨0, Nat.zero_le _, rfl, ld ⟨ga _ _ _, heap_alloc_new w fo, HR.out⟩⟩
 case round =>
  obtain ⟨t, ht, rfl, HG⟩ := hrel
  obtain ⟨hg, hcell, hm⟩ := HG.out
  clear HG
  have f0 := cell_of_row wr _ 0 _ _ _ hcell
  have f1 := cell_of_row wr _ 1 _ _ _ hcell
  have z0 := frozen_of_row wr _ 0 _ _ hcell
  have z1 := frozen_of_row wr _ 1 _ _ hcell
  have hsz := (gl hcell)
  by_cases hlt : t < L
  ·obtain ⟨x, hx⟩ : ∃ x, vs[t]? = some x := ⟨_, List.getElem?_eq_getElem (by rw [← HL.out]; exact hlt)⟩
   have hd : vs.drop t = x :: vs.drop (t + 1) := by
    obtain ⟨h1, h2⟩ := List.getElem?_eq_some_iff.1 hx
    rw [List.drop_eq_getElem_cons h1, h2]
   rw [hd] at hm
   unfold Nam.missing at hm
   obtain ⟨g, p, q, r', rfl, c0, c1, c2, c3, c4, hc⟩ := varAt (RepC.kept (hB.trans hg) (fun k e => by cases e) hv) hx
   by_cases hs : Nam.short x.name = true
   ·rw [if_pos hs] at hm
    have hh := fun wx (hgx : w.grownBy wx none) => has_any b n D' x.name hs wx (hS.kept hgx)
    unfold strV at hh
    cases hq : D'.contains x.name with
    | true =>
     rw [hq] at hh hm
     rw [if_pos rfl] at hm
     have HM := ld hm
     clear hm hd hx
     go_wp2_with (go_at_call 51; refine (hh _ (galloc hg _)).mono ?_; rintro e w1 ⟨rfl, hg1⟩)
     exact ⟨⟨t + 1, by omega, by go_num, ld ⟨(galloc hg _).trans hg1, (hg1.block _ (by simp; omega) (by simp)).trans ((ga wr _ none).block _ hsz (by simp) |>.trans hcell), HM.out⟩⟩, by simp [intOf]; omega⟩
    | false =>
     rw [hq] at hh hm
     rw [if_neg (by decide)] at hm
     have HM := ld hm
     clear hm hd hx
     go_wp2_with (go_at_call 51; refine (hh _ (galloc hg _)).mono ?_; rintro e w1 ⟨rfl, hg1⟩; have d4 := hg1.cell (cell_of_row _ _ 4 _ _ _ (heap_alloc_new wr _)) (by simp); have hc1 := (hg1.block _ (by simp; omega) (by simp)).trans ((ga wr _ none).block _ hsz (by simp) |>.trans hcell); refine Hid.out ?_)
     refine ld ?_
     go_wp2_with (with_reducible refine hold_st 4 ?_)
     refine ld ?_
     refine sg hc1 ?_
     intro w7 hh7 hg7
     go_wp2
     (try simp only [Exit.inBlock, Exit.then])
     refine br hh7 Tryz.underlying63 ?_
     rw [← Option.some.inj HM.out]
     exact ⟨rfl, ((galloc hg _).trans hg1).andThen hg7 (fun j e => .inl (by cases e; exact Nat.le_refl _))⟩
   ·rw [if_neg hs] at hm; cases hm
  ·have e : t = L := by omega
   subst e
   have hd : vs.drop t = [] := List.drop_eq_nil_of_le (by rw [← HL.out]; exact Nat.le_refl _)
   rw [hd] at hm
   have HM := ld (Option.some.inj hm)
   clear hm hd
   go_wp2_with (with_reducible refine hold_st 4 ?_)
   refine ld ?_
   refine sg hcell ?_
   intro w7 hh7 hg7
   go_wp2
   (try simp only [Exit.inBlock, Exit.then])
   refine br hh7 Tryz.underlying63 ?_
   rw [← HM.out]
   exact ⟨rfl, hg.andThen hg7 (fun j e => .inl (by cases e; exact Nat.le_refl _))⟩
end Go.Proofs.YtonafedbehnneaaGreat
