/- My texts NoL NoM RqB, joined. -/
import Derived.Test.YtonafedbehnneaaGreatMhM
import Derived.Test.YtonafedbehnneaaGreatMhI
set_option linter.unusedVariables false
set_option linter.unusedSimpArgs false
set_option linter.unnecessarySimpa false
set_option linter.unusedSectionVars false
set_option maxHeartbeats 12800000
set_option maxRecDepth 20000
namespace Go.Proofs.YtonafedbehnneaaGreat
open Go.RowKit Go.Maps Go.WideMaps
open Nam (St F)
def nFns : List Nat := [35, 36, 37, 38, 39, 40, 41, 42, 43]
def Sv.cells (v : Sv) : Array Value := #[.string ⟨v.nm.toArray⟩, .slice v.ua v.un v.uc, .slice v.ta v.tn v.tc, .slice v.la v.ln v.lc, .slice v.ia v.jn v.ic, .int .i64 v.at_]
theorem bs4 (w : World) (o p q r : Obj) : w.grownBy ((((w.alloc o).alloc p).alloc q).alloc r) none := galloc (galloc (galloc (ga w o none) p) q) r
theorem checkNode_any (f : Nat) (A : Adr) (w0 w : World) (st : St) (n : Gram.Node) (v : Sv) (hn1 : n.name = v.nm) (hn2 : n.at_ = v.at_)
  (h1 : RepC w0 0 [] (.l 112 5 (n.ins.map varD)) (.slice v.ua v.un v.uc)) (h2 : RepC w0 0 [] (.l 112 5 (n.outs.map varD)) (.slice v.ta v.tn v.tc)) (h3 : RepC w0 0 [] (.l 112 5 (n.locals.map varD)) (.slice v.la v.ln v.lc)) (h4 : RepC w0 0 [] (.l 40 12 (itemsD n.items)) (.slice v.ia v.jn v.ic))
  (h : Ck w0 w A st) (r : F × Nam.SS) (hr : Nam.node f n st = some r) :
  Calls Tryz.prog 28 #[.pointer (some ⟨A.c, 0, none⟩), .agg v.cells] w fun e w' => e = .returned (fv r.1) ∧ Kp [A.b0, A.b1, A.b2] w w' ∧ (r.1.2 = 0 → Ck w0 w' A r.2.1) := by
 have hmf := makeFunc_run
 obtain ⟨nb, hnbe⟩ : ∃ nb, nb = w.heap.size + 1 + 1 := ⟨_, rfl⟩
 obtain ⟨W4, hW4⟩ : ∃ W4, W4 = (((w.alloc (.cells v.cells 31 (0, 0))).alloc fo).alloc (v.nobj A (.map none))).alloc (.cells (nFns.map fun f => Value.func (.func f) #[.pointer (some ⟨nb, 0, none⟩)] #[]).toArray 82) := ⟨_, rfl⟩
 have hg4 : w.grownBy W4 none := by rw [hW4]; exact bs4 w _ _ _ _
 have hs4 : W4.heap.size = w.heap.size + 1 + 1 + 1 + 1 := by rw [hW4]; simp
 have hfb : W4.heap[w.heap.size + 1]? = some fo := by
  have e := heap_alloc_new (w.alloc (.cells v.cells 31 (0, 0))) fo
  rw [World.size_alloc] at e
  rw [hW4]; exact ((bs2 _ _ _).block _ (by simp) (by simp)).trans e
 have hnb : W4.heap[nb]? = some (v.nobj A (.map none)) := by
  have e := heap_alloc2_old ((w.alloc (.cells v.cells 31 (0, 0))).alloc fo) (v.nobj A (.map none)) (.cells (nFns.map fun f => Value.func (.func f) #[.pointer (some ⟨nb, 0, none⟩)] #[]).toArray 82)
  rw [World.size_alloc, World.size_alloc, ← hnbe] at e
  rw [hW4]; exact e
 have hfs : W4.heap[nb + 1]? = some (.cells (nFns.map fun f => Value.func (.func f) #[.pointer (some ⟨nb, 0, none⟩)] #[]).toArray 82 (0, 0)) := by
  have e := heap_alloc2_new ((w.alloc (.cells v.cells 31 (0, 0))).alloc fo) (v.nobj A (.map none)) (.cells (nFns.map fun f => Value.func (.func f) #[.pointer (some ⟨nb, 0, none⟩)] #[]).toArray 82)
  rw [World.size_alloc, World.size_alloc, ← hnbe] at e
  rw [hW4]; exact e
 have hlt := h.lt
 have hlm := h.mm.lt
 have hb0 := h.base.size
 have hI0 : NInv A w0 nb W4.heap.size v (st, none) W4 := ⟨h.kept hg4, _, hnb, rfl⟩
 have hp : NPl A w0 nb W4.heap.size := ⟨by omega, by omega, by simp; omega, by omega⟩
 have hord := inOrder_any (NInv A w0 nb W4.heap.size v) (fun _ => True) [A.b0, A.b1, A.b2, nb] (.pointer (some ⟨nb, 0, none⟩)) nFns
  [Nam.nName n, Nam.nDeclare false n.ins, Nam.nDeclare true n.outs, Nam.nDeclare true n.locals, Nam.sItems (Nam.items f) n.items, Nam.sMissing n.outs, Nam.sMissing n.locals, Nam.nClocks f n, Nam.nLeave n] (nb + 1) (st, none) W4 r (by decide) rfl hfs (by simp; omega) (by simp; omega)
  (by
   intro i g k hg hk
   have e1 := doName A w0 nb W4.heap.size v hp n hn1 hn2
   have e2 := doDecl A w0 nb W4.heap.size v hp false 36 (enters_of Tryz.func36 (by kernel_rfl) rfl) n.ins (fun w st dv ra re r2 q1 q2 q3 => nIns_any A w0 w st nb v.ua v.ta v.la v.ia v.un v.uc v.tn v.tc v.ln v.lc v.jn v.ic v.nm v.at_ dv n.ins q1 (NPl.nX A w0 nb _ hp) q2 h1 ra re r2 q3)
   have e3 := doDecl A w0 nb W4.heap.size v hp true 37 (enters_of Tryz.func37 (by kernel_rfl) rfl) n.outs (fun w st dv ra re r2 q1 q2 q3 => nOuts_any A w0 w st nb v.ua v.ta v.la v.ia v.un v.uc v.tn v.tc v.ln v.lc v.jn v.ic v.nm v.at_ dv n.outs q1 (NPl.nX A w0 nb _ hp) q2 h2 ra re r2 q3)
   have e4 := doDecl A w0 nb W4.heap.size v hp true 38 (enters_of Tryz.func38 (by kernel_rfl) rfl) n.locals (fun w st dv ra re r2 q1 q2 q3 => nLocals_any A w0 w st nb v.ua v.ta v.la v.ia v.un v.uc v.tn v.tc v.ln v.lc v.jn v.ic v.nm v.at_ dv n.locals q1 (NPl.nX A w0 nb _ hp) q2 h3 ra re r2 q3)
   have e5 := doNItems A w0 nb W4.heap.size v hp f n.items h4
   have e6 := doMiss A w0 nb W4.heap.size v hp 40 (enters_of Tryz.func40 (by kernel_rfl) rfl) n.outs (fun w st dv b m D ra re q1 q2 q3 q4 q5 => nOutsDef_any A w0 w st nb v.ua v.ta v.la v.ia v.un v.uc v.tn v.tc v.ln v.lc v.jn v.ic v.nm v.at_ dv n.outs q1 (NPl.nX A w0 nb _ hp) q2 h2 b q3 m D q4 ra re q5)
   have e7 := doMiss A w0 nb W4.heap.size v hp 41 (enters_of Tryz.func41 (by kernel_rfl) rfl) n.locals (fun w st dv b m D ra re q1 q2 q3 q4 q5 => nLocalsDef_any A w0 w st nb v.ua v.ta v.la v.ia v.un v.uc v.tn v.tc v.ln v.lc v.jn v.ic v.nm v.at_ dv n.locals q1 (NPl.nX A w0 nb _ hp) q2 h3 b q3 m D q4 ra re q5)
   have e8 := doClocks A w0 nb W4.heap.size v hp f n h3 h4
   have e9 := doNLeave A w0 nb W4.heap.size v hp n hn1 h1 h2 h3
   rcases i with _ | _ | _ | _ | _ | _ | _ | _ | _ | i
   ·cases hg; cases hk; exact e1
   ·cases hg; cases hk; exact e2
   ·cases hg; cases hk; exact e3
   ·cases hg; cases hk; exact e4
   ·cases hg; cases hk; exact e5
   ·cases hg; cases hk; exact e6
   ·cases hg; cases hk; exact e7
   ·cases hg; cases hk; exact e8
   ·cases hg; cases hk; exact e9
   ·simp at hk)
  (fun s a b n hs hgr hn => hs.st hp (by omega) hgr hn) (fun _ _ _ _ _ _ => trivial) (fun _ _ _ => trivial) hI0 hr
 rw [show nFns.length = 9 from rfl] at hord
 have HF := ld hW4
 have HG := ld hg4
 have HFB := ld hfb
 have HL := ld (And.intro h.lo (And.intro hlt (And.intro hlm hb0)))
 obtain ⟨⟨ra, re⟩, r2⟩ := r
 simp only [fv] at hord ⊢
 have HS := ld hs4
 rw [hW4] at hord
 subst hnbe
 simp only [nFns, List.map_cons, List.map_nil] at hord
 clear hW4 hg4 hs4 hfb hfs hI0 hr h1 h2 h3 h4 hnb hp hlt hlm hb0
 unfold Sv.cells at HF hord ⊢
 unfold Sv.nobj at HF hord
 go_enter Tryz.func28, Tryz.ntmps28
 go_wp2_with (go_at_call 34; refine hord.mono ?_; rintro e w3 ⟨rfl, hk3, hi3, _⟩; refine Hid.out ?_)
 have HK : Kp [A.b0, A.b1, A.b2, w.heap.size + 1 + 1] W4 w3 := by rw [HF.out]; exact hk3
 have hce3 := HK.at HFB.out (by simp; have := HL.out; omega)
 have HI := ld hi3
 clear hi3 hk3
 refine ld ?_
 go_wp2_with (with_reducible refine hold_st 4 ?_)
 refine ld ?_
 refine sg hce3 ?_
 intro w7 hh7 hg7
 go_wp2
 (try simp only [Exit.inBlock, Exit.then])
 refine br hh7 Tryz.underlying63 ?_
 have hk7 : Kp [A.b0, A.b1, A.b2, w.heap.size + 1 + 1] w w7 := ((Kp.of0 HG.out _).trans HK).trans' hg7 (by omega)
 refine ⟨rfl, hk7.mono (fun k e hk => by simp at e ⊢; omega), fun h0 => ?_⟩
 have h9 := (HI.out h0).1
 have := HL.out
 exact h9.keptB hg7 ⟨by omega, by simp; omega⟩
open Go.RowKit Go.Maps Go.WideMaps
open Nam (St F)
theorem nodeAt {w : World} {B : Nat} {E : List Nat} {L cap t : Nat} {a : Option Addr} {l : List Gram.Node} {n : Gram.Node} (h : RepC w B E (.l 31 6 (l.map nodeD)) (.slice a L cap)) (hx : l[t]? = some n) :
  ∃ g ua un uc ta tn tc la ln lc ia jn ic, a = some ⟨g, 0, none⟩ ∧ (w.cell? ⟨g, t * 6, none⟩ = some (.string ⟨n.name.toArray⟩) ∧ w.cell? ⟨g, t * 6 + 1, none⟩ = some (.slice ua un uc) ∧ w.cell? ⟨g, t * 6 + 2, none⟩ = some (.slice ta tn tc) ∧ w.cell? ⟨g, t * 6 + 3, none⟩ = some (.slice la ln lc) ∧ w.cell? ⟨g, t * 6 + 4, none⟩ = some (.slice ia jn ic) ∧ w.cell? ⟨g, t * 6 + 5, none⟩ = some (.int .i64 n.at_)) ∧
   RepC w B E (.l 112 5 (n.ins.map varD)) (.slice ua un uc) ∧ RepC w B E (.l 112 5 (n.outs.map varD)) (.slice ta tn tc) ∧ RepC w B E (.l 112 5 (n.locals.map varD)) (.slice la ln lc) ∧ RepC w B E (.l 40 12 (itemsD n.items)) (.slice ia jn ic) := by
 obtain ⟨g, vs, ha, hr, hq⟩ := nRowAt h (nMap nodeD (fun x => by cases x; rfl) l) t (nAt nodeD hx)
 simp only [nodeD] at hr
 obtain ⟨r1, rfl, h_1⟩ := RepRow.cInv hr
 obtain ⟨ua, un, uc, r2, rfl, k1, h_2⟩ := h_1.lInv
 obtain ⟨ta, tn, tc, r3, rfl, k2, h_3⟩ := h_2.lInv
 obtain ⟨la, ln, lc, r4, rfl, k3, h_4⟩ := h_3.lInv
 obtain ⟨ia, jn, ic, r5, rfl, k4, h_5⟩ := h_4.lInv
 obtain ⟨r6, rfl, h_6⟩ := h_5.cInv
 exact ⟨g, ua, un, uc, ta, tn, tc, la, ln, lc, ia, jn, ic, ha, ⟨by have := hq 0 _ rfl; rwa [Nat.add_zero] at this, hq 1 _ rfl, hq 2 _ rfl, hq 3 _ rfl, hq 4 _ rfl, hq 5 _ rfl⟩, k1, k2, k3, k4⟩
theorem nodesLen {w : World} {B : Nat} {E : List Nat} {L cap : Nat} {a : Option Addr} {l : List Gram.Node} (h : RepC w B E (.l 31 6 (l.map nodeD)) (.slice a L cap)) : L = l.length ∧ L ≤ maxLen := by
 have := nLen h
 rwa [List.length_map] at this
theorem ncheck_any (w : World) (l : List Gram.Node) (a : Option Addr) (L cap : Nat) (hv : RepC w 0 [] (.l 31 6 (l.map nodeD)) (.slice a L cap)) (ra re : Int) (hr : Nam.check l = some (ra, re)) :
  Calls Tryz.prog 18 #[.agg #[.slice a L cap]] w fun e w' => e = .returned (.tuple #[.int .i64 ra, .int .i64 re]) ∧ w.grownBy w' none := by
 obtain ⟨hL, hLm⟩ := nodesLen hv
 unfold maxLen at hLm
 obtain ⟨W1, hW1⟩ : ∃ W1, W1 = w.alloc (.cells #[.slice a L cap] 25 (0, 0)) := ⟨_, rfl⟩
 have hg1 : w.grownBy W1 none := by rw [hW1]; exact ga w _ none
 have hp1 : W1.heap[w.heap.size]? = some (.cells #[.slice a L cap] 25 (0, 0)) := by rw [hW1]; exact heap_alloc_new w _
 have hv1 : RepC W1 0 [] (.l 31 6 (l.map nodeD)) (.slice a L cap) := RepC.kept hg1 (fun k e => by cases e) hv
 have hnew := newChecker_any W1
 have HL := ld hL
 have HR := ld hr
 have HG := ld hg1
 have HP := ld hp1
 have HW := ld hW1
 rw [hW1] at hnew
 clear hL hr hg1 hp1 hv hW1
 go_enter Tryz.func18, Tryz.ntmps18
 go_wp2_with (go_at_call 27; refine hnew.mono ?_; rintro e w2 ⟨A, rfl, hck0⟩; rw [← HW.out] at hck0; have hpc := cell_of_row w2 _ 0 _ _ _ ((hck0.base.block _ (gl HP.out) (by simp)).trans HP.out); refine Hid.out ?_)
 have HC0 := ld hck0
 clear hck0 hnew
 refine ld ?_
 go_wp2
 go_loopw [12] (fun iv wr => ∃ (t : Nat) (st : St), t ≤ L ∧ iv = .int .i64 (t : Int) ∧ Hid (Ck W1 wr A st ∧ Nam.nodes 60 (l.drop t) st = some (ra, re))) (fun i _ => L - (intOf i).toNat)
 case atStart => exact ⟨0, ⟨[], [], [], 0⟩, Nat.zero_le _, rfl, ld ⟨HC0.out, HR.out⟩⟩
 case round =>
  obtain ⟨t, st, ht, rfl, HQ⟩ := hrel
  obtain ⟨hck, hm⟩ := HQ.out
  clear HQ HR hpc HC0
  by_cases hlt : t < L
  ·obtain ⟨x, hx⟩ : ∃ x, l[t]? = some x := ⟨_, List.getElem?_eq_getElem (by rw [← HL.out]; exact hlt)⟩
   rw [drop_at hx] at hm
   unfold Nam.nodes at hm
   obtain ⟨g, ua, un, uc, ta, tn, tc, la, ln, lc, ia, jn, ic, rfl, ⟨u0, u1, u2, u3, u4, u5⟩, k1, k2, k3, k4⟩ := nodeAt hv1 hx
   have v0 := hck.base.cell u0 (by simp)
   have v1 := hck.base.cell u1 (by simp)
   have v2 := hck.base.cell u2 (by simp)
   have v3 := hck.base.cell u3 (by simp)
   have v4 := hck.base.cell u4 (by simp)
   have v5 := hck.base.cell u5 (by simp)
   clear u0 u1 u2 u3 u4 u5
   cases hxe : Nam.node 60 x st with
   | none => rw [hxe] at hm; cases hm
   | some xr =>
   rw [hxe] at hm
   simp only at hm
   have hcn := checkNode_any 60 A W1 (wr.alloc (.cells #[.string ⟨x.name.toArray⟩, .slice ua un uc, .slice ta tn tc, .slice la ln lc, .slice ia jn ic, .int .i64 x.at_] 31 (0, 0))) st x ⟨x.name, ua, un, uc, ta, tn, tc, la, ln, lc, ia, jn, ic, x.at_⟩ rfl rfl k1 k2 k3 k4 (hck.kept (ga wr _ none)) xr hxe
   unfold Sv.cells at hcn
   simp only at hcn
   have hga := ga wr (.cells #[.string ⟨x.name.toArray⟩, .slice ua un uc, .slice ta tn tc, .slice la ln lc, .slice ia jn ic, .int .i64 x.at_] 31 (0, 0)) none
   have HGA := ld hga
   have HCK := ld hck
   obtain ⟨⟨xa, xe⟩, st2, dd⟩ := xr
   simp only [fv] at hcn
   have hfd := found_any (xa, xe)
   simp only [fv] at hfd
   clear hck hxe k1 k2 k3 k4 hx hga
   generalize x.name = nm at *
   generalize x.at_ = at_ at *
   by_cases h0 : xe = 0
   ·have hb : (xe != 0) = false := by simp [h0]
    rw [hb] at hfd
    rw [if_pos h0] at hm
    have H0 := ld h0
    have HM := ld hm
    clear hm h0 hb
    go_wp2_with (first | (go_at_call 28; refine hcn.mono ?_; rintro e w3 ⟨rfl, hk3, hi3⟩; have HI := ld (hi3 H0.out); clear hk3 hi3) | (go_at_call 29; refine (hfd _).mono ?_; rintro e w4 ⟨rfl, hg4⟩; refine Hid.out ?_))
    have hg34 : w3.grownBy w4 none := (ga w3 _ none).trans hg4
    have HF := ld (HI.out.kept hg34)
    clear hg34 hg4 HI hcn hfd
    refine ld ?_
    go_wp2
    exact ⟨⟨t + 1, st2, by omega, by go_num, ld ⟨HF.out, HM.out⟩⟩, by simp [intOf]; omega⟩
   ·have hb : (xe != 0) = true := by simp [h0]
    rw [hb] at hfd
    rw [if_neg h0] at hm
    have HM := ld (Option.some.inj hm)
    clear hm hb
    have HLo := ld HCK.out.lo
    go_wp2_with (first | (go_at_call 28; refine hcn.mono ?_; rintro e w3 ⟨rfl, hk3, hi3⟩; have HK := ld hk3; clear hk3 hi3) | (go_at_call 29; refine (hfd _).mono ?_; rintro e w4 ⟨rfl, hg4⟩; have d0 := hg4.cell (cell_of_row _ _ 0 _ _ _ (heap_alloc_new w3 _)) (by simp); have d1 := hg4.cell (cell_of_row _ _ 1 _ _ _ (heap_alloc_new w3 _)) (by simp); refine Hid.out ?_))
    have hg34 : w3.grownBy w4 none := (ga w3 _ none).trans hg4
    have hG : W1.grownBy w4 none := (Kp.grown (HCK.out.base.trans HGA.out) HK.out (by have := HLo.out; simp; omega)).trans hg34
    have HGG := ld (HG.out.trans hG)
    clear hG hg34 hg4 HK hcn hfd HCK HGA
    refine ld ?_
    go_wp2
    go_quiet (fail)
    go_wp2
    go_ret2
    have e := HM.out
    cases e
    exact ⟨rfl, gdrewN HGG.out _⟩
  ·have e : t = L := by omega
   subst e
   rw [List.drop_eq_nil_of_le (by rw [← HL.out]; exact Nat.le_refl _)] at hm
   have HM := ld (Option.some.inj hm)
   have HGG := ld (HG.out.trans hck.base)
   clear hm hck
   go_wp2
   go_ret2
   have e := HM.out
   cases e
   exact ⟨rfl, HGG.out⟩
open Go.RowKit Go.Maps Go.WideMaps
def Nam.law (s : List UInt8) : Option Nam.F := match Gram.Rf.parse s with
 | .ok l => Nam.check l
 | _ => none
theorem law_split {s : List UInt8} {x : Nam.F} (h : Nam.law s = some x) : ∃ l, Gram.Rf.parse s = .ok l ∧ Nam.check l = some x := by
 unfold Nam.law at h
 cases hp : Gram.Rf.parse s with
 | ok l => rw [hp] at h; exact ⟨l, rfl, h⟩
 | bad a e => rw [hp] at h; cases h
 | fuel => rw [hp] at h; cases h
theorem num5_any (n : Int) (w : World) : Calls Tryz.prog 19 #[.int .i64 n] w fun e w' => e = .returned (.int .i64 n) ∧ w' = w := by
 go_enter Tryz.func19, Tryz.ntmps19
 go_wp2
 go_ret
 exact ⟨rfl, rfl⟩
theorem prog5_ok {s : ByteArray} (hs : s.size ≤ 8000) {l : List Gram.Node} (hp : Gram.Rf.parse s.data.toList = .ok l) (w : World) : Calls Tryz.prog 9 #[.string s] w fun e w' => ∃ a L c, e = .returned (.tuple #[.agg #[.slice a L c], .bool true]) ∧ RepC w' w.heap.size [] (.l 31 6 (l.map nodeD)) (.slice a L c) ∧ w.grownBy w' none := by
 have hpa := rparse_any s (w.alloc prE) (by rw [hp]; simp)
 rw [hp] at hpa
 simp only [rpsPost] at hpa
 have hg0 := ga w prE none
 have hr0 := heap_alloc_new w prE
 have hs0 : (w.alloc prE).heap.size = w.heap.size + 1 := by simp
 have hd : decide ((8000 : Int) < (s.size : Int)) = false := by rw [decide_eq_false_iff_not]; omega
 have HG0 := ld hg0
 have HR0 := ld hr0
 unfold prE at hpa
 clear hp hg0 hr0
 go_enter Tryz.func9, Tryz.ntmps9
 go_wp2_with (first | (go_at_call 20; refine hpa.mono ?_; rintro e w1 ⟨a, L, c, rfl, hk, hg1⟩; refine Hid.out ?_))
 rw [show (Obj.cells #[Value.slice none 0 0] 25) = prE from rfl] at hg1 hk
 have hga := ga w1 (.cells #[.slice a L c] 25 (0, 0)) none
 have hgx : (w.alloc prE).grownBy (w1.alloc (.cells #[.slice a L c] 25 (0, 0))) none := hg1.trans hga
 have hce := (hgx.block w.heap.size (by omega) (by simp)).trans HR0.out
 have z0 := cell_of_row _ _ 0 _ _ _ (heap_alloc_new w1 (.cells #[.slice a L c] 25 (0, 0)))
 have HK := ld (And.intro (RepC.kept hga (fun k e => by cases e) hk) (HG0.out.trans hgx))
 clear hk hg1 hga hgx hpa HR0
 refine ld ?_
 go_wp2_with (with_reducible refine hold_st 2 ?_)
 refine ld ?_
 refine sg hce ?_
 intro w7 hh7 hg7
 go_wp2
 (try simp only [Exit.inBlock, Exit.then])
 refine bodyPost_ret (results_cell_tmp rfl _ _ w.heap.size 25 _ (0, 0) _ _ rfl rfl hh7 Tryz.underlying25 rfl (by kernel_rfl)) rfl ?_
 exact ⟨_, _, _, rfl, RepC.mono (by omega) (RepC.kept hg7 (fun k e => by cases e; omega) HK.out.1), HK.out.2.andThen hg7 (fun j e => .inl (by cases e; exact Nat.le_refl _))⟩
theorem prog5_law {s : ByteArray} {x : Nam.F} (hs : s.size ≤ 8000) (hx : Nam.law s.data.toList = some x) (w : World) : Calls Tryz.prog 9 #[.string s] w fun e w' => ∃ l a L c, e = .returned (.tuple #[.agg #[.slice a L c], .bool true]) ∧ Nam.check l = some x ∧ RepC w' 0 [] (.l 31 6 (l.map nodeD)) (.slice a L c) ∧ w.grownBy w' none := by
 obtain ⟨l, hp, hc⟩ := law_split hx
 refine (prog5_ok hs hp w).mono ?_
 rintro e w' ⟨a, L, c, rfl, h1, h2⟩
 exact ⟨l, a, L, c, rfl, hc, RepC.mono (Nat.zero_le _) h1, h2⟩
theorem alive5_any (w : World) : Calls Tryz.prog 8 #[] w fun e w' => e = .returned (.bool true) ∧ w.grownBy w' none := by
 go_enter Tryz.func8, Tryz.ntmps8
 go_wp2_with (first | (go_at_call 9; refine (prog5_law (x := (35, 21)) (by decide +kernel) (by kernel_rfl) _).mono ?_; rintro e w1 ⟨l1, a1, L1, c1, rfl, k1, h1, hg1⟩; refine Hid.out ?_))
 have hga := ga w1 (.cells #[.slice a1 L1 c1] 25 (0, 0)) none
 have q1 := cell_of_row _ _ 0 _ _ _ (heap_alloc_new w1 (.cells #[.slice a1 L1 c1] 25 (0, 0)))
 have HA := ld (And.intro (RepC.kept hga (fun k e => by cases e) h1) (hg1.trans hga))
 clear hga hg1 h1
 refine ld ?_
 go_wp2_with (first | (go_at_call 9; refine (prog5_law (x := (0, 0)) (by decide +kernel) (by kernel_rfl) _).mono ?_; rintro e w2 ⟨l2, a2, L2, c2, rfl, k2, h2, hg2⟩; refine Hid.out ?_))
 have hgb := ga w2 (.cells #[.slice a2 L2 c2] 25 (0, 0)) none
 have q2 := cell_of_row _ _ 0 _ _ _ (heap_alloc_new w2 (.cells #[.slice a2 L2 c2] 25 (0, 0)))
 have q1' := (hg2.trans hgb).cell q1 (by simp)
 have HB := ld (And.intro (RepC.kept hgb (fun k e => by cases e) h2) (And.intro (RepC.kept (hg2.trans hgb) (fun k e => by cases e) HA.out.1) (HA.out.2.trans (hg2.trans hgb))))
 clear hgb hg2 h2 q1 HA
 refine ld ?_
 go_wp2_with (first | (go_at_call 18; refine (ncheck_any _ l1 a1 L1 c1 HB.out.2.1 35 21 k1).mono ?_; rintro e w3 ⟨rfl, hg3⟩; refine Hid.out ?_))
 have q2' := hg3.cell q2 (by simp)
 have HC := ld (And.intro (RepC.kept hg3 (fun k e => by cases e) HB.out.1) (HB.out.2.2.trans hg3))
 clear hg3 q1' q2 HB
 refine ld ?_
 go_wp2_with (first | (go_at_call 18; refine (ncheck_any _ l2 a2 L2 c2 HC.out.1 0 0 k2).mono ?_; rintro e w4 ⟨rfl, hg4⟩; refine Hid.out ?_))
 have HD := ld (HC.out.2.trans hg4)
 clear hg4 q2' HC
 refine ld ?_
 go_wp2_with (go_at_call 19; refine (num5_any _ _).mono ?_; rintro e w' ⟨rfl, rfl⟩)
 go_ret
 exact ⟨rfl, HD.out⟩
end Go.Proofs.YtonafedbehnneaaGreat
