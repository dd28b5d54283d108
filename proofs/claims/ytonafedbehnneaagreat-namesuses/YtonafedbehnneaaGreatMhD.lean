/- My texts RpH RpI RpJ RpK GrT GrU GrV GrW GrX GrY GrZ GsA RpL RpLa, joined. -/
import Derived.Test.YtonafedbehnneaaGreatMhC
import Derived.Deep.MidRow
set_option linter.unusedVariables false
set_option linter.unusedSimpArgs false
set_option linter.unnecessarySimpa false
set_option linter.unusedSectionVars false
set_option maxHeartbeats 12800000
set_option maxRecDepth 20000
namespace Go.Proofs.YtonafedbehnneaaGreat
open Go.RowKit Go.Maps Go.WideMaps
def rxPost (w : World) (b g cap : Nat) (T : List Lex.Tk) (r : Option (List Gram.Exp × Gram.Rf.St)) (e : Ending) (w' : World) : Prop :=
 match r with
 | some x => ∃ v, e = .returned v ∧ Growing w' w.heap.size x.1 v ∧ Rp w' b g cap T x.2 ∧ w.grownBy w' (some b)
 | none => False
section
variable (b g cap : Nat) (T : List Lex.Tk)
theorem rexps_any (f : Nat) (hC : ∀ f', f' < f → CRex b g cap T 88 (Gram.Rf.exp T f')) (s : Gram.Rf.St) (w : World) (h : Rp w b g cap T s) (hf : (Gram.Rf.exps T f [] s).isSome = true) :
  Calls Tryz.prog 118 #[.pointer (some ⟨b, 0, none⟩), .int .i64 0] w fun e w' => rxPost w b g cap T (Gram.Rf.exps T f [] s) e w' := by
 obtain ⟨it, hit, hz, hsz, hby⟩ := infoP infoE
 have hbw := h.bl
 have HH := ld h
 clear h
 go_enter Tryz.func118, Tryz.ntmps118
 go_wp2
 go_loopg [5] f (fun (f' : Nat) (s5 : Value) (wr : World) => ∃ (acc : List Gram.Exp) (s' : Gram.Rf.St), f' ≤ f ∧ acc.length ≤ 16 ∧ Hid (Growing wr w.heap.size acc s5 ∧ Rp wr b g cap T s' ∧ w.grownBy wr (some b) ∧ Gram.Rf.exps T f' acc s' = Gram.Rf.exps T f [] s))
 case atStart => exact ⟨[], s, Nat.le_refl _, by simp, ld ⟨Growing.nil _ _, HH.out, World.grownBy.refl _ _, rfl⟩⟩
 case round =>
  obtain ⟨acc, s', hff, ha16, HG⟩ := hrel
  obtain ⟨hA, hP, hg, hL⟩ := HG.out
  clear HG
  rcases Nat.eq_zero_or_pos gk with hz0 | hz0
  ·rw [hz0] at hL; rw [← hL] at hf; exact absurd hf (by simp [Gram.Rf.exps])
  obtain ⟨f', hfe⟩ : ∃ f', gk = f' + 1 := ⟨gk - 1, by omega⟩
  subst hfe
  have hr : Gram.Rf.exps T f [] s = if s'.e = 0 then (if 16 ≤ acc.length then some (acc, Gram.Rf.fail T 2 s') else Gram.Rf.bindS (Gram.Rf.exp T f' s') fun x s => if Gram.Rf.is T [44] s then Gram.Rf.exps T f' (acc ++ [x]) (Gram.Rf.adv s) else some (acc ++ [x], s)) else some (acc, s') := by rw [← hL]; conv => lhs; unfold Gram.Rf.exps
  rw [hr] at hf
  have HR := ld hr
  clear hr hL
  have p2 := hP.st.c2
  obtain ⟨xs, hown, hrow⟩ := hA
  have hlf := fun ty wx => len_ownE hown ty wx
  have HA := ld (show Growing wr w.heap.size acc u5 from ⟨xs, hown, hrow⟩)
  have HO := ld hown
  clear hown hrow
  by_cases he : s'.e = 0
  ·have b0 : (s'.e == 0) = true := by rw [beq_iff_eq]; exact he
   have HE0 := ld he
   rw [if_pos he] at hf
   clear he
   generalize s'.e = e0 at p2 b0
   by_cases hm : 16 ≤ acc.length
   ·have hrm := rfull_yes b g cap T s' (acc.length : Int) 16 (by omega) wr hP
    have HM := ld hm
    clear hf hm
    go_wp2_with (go_at_call 48; refine hrm.mono ?_; rintro e w2 ⟨rfl, hP2, hg2⟩)
    go_ret
    rw [HR.out, if_pos HE0.out, if_pos HM.out]
    exact ⟨_, rfl, HA.out.keptB hg2 hbw, hP2, hg.trans hg2⟩
   ·rw [if_neg hm] at hf
    have hrm := fun wx => rfull_no b (acc.length : Int) 16 (by omega) wx
    have HM := ld hm
    clear hm
    cases hex : Gram.Rf.exp T f' s' with
    | none => rw [hex] at hf; cases hf
    | some r =>
     obtain ⟨x, s2⟩ := r
     have hc := hC f' (by omega) s' wr hP (by rw [hex]; rfl)
     cases x with
     | mk f1 s1 nm1 tk1 tl1 n1 m1 ks1 a1 =>
     simp only [hex, rePost, expV] at hc
     have HE : Hid (Gram.Rf.exps T f [] s = if Gram.Rf.is T [44] s2 then Gram.Rf.exps T f' (acc ++ [(.mk f1 s1 nm1 tk1 tl1 n1 m1 ks1 a1)]) (Gram.Rf.adv s2) else some (acc ++ [(.mk f1 s1 nm1 tk1 tl1 n1 m1 ks1 a1)], s2)) := by
      show _ = _
      rw [HR.out, if_pos HE0.out, if_neg HM.out, hex]
      rfl
     clear hf hex HR
     go_wp2_with (first | (go_at_call 48; refine (hrm _).mono ?_; rintro e w8 ⟨rfl, hw8⟩; rw [hw8]; clear hw8) | (go_at_call 88; refine hc.mono ?_; rintro e w2 ⟨k2, rfl, hk2, hP2, hg2⟩; refine Hid.out ?_))
     obtain ⟨ka, kn, kc, rfl⟩ := hk2.form
     obtain ⟨xs2, ho2, hr2⟩ := Growing.kept hg2 (fun k e => by cases e; exact hbw) HA.out
     have hl16 := HM.out
     have hszw := hg.size
     have hszA := hg2.size
     refine ld ?_
     go_wp2_with (at_builtin; refine wpList_append_own_at _ rfl _ _ 35 rfl w.heap.size 37 it _ 9 96 Tryz.underlying35 hit hz hsz hby rfl (by decide) _ acc.length xs2 rfl (ho2.alloc _) ⟨w2.heap.size, 0, none⟩ 1 1 (expCells (.mk f1 s1 nm1 tk1 tl1 n1 m1 ks1 a1) (.slice ka kn kc)) rfl rfl (cell_row_new w2 (expCells (.mk f1 s1 nm1 tk1 tl1 n1 m1 ks1 a1) (.slice ka kn kc)) 37) (exp_one _ _ _ _) ?_ ?_ ?_ ?_)
     ·unfold maxLen; omega
     ·omega
     ·simp only [World.size_alloc]; omega
     intro v' w3 hown' hgrow3 _ hvb
     have hG3 : Growing w3 w.heap.size (acc ++ [(.mk f1 s1 nm1 tk1 tl1 n1 m1 ks1 a1)]) v' := growing_snoc hgrow3 hown' (RepRow.keptX (ga w2 _ none) (fun k e => by cases e) hr2) (RepC.kept (ga w2 _ none) (fun k e => by cases e) (RepC.mono (by omega) (RepC.toX u5.ownBlock.toList (fun k e => .inr (by have := HA.out.lt k e; omega)) hk2))) (by rw [World.size_alloc]; exact hvb)
     have hg3 : w.grownBy w3 (some b) := (galloc (hg.trans hg2) _).andThen hgrow3 (fun j e => .inl (ho2.lt j e).1)
     have hP3 : Rp w3 b g cap T s2 := HH.out.to hg3 ((hP2.st.kept (ga w2 _ none) (by simp)).kept hgrow3 (by intro e; have := ho2.lt b (by first | exact e | exact e.symm); omega)) hP2.lt
     have HG3 := ld hG3
     clear hG3 hown' hvb
     have hS := rmaybe_any b g cap T s2 ⟨#[44]⟩ w3 hP3
     unfold Gram.Rf.maybe at hS
     rw [show ((⟨#[44]⟩ : ByteArray)).data.toList = [44] from rfl] at hS
     cases hsx : Gram.Rf.is T [44] s2 with
     | true =>
      rw [hsx, if_pos rfl] at hS
      go_wp2_with (go_at_call 67; refine hS.mono ?_; rintro e w4 ⟨rfl, hP4, hg4⟩)
      go_roundg f'
      case measure => exact Nat.lt_succ_self _
      case rel => exact ⟨acc ++ [(.mk f1 s1 nm1 tk1 tl1 n1 m1 ks1 a1)], Gram.Rf.adv s2, by omega, by simp; omega, ld ⟨Growing.kept hg4 (fun k e => by cases e; exact hbw) HG3.out, hP4, hg3.trans hg4, by rw [HE.out, if_pos hsx]⟩⟩
     | false =>
      rw [hsx, if_neg (by decide)] at hS
      go_wp2_with (go_at_call 67; refine hS.mono ?_; rintro e w4 ⟨rfl, hP4, hg4⟩)
      go_ret
      rw [HE.out, if_neg (by rw [hsx]; decide)]
      exact ⟨_, rfl, Growing.kept hg4 (fun k e => by cases e; exact hbw) HG3.out, hP4, hg3.trans hg4⟩
  ·have b0 : (s'.e == 0) = false := by rw [beq_eq_false_iff_ne]; exact he
   have HE0 := ld he
   clear he hf
   generalize s'.e = e0 at p2 b0
   go_wp2
   go_ret
   rw [HR.out, if_neg HE0.out]
   exact ⟨_, rfl, HA.out, hP, hg⟩
theorem rcall_step (f : Nat) (hC : ∀ f', f' < f → CRex b g cap T 88 (Gram.Rf.exp T f')) (s : Gram.Rf.St) (w : World) (h : Rp w b g cap T s) (hf : (Gram.Rf.call T (f + 1) s).isSome = true) :
  Calls Tryz.prog 117 #[.pointer (some ⟨b, 0, none⟩)] w fun e w' => rxPost w b g cap T (Gram.Rf.call T (f + 1) s) e w' := by
 have hbw := h.bl
 rw [Gram.Rf.call] at hf ⊢
 have hA := rtake_any b g cap T s ⟨#[40]⟩ w h
 rw [show ((⟨#[40]⟩ : ByteArray)).data.toList = [40] from rfl] at hA
 generalize Gram.Rf.take T [40] s = s1 at *
 clear h
 cases hq : Gram.Rf.is T [41] s1 with
 | true =>
  rw [hq] at hf
  rw [if_pos rfl] at hf ⊢
  clear hf
  go_enter Tryz.func117, Tryz.ntmps117
  go_wp2_with (go_at_call 64; refine hA.mono ?_; rintro e w1 ⟨rfl, hP1, hg1⟩; refine Hid.out ?_)
  have hI := ris_any b g cap T s1 ⟨#[41]⟩ w1 hP1
  rw [show ((⟨#[41]⟩ : ByteArray)).data.toList = [41] from rfl, hq] at hI
  have HB := ld (fun wx (hx : w1.grownBy wx none) => rtake_any b g cap T s1 ⟨#[41]⟩ wx (hP1.kept hx))
  refine ld ?_
  go_wp2_with (first | (go_at_call 46; refine hI.mono ?_; rintro e w2 ⟨rfl, hg2⟩) | (go_at_call 64; refine (HB.out _ hg2).mono ?_; rintro e w3 ⟨rfl, hP3, hg3⟩))
  go_ret
  exact ⟨_, rfl, Growing.nil _ _, hP3, (hg1.trans (grown_some hg2 b)).trans hg3⟩
 | false =>
  rw [hq] at hf
  rw [if_neg (by decide)] at hf ⊢
  cases hex : Gram.Rf.exps T f [] s1 with
  | none => rw [hex] at hf; cases hf
  | some r =>
   obtain ⟨l, s2⟩ := r
   simp only [Gram.Rf.bindS]
   clear hf
   go_enter Tryz.func117, Tryz.ntmps117
   go_wp2_with (go_at_call 64; refine hA.mono ?_; rintro e w1 ⟨rfl, hP1, hg1⟩; refine Hid.out ?_)
   have hI := ris_any b g cap T s1 ⟨#[41]⟩ w1 hP1
   rw [show ((⟨#[41]⟩ : ByteArray)).data.toList = [41] from rfl, hq] at hI
   have HX : Hid (∀ wx, w1.grownBy wx none → Calls Tryz.prog 118 #[.pointer (some ⟨b, 0, none⟩), .int .i64 0] wx fun e w' => rxPost wx b g cap T (some (l, s2)) e w') := ld (fun wx hx => by
    have := rexps_any b g cap T f hC s1 wx (hP1.kept hx) (by rw [hex]; rfl)
    rw [hex] at this
    exact this)
   clear hex
   refine ld ?_
   go_wp2_with (first | (go_at_call 46; refine hI.mono ?_; rintro e w2 ⟨rfl, hg2⟩) | (go_at_call 118; refine (HX.out _ hg2).mono ?_; rintro e w3 ⟨v, rfl, hk3, hP3, hg3⟩; refine Hid.out ?_))
   have hB := rtake_any b g cap T s2 ⟨#[41]⟩ w3 hP3
   have hs1 := hg1.size
   have hs2 := hg2.size
   refine ld ?_
   go_wp2_with (go_at_call 64; refine hB.mono ?_; rintro e w4 ⟨rfl, hP4, hg4⟩)
   go_ret
   exact ⟨_, rfl, (hk3.keptB hg4 (by have := hP1.bl; omega)).mono (by omega), hP4, ((hg1.trans (grown_some hg2 b)).trans hg3).trans hg4⟩
end
open Go.RowKit Go.Maps Go.WideMaps
section
variable (b g cap : Nat) (T : List Lex.Tk)
theorem sgOn {w0 W W' : World} {P : Nat} {x y z : Value} (h : W.cell? ⟨P, 2, none⟩ = some x ∧ W.cell? ⟨P, 3, none⟩ = some y ∧ W.cell? ⟨P, 4, none⟩ = some z ∧ w0.grownBy W none) (hg : W.grownBy W' none) : W'.cell? ⟨P, 2, none⟩ = some x ∧ W'.cell? ⟨P, 3, none⟩ = some y ∧ W'.cell? ⟨P, 4, none⟩ = some z ∧ w0.grownBy W' none :=
 ⟨hg.cell h.1 (by simp), hg.cell h.2.1 (by simp), hg.cell h.2.2.1 (by simp), h.2.2.2.trans hg⟩
theorem sgDrew {w0 W : World} {P : Nat} {x y z : Value} (h : W.cell? ⟨P, 2, none⟩ = some x ∧ W.cell? ⟨P, 3, none⟩ = some y ∧ W.cell? ⟨P, 4, none⟩ = some z ∧ w0.grownBy W none) : W.drew.cell? ⟨P, 2, none⟩ = some x ∧ W.drew.cell? ⟨P, 3, none⟩ = some y ∧ W.drew.cell? ⟨P, 4, none⟩ = some z ∧ w0.grownBy W.drew none := sgOn h (gdrew (World.grownBy.refl _ _))
theorem rsigned_step (f : Nat) (h1 : CRex b g cap T 112 (Gram.Rf.unary T f)) (h2 : CRex b g cap T 116 (Gram.Rf.prim T f)) : CRex b g cap T 114 (Gram.Rf.signed T (f + 1)) := by
 intro s w h hf
 have hP0 := h.alloc exp0
 have hbw := h.bl
 have hm := h.toks.most
 have HH := ld h
 rw [Gram.Rf.signed] at hf ⊢
 cases hqn : Gram.Rf.is T [110, 111, 116] s with
 | true =>
  rw [hqn] at hf
  rw [if_pos rfl] at hf ⊢
  clear h
  cases hr : Gram.Rf.unary T f (Gram.Rf.adv s) with
  | none => rw [hr] at hf; cases hf
  | some r =>
   obtain ⟨x, s2⟩ := r
   simp only [Gram.Rf.bindS]
   cases x with
   | mk f1 s1' nm1 tk1 tl1 n1 m1 ks1 a1 =>
   clear hf
   have hn := rtok_any b g cap T s (w.alloc exp0) hP0
   have hfA := fldAt (Gram.tk T s.i)
   generalize Gram.tk T s.i = y at *
   go_enter Tryz.func114, Tryz.ntmps114
   go_wp2_with (go_at_call 45; refine hn.mono ?_; rintro e w1 ⟨rfl, hg1⟩; refine Hid.out ?_)
   have hP1 := hP0.kept hg1
   have hgw1 : (w.alloc exp0).grownBy w1 (some b) := grown_some hg1 b
   have hM1t := rmaybe_any b g cap T s ⟨#[110, 111, 116]⟩ w1 hP1
   unfold Gram.Rf.maybe at hM1t
   rw [show ((⟨#[110, 111, 116]⟩ : ByteArray)).data.toList = [110, 111, 116] from rfl] at hM1t
   rw [hqn, if_pos rfl] at hM1t
   refine ld ?_
   go_wp2_with (go_at_call 67; refine hM1t.mono ?_; rintro e w2 ⟨rfl, hP2, hgw2⟩; refine Hid.out ?_)
   have hgw2 := hgw1.trans hgw2
   have hc := h1 _ w2 hP2
   rw [hr] at hc
   have hc2 := hc rfl
   simp only [rePost, expV] at hc2
   have hsa := hgw2.size
   rw [World.size_alloc] at hsa
   refine ld ?_
   go_wp2_with (go_at_call 112; refine hc2.mono ?_; rintro e w5 ⟨k1, rfl, hk1, hP5, hg5⟩; refine Hid.out ?_)
   obtain ⟨ka, kn, kc, rfl⟩ := hk1.form
   have hs5 := hg5.size
   refine ld ?_
   go_wp2_with (with_reducible refine hold_st 2 ?_)
   obtain ⟨W, hW⟩ : ∃ W, W = w5.alloc (.cells #[.int .i64 f1, .int .i64 s1', .string ⟨nm1.toArray⟩, .int .i64 tk1, .int .i64 tl1, .int .i64 n1, .int .i64 m1, .slice ka kn kc, .int .i64 a1] 37) := ⟨_, rfl⟩
   have hgW : w5.grownBy W none := by rw [hW]; exact ga w5 _ none
   have hoW : W.ownsRow (w.heap.size + 1) 37 9 (.slice (some ⟨w5.heap.size, 0, none⟩) 1 1) 1 (expCells (.mk f1 s1' nm1 tk1 tl1 n1 m1 ks1 a1) (.slice ka kn kc)) := by rw [hW]; exact owns_new (w := w5) 37 9 1 (expCells (.mk f1 s1' nm1 tk1 tl1 n1 m1 ks1 a1) (.slice ka kn kc)) (by omega) rfl (by unfold maxLen; omega)
   rw [← hW]
   clear hW
   have hgX : (w.alloc exp0).grownBy W (some b) := (hgw2.trans hg5).trans (grown_some hgW b)
   have hKx : Kids W (w.heap.size + 1) [(.mk f1 s1' nm1 tk1 tl1 n1 m1 ks1 a1)] (.slice (some ⟨w5.heap.size, 0, none⟩) 1 1) := KidsX.one' hoW (fun k e => by cases e) (RepC.kept hgW (fun k e => by cases e) (RepC.mono (by omega) hk1))
   refine wpList_store_gen rfl _ _ _ rfl w.heap.size #[.int .i64 3, .int .i64 1, .string ⟨#[]⟩, .int .i64 0, .int .i64 0, .int .i64 0, .int .i64 0, .slice (some ⟨w5.heap.size, 0, none⟩) 1 1, .int .i64 (y.at_ : Int)] rfl rfl 37 _ ((hgX.block w.heap.size (by simp) (by simp; omega)).trans (heap_alloc_new w exp0)) (by kernel_rfl) rfl (by simp [Value.oneCell']) ?_
   intro w6 hh6 hg6
   go_wp2
   (try simp only [Exit.inBlock, Exit.then])
   refine br hh6 Tryz.underlying37 ?_
   have hG : w.grownBy w6 (some b) := ((grown_some (ga w exp0 none) b).trans hgX).andThen hg6 (fun j e => .inl (by cases e; exact Nat.le_refl _))
   exact ⟨_, rfl, RepC.mono (by omega) (RepC.kept hg6 (fun k e => by cases e; omega) hKx), HH.out.to hG ((hP5.kept hgW).st.kept hg6 (by simp; omega)) hP5.lt, hG⟩
 | false =>
 rw [hqn] at hf
 rw [if_neg (by decide)] at hf ⊢
 cases hqp : Gram.Rf.is T [112, 114, 101] s with
 | true =>
  rw [hqp] at hf
  rw [if_pos rfl] at hf ⊢
  clear h
  cases hr : Gram.Rf.unary T f (Gram.Rf.adv s) with
  | none => rw [hr] at hf; cases hf
  | some r =>
   obtain ⟨x, s2⟩ := r
   simp only [Gram.Rf.bindS]
   cases x with
   | mk f1 s1' nm1 tk1 tl1 n1 m1 ks1 a1 =>
   clear hf
   have hn := rtok_any b g cap T s (w.alloc exp0) hP0
   have hfA := fldAt (Gram.tk T s.i)
   generalize Gram.tk T s.i = y at *
   go_enter Tryz.func114, Tryz.ntmps114
   go_wp2_with (go_at_call 45; refine hn.mono ?_; rintro e w1 ⟨rfl, hg1⟩; refine Hid.out ?_)
   have hP1 := hP0.kept hg1
   have hgw1 : (w.alloc exp0).grownBy w1 (some b) := grown_some hg1 b
   have hM1f := rmaybe_any b g cap T s ⟨#[110, 111, 116]⟩ w1 hP1
   unfold Gram.Rf.maybe at hM1f
   rw [show ((⟨#[110, 111, 116]⟩ : ByteArray)).data.toList = [110, 111, 116] from rfl] at hM1f
   rw [hqn, if_neg (by decide)] at hM1f
   refine ld ?_
   go_wp2_with (go_at_call 67; refine hM1f.mono ?_; rintro e w2 ⟨rfl, hP2, hgw2⟩; refine Hid.out ?_)
   have hgw2 := hgw1.trans hgw2
   have hM2t := rmaybe_any b g cap T s ⟨#[112, 114, 101]⟩ w2 hP2
   unfold Gram.Rf.maybe at hM2t
   rw [show ((⟨#[112, 114, 101]⟩ : ByteArray)).data.toList = [112, 114, 101] from rfl] at hM2t
   rw [hqp, if_pos rfl] at hM2t
   refine ld ?_
   go_wp2_with (go_at_call 67; refine hM2t.mono ?_; rintro e w3 ⟨rfl, hP3, hgw3⟩; refine Hid.out ?_)
   have hgw3 := hgw2.trans hgw3
   have hc := h1 _ w3 hP3
   rw [hr] at hc
   have hc2 := hc rfl
   simp only [rePost, expV] at hc2
   have hsa := hgw3.size
   rw [World.size_alloc] at hsa
   refine ld ?_
   go_wp2_with (go_at_call 112; refine hc2.mono ?_; rintro e w5 ⟨k1, rfl, hk1, hP5, hg5⟩; refine Hid.out ?_)
   obtain ⟨ka, kn, kc, rfl⟩ := hk1.form
   have hs5 := hg5.size
   refine ld ?_
   go_wp2_with (with_reducible refine hold_st 2 ?_)
   obtain ⟨W, hW⟩ : ∃ W, W = w5.alloc (.cells #[.int .i64 f1, .int .i64 s1', .string ⟨nm1.toArray⟩, .int .i64 tk1, .int .i64 tl1, .int .i64 n1, .int .i64 m1, .slice ka kn kc, .int .i64 a1] 37) := ⟨_, rfl⟩
   have hgW : w5.grownBy W none := by rw [hW]; exact ga w5 _ none
   have hoW : W.ownsRow (w.heap.size + 1) 37 9 (.slice (some ⟨w5.heap.size, 0, none⟩) 1 1) 1 (expCells (.mk f1 s1' nm1 tk1 tl1 n1 m1 ks1 a1) (.slice ka kn kc)) := by rw [hW]; exact owns_new (w := w5) 37 9 1 (expCells (.mk f1 s1' nm1 tk1 tl1 n1 m1 ks1 a1) (.slice ka kn kc)) (by omega) rfl (by unfold maxLen; omega)
   rw [← hW]
   clear hW
   have hgX : (w.alloc exp0).grownBy W (some b) := (hgw3.trans hg5).trans (grown_some hgW b)
   have hKx : Kids W (w.heap.size + 1) [(.mk f1 s1' nm1 tk1 tl1 n1 m1 ks1 a1)] (.slice (some ⟨w5.heap.size, 0, none⟩) 1 1) := KidsX.one' hoW (fun k e => by cases e) (RepC.kept hgW (fun k e => by cases e) (RepC.mono (by omega) hk1))
   refine wpList_store_gen rfl _ _ _ rfl w.heap.size #[.int .i64 6, .int .i64 0, .string ⟨#[]⟩, .int .i64 0, .int .i64 0, .int .i64 0, .int .i64 0, .slice (some ⟨w5.heap.size, 0, none⟩) 1 1, .int .i64 (y.at_ : Int)] rfl rfl 37 _ ((hgX.block w.heap.size (by simp) (by simp; omega)).trans (heap_alloc_new w exp0)) (by kernel_rfl) rfl (by simp [Value.oneCell']) ?_
   intro w6 hh6 hg6
   go_wp2
   (try simp only [Exit.inBlock, Exit.then])
   refine br hh6 Tryz.underlying37 ?_
   have hG : w.grownBy w6 (some b) := ((grown_some (ga w exp0 none) b).trans hgX).andThen hg6 (fun j e => .inl (by cases e; exact Nat.le_refl _))
   exact ⟨_, rfl, RepC.mono (by omega) (RepC.kept hg6 (fun k e => by cases e; omega) hKx), HH.out.to hG ((hP5.kept hgW).st.kept hg6 (by simp; omega)) hP5.lt, hG⟩
 | false =>
 rw [hqp] at hf
 rw [if_neg (by decide)] at hf ⊢
 cases hqm : Gram.Rf.is T [45] s with
 | true =>
  rw [hqm] at hf
  rw [if_pos rfl] at hf ⊢
  have hi1 := h.nextIs hqm
  have he0 := (is_kind hqm).1
  clear h
  by_cases hv : (Gram.tk T (s.i + 1)).kind = 2 ∧ 0 < (Gram.tk T (s.i + 1)).t
  ·rw [if_pos hv] at hf ⊢
   cases hr : Gram.Rf.indexed T f (.mk 1 0 [] (Gram.tk T (s.i + 1)).t 0 (Bv.wrp (Gram.tk T (s.i + 1)).t (wrap64 (-(Gram.tk T (s.i + 1)).n))) 0 [] ((Gram.tk T s.i).at_ : Int)) (Gram.Rf.adv (Gram.Rf.adv s)) with
   | none => rw [hr] at hf; cases hf
   | some r =>
    obtain ⟨z, s3⟩ := r
    cases z with
    | mk f1 s1' nm1 tk1 tl1 n1 m1 ks1 a1 =>
    have hi2 : s.i + 1 + 1 < T.length := HH.out.toks.last (s.i + 1) hi1 (.inl (by rw [hv.1]; decide))
    have hci : ∀ wx B, B ≤ wx.heap.size → b < B → Rp wx b g cap T (Gram.Rf.adv (Gram.Rf.adv s)) → Calls Tryz.prog 115 #[.pointer (some ⟨b, 0, none⟩), expV (.mk 1 0 [] (Gram.tk T (s.i + 1)).t 0 (Bv.wrp (Gram.tk T (s.i + 1)).t (wrap64 (-(Gram.tk T (s.i + 1)).n))) 0 [] ((Gram.tk T s.i).at_ : Int)) (.slice none 0 0)] wx fun e w' => rePostB wx B b g cap T (some (.mk f1 s1' nm1 tk1 tl1 n1 m1 ks1 a1, s3)) e w' := fun wx B hB hbB hx => by
     have := rindexed_any b g cap T f B _ (.slice none 0 0) _ wx hB hbB hx (Kids.nil _ _) (by rw [hr]; rfl)
     rw [hr] at this
     exact this
    clear hf hr
    simp only [rePostB, expV] at hci
    have hn2 := fun (wx : World) (hx : Rp wx b g cap T (Gram.Rf.adv s)) => rtok_any b g cap T (Gram.Rf.adv s) wx hx
    rw [show (Gram.Rf.adv s).i = s.i + 1 from rfl] at hn2
    have hadv0 : (Gram.Rf.adv s).e = 0 := he0
    generalize Gram.tk T (s.i + 1) = u at hn2 hci hv
    obtain ⟨uk, ut, un, uu, ua⟩ := u
    simp only [tokV] at hn2 hci hv
    have hk2 : (uk == 2) = true := by rw [beq_iff_eq]; exact hv.1
    have ht2 : decide (0 < uu) = true := by rw [decide_eq_true_iff]; exact hv.2
    clear hv
    have hn := rtok_any b g cap T s (w.alloc exp0) hP0
    have hfA := fldAt (Gram.tk T s.i)
    generalize Gram.tk T s.i = y at *
    go_enter Tryz.func114, Tryz.ntmps114
    go_wp2_with (go_at_call 45; refine hn.mono ?_; rintro e w1 ⟨rfl, hg1⟩; refine Hid.out ?_)
    have hP1 := hP0.kept hg1
    have hgw1 : (w.alloc exp0).grownBy w1 (some b) := grown_some hg1 b
    have hM1f := rmaybe_any b g cap T s ⟨#[110, 111, 116]⟩ w1 hP1
    unfold Gram.Rf.maybe at hM1f
    rw [show ((⟨#[110, 111, 116]⟩ : ByteArray)).data.toList = [110, 111, 116] from rfl] at hM1f
    rw [hqn, if_neg (by decide)] at hM1f
    refine ld ?_
    go_wp2_with (go_at_call 67; refine hM1f.mono ?_; rintro e w2 ⟨rfl, hP2, hgw2⟩; refine Hid.out ?_)
    have hgw2 := hgw1.trans hgw2
    have hM2f := rmaybe_any b g cap T s ⟨#[112, 114, 101]⟩ w2 hP2
    unfold Gram.Rf.maybe at hM2f
    rw [show ((⟨#[112, 114, 101]⟩ : ByteArray)).data.toList = [112, 114, 101] from rfl] at hM2f
    rw [hqp, if_neg (by decide)] at hM2f
    refine ld ?_
    go_wp2_with (go_at_call 67; refine hM2f.mono ?_; rintro e w3 ⟨rfl, hP3, hgw3⟩; refine Hid.out ?_)
    have hgw3 := hgw2.trans hgw3
    have hM3t := rmaybe_any b g cap T s ⟨#[45]⟩ w3 hP3
    unfold Gram.Rf.maybe at hM3t
    rw [show ((⟨#[45]⟩ : ByteArray)).data.toList = [45] from rfl] at hM3t
    rw [hqm, if_pos rfl] at hM3t
    refine ld ?_
    go_wp2_with (go_at_call 67; refine hM3t.mono ?_; rintro e w4 ⟨rfl, hP4, hgw4⟩; refine Hid.out ?_)
    have hgw4 := hgw3.trans hgw4
    have hn3 := hn2 w4 hP4
    clear hn2
    refine ld ?_
    go_wp2_with (go_at_call 45; refine hn3.mono ?_; rintro e w7 ⟨rfl, hg7⟩; refine Hid.out ?_)
    have hP7 := hP4.kept hg7
    have p1 := hP7.st.c1
    have p2 := hP7.st.c2
    have f1x := hP7.st.fr 1
    rw [hadv0] at p2
    have hb7 := hP7.bl
    have n7 : ¬ b = w7.heap.size := by omega
    have hR := radv_t hP7 hi2 (.cells #[.int .i64 uk, .string ⟨ut.toArray⟩, .int .i64 un, .int .i64 uu, .int .i64 0, .int .i64 (ua : Int)] 84)
    have hgW := (hgw4.trans (grown_some hg7 b)).trans hR.2
    have hPW := hR.1
    rw [show ((Gram.Rf.adv s).i : Int) = ((s.i + 1 : Nat) : Int) from rfl] at hgW hPW p1
    obtain ⟨iz, hiz⟩ : ∃ iz : Int, iz = ((s.i + 1 : Nat) : Int) := ⟨_, rfl⟩
    have hiz2 : 0 ≤ iz ∧ iz ≤ 20000 := by omega
    rw [← hiz] at hgW hPW p1
    have hsR : w7.heap.size = (w7.setCell ⟨b, 1, none⟩ (.int .i64 (iz + 1))).heap.size := by simp [World.setCell]
    have HsR := ld hsR
    clear hR hiz hsR
    refine ld ?_
    go_wp2
    obtain ⟨W, hW⟩ : ∃ W, W = (w7.setCell ⟨b, 1, none⟩ (.int .i64 (iz + 1))).alloc (.cells #[.int .i64 uk, .string ⟨ut.toArray⟩, .int .i64 un, .int .i64 uu, .int .i64 0, .int .i64 (ua : Int)] 84) := ⟨_, rfl⟩
    have hS : W.cell? ⟨w7.heap.size, 2, none⟩ = some (.int .i64 un) ∧ W.cell? ⟨w7.heap.size, 3, none⟩ = some (.int .i64 uu) ∧ W.cell? ⟨w7.heap.size, 4, none⟩ = some (.int .i64 0) ∧ W.grownBy W none := by
     rw [hW]
     have e := heap_alloc_new (w7.setCell ⟨b, 1, none⟩ (.int .i64 (iz + 1))) (.cells #[.int .i64 uk, .string ⟨ut.toArray⟩, .int .i64 un, .int .i64 uu, .int .i64 0, .int .i64 (ua : Int)] 84)
     rw [← HsR.out] at e
     exact ⟨cell_of_row _ _ 2 _ _ _ e, cell_of_row _ _ 3 _ _ _ e, cell_of_row _ _ 4 _ _ _ e, World.grownBy.refl _ _⟩
    rw [← hW] at hgW hPW ⊢
    clear hW
    obtain ⟨P, hPP⟩ : ∃ P, P = w7.heap.size := ⟨_, rfl⟩
    rw [← hPP] at hS ⊢
    have HS2 := ld hS
    clear hPP
    go_region_held3 (fun V => V.cell? ⟨P, 2, none⟩ = some (.int .i64 un) ∧ V.cell? ⟨P, 3, none⟩ = some (.int .i64 uu) ∧ V.cell? ⟨P, 4, none⟩ = some (.int .i64 0) ∧ W.grownBy V none) (first | exact hS | exact sgDrew hS | exact sgOn hS (ga _ _ none) | exact sgOn (sgDrew hS) (ga _ _ none))
     (first | (go_at_call 75; refine (rwrap_any _ _ _).mono ?_; rintro e w8 ⟨rfl, rfl⟩))
    all_goals
     (rw [show IntKind.i64.wrap (-un) = wrap64 (-un) from by rw [IntKind.wrap_i64]; first | rfl | (unfold wrap64; omega)]
      clear hS
      obtain ⟨W8, hW8⟩ : ∃ W8, W8 = (W.alloc (.cells #[.int .i64 1, .int .i64 0, .string ⟨#[]⟩, .int .i64 uu, .int .i64 0, .int .i64 (Bv.wrp uu (wrap64 (-un))), .int .i64 0, .slice none 0 0, .int .i64 (y.at_ : Int)] 37)).drew := ⟨_, rfl⟩
      have hg8 : W.grownBy W8 none := by rw [hW8]; exact gdrew (ga W _ none)
      have hh8 : W8.heap[W.heap.size]? = some (.cells #[.int .i64 1, .int .i64 0, .string ⟨#[]⟩, .int .i64 uu, .int .i64 0, .int .i64 (Bv.wrp uu (wrap64 (-un))), .int .i64 0, .slice none 0 0, .int .i64 (y.at_ : Int)] 37 (0, 0)) := by rw [hW8]; exact heap_alloc_new W _
      rw [← hW8]
      clear hW8
      obtain ⟨c0, c1, c2, c3, c4, c5, c6, c7, c8, cf⟩ := Nc.of hh8
      have hsW := hgW.size
      rw [World.size_alloc] at hsW
      have hs8 := hg8.size
      have hci2 := hci W8 (w.heap.size + 1) (by omega) (by omega) (hPW.kept hg8)
      have HgW := ld hgW
      have Hg8 := ld hg8
      clear hci
      go_wp2_with (go_at_call 115; refine hci2.mono ?_; rintro e w9 ⟨k2, rfl, hk2, hP9, hg9⟩; refine Hid.out ?_)
      obtain ⟨ka, kn, kc, rfl⟩ := hk2.form
      have hgX : (w.alloc exp0).grownBy w9 (some b) := (HgW.out.trans (grown_some Hg8.out b)).trans hg9
      refine ld ?_
      go_wp2_with (with_reducible refine hold_st 2 ?_)
      refine sg ((hgX.block w.heap.size (by simp) (by simp; omega)).trans (heap_alloc_new w exp0)) ?_
      intro w10 hh10 hg10
      go_wp2
      (try simp only [Exit.inBlock, Exit.then])
      refine br hh10 Tryz.underlying37 ?_
      have hG : w.grownBy w10 (some b) := ((grown_some (ga w exp0 none) b).trans hgX).andThen hg10 (fun j e => .inl (by cases e; exact Nat.le_refl _))
      exact ⟨_, rfl, RepC.mono (by omega) (RepC.kept hg10 (fun k e => by cases e; omega) hk2), HH.out.to hG (hP9.st.kept hg10 (by simp; omega)) hP9.lt, hG⟩)
  ·rw [if_neg hv] at hf ⊢
   cases hr : Gram.Rf.unary T f (Gram.Rf.adv s) with
   | none => rw [hr] at hf; cases hf
   | some r =>
    obtain ⟨x, s2⟩ := r
    simp only [Gram.Rf.bindS]
    cases x with
    | mk f1 s1' nm1 tk1 tl1 n1 m1 ks1 a1 =>
    clear hf
    have hn2 := fun (wx : World) (hx : Rp wx b g cap T (Gram.Rf.adv s)) => rtok_any b g cap T (Gram.Rf.adv s) wx hx
    have hvx : ∀ u : Lex.Tk, u = Gram.tk T (s.i + 1) → ¬ (u.kind = 2 ∧ 0 < u.t) := fun u e => by rw [e]; exact hv
    rw [show (Gram.Rf.adv s).i = s.i + 1 from rfl] at hn2
    have hadv0 : (Gram.Rf.adv s).e = 0 := he0
    clear hv
    have hn := rtok_any b g cap T s (w.alloc exp0) hP0
    have hfA := fldAt (Gram.tk T s.i)
    generalize Gram.tk T s.i = y at *
    go_enter Tryz.func114, Tryz.ntmps114
    go_wp2_with (go_at_call 45; refine hn.mono ?_; rintro e w1 ⟨rfl, hg1⟩; refine Hid.out ?_)
    have hP1 := hP0.kept hg1
    have hgw1 : (w.alloc exp0).grownBy w1 (some b) := grown_some hg1 b
    have hM1f := rmaybe_any b g cap T s ⟨#[110, 111, 116]⟩ w1 hP1
    unfold Gram.Rf.maybe at hM1f
    rw [show ((⟨#[110, 111, 116]⟩ : ByteArray)).data.toList = [110, 111, 116] from rfl] at hM1f
    rw [hqn, if_neg (by decide)] at hM1f
    refine ld ?_
    go_wp2_with (go_at_call 67; refine hM1f.mono ?_; rintro e w2 ⟨rfl, hP2, hgw2⟩; refine Hid.out ?_)
    have hgw2 := hgw1.trans hgw2
    have hM2f := rmaybe_any b g cap T s ⟨#[112, 114, 101]⟩ w2 hP2
    unfold Gram.Rf.maybe at hM2f
    rw [show ((⟨#[112, 114, 101]⟩ : ByteArray)).data.toList = [112, 114, 101] from rfl] at hM2f
    rw [hqp, if_neg (by decide)] at hM2f
    refine ld ?_
    go_wp2_with (go_at_call 67; refine hM2f.mono ?_; rintro e w3 ⟨rfl, hP3, hgw3⟩; refine Hid.out ?_)
    have hgw3 := hgw2.trans hgw3
    have hM3t := rmaybe_any b g cap T s ⟨#[45]⟩ w3 hP3
    unfold Gram.Rf.maybe at hM3t
    rw [show ((⟨#[45]⟩ : ByteArray)).data.toList = [45] from rfl] at hM3t
    rw [hqm, if_pos rfl] at hM3t
    refine ld ?_
    go_wp2_with (go_at_call 67; refine hM3t.mono ?_; rintro e w4 ⟨rfl, hP4, hgw4⟩; refine Hid.out ?_)
    have hgw4 := hgw3.trans hgw4
    have hn3 := hn2 w4 hP4
    have hnn := hvx _ rfl
    generalize Gram.tk T (s.i + 1) = u at hn3 hnn
    clear hn2 hvx
    simp only [tokV] at hn3
    refine ld ?_
    go_wp2_with (go_at_call 45; refine hn3.mono ?_; rintro e w7 ⟨rfl, hg7⟩; refine Hid.out ?_)
    have hP7 := hP4.kept hg7
    have p2 := hP7.st.c2
    rw [hadv0] at p2
    have hb7 := hP7.bl
    have n7 : ¬ b = w7.heap.size := by omega
    have hPu := hP7.alloc (.cells #[.int .i64 u.kind, .string ⟨u.text.toArray⟩, .int .i64 u.n, .int .i64 u.t, .int .i64 0, .int .i64 (u.at_ : Int)] 84)
    have hgu : (w.alloc exp0).grownBy (w7.alloc (.cells #[.int .i64 u.kind, .string ⟨u.text.toArray⟩, .int .i64 u.n, .int .i64 u.t, .int .i64 0, .int .i64 (u.at_ : Int)] 84)) (some b) := galloc (hgw4.trans (grown_some hg7 b)) _
    have hcond : ((u.kind == 2) = false) ∨ ((u.kind == 2) = true ∧ decide (0 < u.t) = false) := by
     by_cases h3 : u.kind = 2
     · exact .inr ⟨by rw [beq_iff_eq]; exact h3, by rw [decide_eq_false_iff_not]; exact fun h4 => hnn ⟨h3, h4⟩⟩
     · exact .inl (by rw [beq_eq_false_iff_ne]; exact h3)
    clear hnn
    obtain ⟨uk, ut, un, uu, ua⟩ := u
    simp only at *
    rcases hcond with hk2 | ⟨hk2, ht2⟩
    ·have hc := h1 _ _ hPu
     rw [hr] at hc
     have hc2 := hc rfl
     simp only [rePost, expV] at hc2
     have hsa := hgu.size
     rw [World.size_alloc] at hsa
     refine ld ?_
     go_wp2_with (go_at_call 112; refine hc2.mono ?_; rintro e w5 ⟨k1, rfl, hk1, hP5, hg5⟩; refine Hid.out ?_)
     obtain ⟨ka, kn, kc, rfl⟩ := hk1.form
     have hs5 := hg5.size
     refine ld ?_
     go_wp2_with (with_reducible refine hold_st 2 ?_)
     obtain ⟨W, hW⟩ : ∃ W, W = w5.alloc (.cells #[.int .i64 f1, .int .i64 s1', .string ⟨nm1.toArray⟩, .int .i64 tk1, .int .i64 tl1, .int .i64 n1, .int .i64 m1, .slice ka kn kc, .int .i64 a1] 37) := ⟨_, rfl⟩
     have hgW : w5.grownBy W none := by rw [hW]; exact ga w5 _ none
     have hoW : W.ownsRow (w.heap.size + 1) 37 9 (.slice (some ⟨w5.heap.size, 0, none⟩) 1 1) 1 (expCells (.mk f1 s1' nm1 tk1 tl1 n1 m1 ks1 a1) (.slice ka kn kc)) := by rw [hW]; exact owns_new (w := w5) 37 9 1 (expCells (.mk f1 s1' nm1 tk1 tl1 n1 m1 ks1 a1) (.slice ka kn kc)) (by omega) rfl (by unfold maxLen; omega)
     rw [← hW]
     clear hW
     have hgX : (w.alloc exp0).grownBy W (some b) := (hgu.trans hg5).trans (grown_some hgW b)
     have hKx : Kids W (w.heap.size + 1) [(.mk f1 s1' nm1 tk1 tl1 n1 m1 ks1 a1)] (.slice (some ⟨w5.heap.size, 0, none⟩) 1 1) := KidsX.one' hoW (fun k e => by cases e) (RepC.kept hgW (fun k e => by cases e) (RepC.mono (by omega) hk1))
     refine wpList_store_gen rfl _ _ _ rfl w.heap.size #[.int .i64 3, .int .i64 2, .string ⟨#[]⟩, .int .i64 0, .int .i64 0, .int .i64 0, .int .i64 0, .slice (some ⟨w5.heap.size, 0, none⟩) 1 1, .int .i64 (y.at_ : Int)] rfl rfl 37 _ ((hgX.block w.heap.size (by simp) (by simp; omega)).trans (heap_alloc_new w exp0)) (by kernel_rfl) rfl (by simp [Value.oneCell']) ?_
     intro w6 hh6 hg6
     go_wp2
     (try simp only [Exit.inBlock, Exit.then])
     refine br hh6 Tryz.underlying37 ?_
     have hG : w.grownBy w6 (some b) := ((grown_some (ga w exp0 none) b).trans hgX).andThen hg6 (fun j e => .inl (by cases e; exact Nat.le_refl _))
     exact ⟨_, rfl, RepC.mono (by omega) (RepC.kept hg6 (fun k e => by cases e; omega) hKx), HH.out.to hG ((hP5.kept hgW).st.kept hg6 (by simp; omega)) hP5.lt, hG⟩
    ·have hc := h1 _ _ hPu
     rw [hr] at hc
     have hc2 := hc rfl
     simp only [rePost, expV] at hc2
     have hsa := hgu.size
     rw [World.size_alloc] at hsa
     refine ld ?_
     go_wp2_with (go_at_call 112; refine hc2.mono ?_; rintro e w5 ⟨k1, rfl, hk1, hP5, hg5⟩; refine Hid.out ?_)
     obtain ⟨ka, kn, kc, rfl⟩ := hk1.form
     have hs5 := hg5.size
     refine ld ?_
     go_wp2_with (with_reducible refine hold_st 2 ?_)
     obtain ⟨W, hW⟩ : ∃ W, W = w5.alloc (.cells #[.int .i64 f1, .int .i64 s1', .string ⟨nm1.toArray⟩, .int .i64 tk1, .int .i64 tl1, .int .i64 n1, .int .i64 m1, .slice ka kn kc, .int .i64 a1] 37) := ⟨_, rfl⟩
     have hgW : w5.grownBy W none := by rw [hW]; exact ga w5 _ none
     have hoW : W.ownsRow (w.heap.size + 1) 37 9 (.slice (some ⟨w5.heap.size, 0, none⟩) 1 1) 1 (expCells (.mk f1 s1' nm1 tk1 tl1 n1 m1 ks1 a1) (.slice ka kn kc)) := by rw [hW]; exact owns_new (w := w5) 37 9 1 (expCells (.mk f1 s1' nm1 tk1 tl1 n1 m1 ks1 a1) (.slice ka kn kc)) (by omega) rfl (by unfold maxLen; omega)
     rw [← hW]
     clear hW
     have hgX : (w.alloc exp0).grownBy W (some b) := (hgu.trans hg5).trans (grown_some hgW b)
     have hKx : Kids W (w.heap.size + 1) [(.mk f1 s1' nm1 tk1 tl1 n1 m1 ks1 a1)] (.slice (some ⟨w5.heap.size, 0, none⟩) 1 1) := KidsX.one' hoW (fun k e => by cases e) (RepC.kept hgW (fun k e => by cases e) (RepC.mono (by omega) hk1))
     refine wpList_store_gen rfl _ _ _ rfl w.heap.size #[.int .i64 3, .int .i64 2, .string ⟨#[]⟩, .int .i64 0, .int .i64 0, .int .i64 0, .int .i64 0, .slice (some ⟨w5.heap.size, 0, none⟩) 1 1, .int .i64 (y.at_ : Int)] rfl rfl 37 _ ((hgX.block w.heap.size (by simp) (by simp; omega)).trans (heap_alloc_new w exp0)) (by kernel_rfl) rfl (by simp [Value.oneCell']) ?_
     intro w6 hh6 hg6
     go_wp2
     (try simp only [Exit.inBlock, Exit.then])
     refine br hh6 Tryz.underlying37 ?_
     have hG : w.grownBy w6 (some b) := ((grown_some (ga w exp0 none) b).trans hgX).andThen hg6 (fun j e => .inl (by cases e; exact Nat.le_refl _))
     exact ⟨_, rfl, RepC.mono (by omega) (RepC.kept hg6 (fun k e => by cases e; omega) hKx), HH.out.to hG ((hP5.kept hgW).st.kept hg6 (by simp; omega)) hP5.lt, hG⟩
 | false =>
  rw [hqm] at hf
  rw [if_neg (by decide)] at hf ⊢
  clear h
  cases hr0 : Gram.Rf.prim T f s with
  | none => rw [hr0] at hf; cases hf
  | some r0 =>
   obtain ⟨x, s2⟩ := r0
   rw [hr0] at hf
   simp only [Gram.Rf.bindS] at hf ⊢
   cases hr : Gram.Rf.indexed T f x s2 with
   | none => rw [hr] at hf; cases hf
   | some r =>
    obtain ⟨z, s3⟩ := r
    cases z with
    | mk f1 s1' nm1 tk1 tl1 n1 m1 ks1 a1 =>
    have hc0 : ∀ wx, Rp wx b g cap T s → Calls Tryz.prog 116 #[.pointer (some ⟨b, 0, none⟩)] wx fun e w' => rePost wx b g cap T (some (x, s2)) e w' := fun wx hx => by
     have := h2 s wx hx
     rw [hr0] at this
     exact this rfl
    have hci : ∀ wx B k, B ≤ wx.heap.size → b < B → Rp wx b g cap T s2 → Kids wx B x.kids k → Calls Tryz.prog 115 #[.pointer (some ⟨b, 0, none⟩), expV x k] wx fun e w' => rePostB wx B b g cap T (some (.mk f1 s1' nm1 tk1 tl1 n1 m1 ks1 a1, s3)) e w' := fun wx B k hB hbB hx hk => by
     have := rindexed_any b g cap T f B x k s2 wx hB hbB hx hk (by rw [hr]; rfl)
     rw [hr] at this
     exact this
    clear hf hr hr0
    cases x with
    | mk f0 s0' nm0 tk0 tl0 n0 m0 ks0 a0 =>
    simp only [rePost, rePostB, expV] at hc0 hci
    have hn := rtok_any b g cap T s (w.alloc exp0) hP0
    have hfA := fldAt (Gram.tk T s.i)
    generalize Gram.tk T s.i = y at *
    go_enter Tryz.func114, Tryz.ntmps114
    go_wp2_with (go_at_call 45; refine hn.mono ?_; rintro e w1 ⟨rfl, hg1⟩; refine Hid.out ?_)
    have hP1 := hP0.kept hg1
    have hgw1 : (w.alloc exp0).grownBy w1 (some b) := grown_some hg1 b
    have hM1f := rmaybe_any b g cap T s ⟨#[110, 111, 116]⟩ w1 hP1
    unfold Gram.Rf.maybe at hM1f
    rw [show ((⟨#[110, 111, 116]⟩ : ByteArray)).data.toList = [110, 111, 116] from rfl] at hM1f
    rw [hqn, if_neg (by decide)] at hM1f
    refine ld ?_
    go_wp2_with (go_at_call 67; refine hM1f.mono ?_; rintro e w2 ⟨rfl, hP2, hgw2⟩; refine Hid.out ?_)
    have hgw2 := hgw1.trans hgw2
    have hM2f := rmaybe_any b g cap T s ⟨#[112, 114, 101]⟩ w2 hP2
    unfold Gram.Rf.maybe at hM2f
    rw [show ((⟨#[112, 114, 101]⟩ : ByteArray)).data.toList = [112, 114, 101] from rfl] at hM2f
    rw [hqp, if_neg (by decide)] at hM2f
    refine ld ?_
    go_wp2_with (go_at_call 67; refine hM2f.mono ?_; rintro e w3 ⟨rfl, hP3, hgw3⟩; refine Hid.out ?_)
    have hgw3 := hgw2.trans hgw3
    have hM3f := rmaybe_any b g cap T s ⟨#[45]⟩ w3 hP3
    unfold Gram.Rf.maybe at hM3f
    rw [show ((⟨#[45]⟩ : ByteArray)).data.toList = [45] from rfl] at hM3f
    rw [hqm, if_neg (by decide)] at hM3f
    refine ld ?_
    go_wp2_with (go_at_call 67; refine hM3f.mono ?_; rintro e w4 ⟨rfl, hP4, hgw4⟩; refine Hid.out ?_)
    have hgw4 := hgw3.trans hgw4
    have hc := hc0 w4 hP4
    have hs4 := hgw4.size
    rw [World.size_alloc] at hs4
    refine ld ?_
    go_wp2_with (go_at_call 116; refine hc.mono ?_; rintro e w5 ⟨k1, rfl, hk1, hP5, hg5⟩; refine Hid.out ?_)
    have hs5 := hg5.size
    have hci2 := hci w5 (w.heap.size + 1) k1 (by omega) (by omega) hP5 (hk1.mono (by omega))
    refine ld ?_
    go_wp2_with (go_at_call 115; refine hci2.mono ?_; rintro e w6 ⟨k2, rfl, hk2, hP6, hg6⟩; refine Hid.out ?_)
    obtain ⟨ka, kn, kc, rfl⟩ := hk2.form
    have hgX : (w.alloc exp0).grownBy w6 (some b) := (hgw4.trans hg5).trans hg6
    refine ld ?_
    go_wp2_with (with_reducible refine hold_st 2 ?_)
    refine sg ((hgX.block w.heap.size (by simp) (by simp; omega)).trans (heap_alloc_new w exp0)) ?_
    intro w9 hh9 hg9
    go_wp2
    (try simp only [Exit.inBlock, Exit.then])
    refine br hh9 Tryz.underlying37 ?_
    have hG : w.grownBy w9 (some b) := ((grown_some (ga w exp0 none) b).trans hgX).andThen hg9 (fun j e => .inl (by cases e; exact Nat.le_refl _))
    exact ⟨_, rfl, RepC.mono (by omega) (RepC.kept hg9 (fun k e => by cases e; omega) hk2), HH.out.to hG (hP6.st.kept hg9 (by simp; omega)) hP6.lt, hG⟩
end
open Go.RowKit Go.Maps Go.WideMaps
def CWd (b g cap : Nat) (T : List Lex.Tk) (f : Nat) : Prop :=
 ∀ (s : Gram.Rf.St) (w : World), Rp w b g cap T s → s.e = 0 → (Gram.tk T s.i).kind = 3 → (Gram.Rf.wordE T f (Gram.tk T s.i) s).isSome = true → Calls Tryz.prog 119 #[.pointer (some ⟨b, 0, none⟩), tokV (Gram.tk T s.i)] w fun e w' => rePost w b g cap T (Gram.Rf.wordE T f (Gram.tk T s.i) s) e w'
theorem Rp.setX {w W : World} {b g cap : Nat} {T : List Lex.Tk} {s0 s : Gram.Rf.St} (h0 : Rp w b g cap T s0) (hg : w.grownBy W (some b)) (hP : Rp W b g cap T s) {xb : Nat} (hx : w.heap.size ≤ xb) (j : Nat) (v : Value) : Rp (W.setCell ⟨xb, j, none⟩ v) b g cap T s ∧ w.grownBy (W.setCell ⟨xb, j, none⟩ v) (some b) := by
 have hg' := gset hg (a := ⟨xb, j, none⟩) (.inl hx) v
 have hb := h0.bl
 exact ⟨h0.to hg' (hP.st.kept (gset (World.grownBy.refl W (some xb)) (a := ⟨xb, j, none⟩) (.inr rfl) v) (by simp; omega)) hP.lt, hg'⟩
theorem size_set (w : World) (a : Addr) (v : Value) : (w.setCell a v).heap.size = w.heap.size := by simp [World.setCell]
section
variable (b g cap : Nat) (T : List Lex.Tk)
theorem rprim_step (f : Nat) (hW : CWd b g cap T f) (hC : ∀ f', f' ≤ f → CRex b g cap T 88 (Gram.Rf.exp T f')) : CRex b g cap T 116 (Gram.Rf.prim T (f + 1)) := by
 intro s w h hf
 have hP0 := h.alloc exp0
 have hbw := h.bl
 have hm := h.toks.most
 have hlt := h.lt
 have HH := ld h
 have hn := rtok_any b g cap T s (w.alloc exp0) hP0
 have hnx := fun hk => h.next hk
 rw [Gram.Rf.prim] at hf ⊢
 have hWd := hW s
 obtain ⟨y, hy⟩ : ∃ y, y = Gram.tk T s.i := ⟨_, rfl⟩
 rw [← hy] at hf hn hnx hWd ⊢
 clear h hy
 obtain ⟨yk, yt, yn, yu, ya⟩ := y
 simp only [tokV] at hn hWd
 simp only at hf hnx hWd ⊢
 by_cases he : s.e = 0
 ·rw [if_pos he] at hf ⊢
  have b0 : (s.e != 0) = false := bne_t (by rw [beq_iff_eq]; exact he)
  by_cases k1 : yk = 1
  ·rw [if_pos k1] at hf ⊢
   have q1 : (yk == 1) = true := by rw [beq_iff_eq]; exact k1
   have hi := hnx (.inl (by rw [k1]; decide))
   clear k1
   cases hq : Gram.Rf.is T [40] (Gram.Rf.adv s) with
   | false =>
    rw [if_neg (by decide)]
    clear hf
    go_enter Tryz.func116, Tryz.ntmps116
    go_wp2_with (go_at_call 45; refine hn.mono ?_; rintro e w1 ⟨rfl, hg1⟩; refine Hid.out ?_)
    have hP1 := hP0.kept hg1
    have hgw1 : (w.alloc exp0).grownBy w1 (some b) := grown_some hg1 b
    have p1 := hP1.st.c1
    have p2 := hP1.st.c2
    have fr1 := hP1.st.fr 1
    have hb1 := hP1.bl
    have n1 : ¬ b = w1.heap.size := by omega
    have n2 : ¬ b = w1.heap.size + 1 := by omega
    have hs1 := hgw1.size
    rw [World.size_alloc] at hs1
    have hA := radv_w hP1 hi
    have hPx : Rp (((w1.setCell ⟨b, 1, none⟩ (.int .i64 ((s.i : Int) + 1))).alloc (tO yk yt yn yu ya)).alloc (.cells #[.int .i64 2, .int .i64 0, .string ⟨yt.toArray⟩, .int .i64 0, .int .i64 0, .int .i64 0, .int .i64 0, .slice none 0 0, .int .i64 (ya : Int)] 37)) b g cap T (Gram.Rf.adv s) := (hA.1.alloc _).alloc _
    have hgx0 : (w.alloc exp0).grownBy (((w1.setCell ⟨b, 1, none⟩ (.int .i64 ((s.i : Int) + 1))).alloc (tO yk yt yn yu ya)).alloc (.cells #[.int .i64 2, .int .i64 0, .string ⟨yt.toArray⟩, .int .i64 0, .int .i64 0, .int .i64 0, .int .i64 0, .slice none 0 0, .int .i64 (ya : Int)] 37)) (some b) := galloc (galloc (hgw1.trans hA.2) _) _
    have hx0 : (((w1.setCell ⟨b, 1, none⟩ (.int .i64 ((s.i : Int) + 1))).alloc (tO yk yt yn yu ya)).alloc (.cells #[.int .i64 2, .int .i64 0, .string ⟨yt.toArray⟩, .int .i64 0, .int .i64 0, .int .i64 0, .int .i64 0, .slice none 0 0, .int .i64 (ya : Int)] 37)).heap[w1.heap.size + 1]? = some (.cells #[.int .i64 2, .int .i64 0, .string ⟨yt.toArray⟩, .int .i64 0, .int .i64 0, .int .i64 0, .int .i64 0, .slice none 0 0, .int .i64 (ya : Int)] 37 (0, 0)) := by
     have := heap_alloc2_new (w1.setCell ⟨b, 1, none⟩ (.int .i64 ((s.i : Int) + 1))) (tO yk yt yn yu ya) (.cells #[.int .i64 2, .int .i64 0, .string ⟨yt.toArray⟩, .int .i64 0, .int .i64 0, .int .i64 0, .int .i64 0, .slice none 0 0, .int .i64 (ya : Int)] 37)
     rw [size_set] at this
     exact this
    have hsx : (((w1.setCell ⟨b, 1, none⟩ (.int .i64 ((s.i : Int) + 1))).alloc (tO yk yt yn yu ya)).alloc (.cells #[.int .i64 2, .int .i64 0, .string ⟨yt.toArray⟩, .int .i64 0, .int .i64 0, .int .i64 0, .int .i64 0, .slice none 0 0, .int .i64 (ya : Int)] 37)).heap.size = w1.heap.size + 1 + 1 := by simp [World.size_alloc, size_set]
    clear hA
    have hI := ris_any b g cap T _ ⟨#[40]⟩ _ hPx
    rw [show ((⟨#[40]⟩ : ByteArray)).data.toList = [40] from rfl, hq] at hI
    refine ld ?_
    go_wp2_with (go_at_call 46; refine hI.mono ?_; rintro e w5 ⟨rfl, hg5⟩; refine Hid.out ?_)
    obtain ⟨c0, c1, c2, c3, c4, c5, c6, c7, c8, cf⟩ := Nc.of ((hg5.block (w1.heap.size + 1) (by rw [hsx]; omega) (by simp)).trans hx0)
    have hgx := hgx0.trans (grown_some hg5 b)
    have hP5 := hPx.kept hg5
    refine ld ?_
    go_wp2_with (with_reducible refine hold_st 2 ?_)
    refine sg ((hgx : (w.alloc exp0).grownBy _ (some b)).block w.heap.size (by simp) (by simp; omega) |>.trans (heap_alloc_new w exp0)) ?_
    intro w9 hh9 hg9
    go_wp2
    (try simp only [Exit.inBlock, Exit.then])
    refine br hh9 Tryz.underlying37 ?_
    have hG : w.grownBy w9 (some b) := ((grown_some (ga w exp0 none) b).trans hgx).andThen hg9 (fun j e => .inl (by cases e; exact Nat.le_refl _))
    exact ⟨_, rfl, Kids.nil _ _, HH.out.to hG (hP5.st.kept hg9 (by simp; omega)) hP5.lt, hG⟩
   | true =>
    rw [hq] at hf
    rw [if_pos rfl] at hf ⊢
    cases hr : Gram.Rf.call T f (Gram.Rf.adv s) with
    | none => rw [hr] at hf; cases hf
    | some r =>
     obtain ⟨l, s2⟩ := r
     simp only [Gram.Rf.bindS]
     have hcl : ∀ wx, Rp wx b g cap T (Gram.Rf.adv s) → Calls Tryz.prog 117 #[.pointer (some ⟨b, 0, none⟩)] wx fun e w' => rxPost wx b g cap T (some (l, s2)) e w' := fun wx hx => by
      cases f with
      | zero => rw [Gram.Rf.call] at hr; cases hr
      | succ f0 =>
       have := rcall_step b g cap T f0 (fun f' hf' => hC f' (by omega)) (Gram.Rf.adv s) wx hx (by rw [hr]; rfl)
       rw [hr] at this
       exact this
     simp only [rxPost] at hcl
     clear hf hr
     go_enter Tryz.func116, Tryz.ntmps116
     go_wp2_with (go_at_call 45; refine hn.mono ?_; rintro e w1 ⟨rfl, hg1⟩; refine Hid.out ?_)
     have hP1 := hP0.kept hg1
     have hgw1 : (w.alloc exp0).grownBy w1 (some b) := grown_some hg1 b
     have p1 := hP1.st.c1
     have p2 := hP1.st.c2
     have fr1 := hP1.st.fr 1
     have hb1 := hP1.bl
     have n1 : ¬ b = w1.heap.size := by omega
     have n2 : ¬ b = w1.heap.size + 1 := by omega
     have hs1 := hgw1.size
     rw [World.size_alloc] at hs1
     have hA := radv_w hP1 hi
     have hPx : Rp (((w1.setCell ⟨b, 1, none⟩ (.int .i64 ((s.i : Int) + 1))).alloc (tO yk yt yn yu ya)).alloc (.cells #[.int .i64 2, .int .i64 0, .string ⟨yt.toArray⟩, .int .i64 0, .int .i64 0, .int .i64 0, .int .i64 0, .slice none 0 0, .int .i64 (ya : Int)] 37)) b g cap T (Gram.Rf.adv s) := (hA.1.alloc _).alloc _
     have hgx0 : (w.alloc exp0).grownBy (((w1.setCell ⟨b, 1, none⟩ (.int .i64 ((s.i : Int) + 1))).alloc (tO yk yt yn yu ya)).alloc (.cells #[.int .i64 2, .int .i64 0, .string ⟨yt.toArray⟩, .int .i64 0, .int .i64 0, .int .i64 0, .int .i64 0, .slice none 0 0, .int .i64 (ya : Int)] 37)) (some b) := galloc (galloc (hgw1.trans hA.2) _) _
     have hx0 : (((w1.setCell ⟨b, 1, none⟩ (.int .i64 ((s.i : Int) + 1))).alloc (tO yk yt yn yu ya)).alloc (.cells #[.int .i64 2, .int .i64 0, .string ⟨yt.toArray⟩, .int .i64 0, .int .i64 0, .int .i64 0, .int .i64 0, .slice none 0 0, .int .i64 (ya : Int)] 37)).heap[w1.heap.size + 1]? = some (.cells #[.int .i64 2, .int .i64 0, .string ⟨yt.toArray⟩, .int .i64 0, .int .i64 0, .int .i64 0, .int .i64 0, .slice none 0 0, .int .i64 (ya : Int)] 37 (0, 0)) := by
      have := heap_alloc2_new (w1.setCell ⟨b, 1, none⟩ (.int .i64 ((s.i : Int) + 1))) (tO yk yt yn yu ya) (.cells #[.int .i64 2, .int .i64 0, .string ⟨yt.toArray⟩, .int .i64 0, .int .i64 0, .int .i64 0, .int .i64 0, .slice none 0 0, .int .i64 (ya : Int)] 37)
      rw [size_set] at this
      exact this
     have hsx : (((w1.setCell ⟨b, 1, none⟩ (.int .i64 ((s.i : Int) + 1))).alloc (tO yk yt yn yu ya)).alloc (.cells #[.int .i64 2, .int .i64 0, .string ⟨yt.toArray⟩, .int .i64 0, .int .i64 0, .int .i64 0, .int .i64 0, .slice none 0 0, .int .i64 (ya : Int)] 37)).heap.size = w1.heap.size + 1 + 1 := by simp [World.size_alloc, size_set]
     clear hA
     have hI := ris_any b g cap T _ ⟨#[40]⟩ _ hPx
     rw [show ((⟨#[40]⟩ : ByteArray)).data.toList = [40] from rfl, hq] at hI
     refine ld ?_
     go_wp2_with (go_at_call 46; refine hI.mono ?_; rintro e w5 ⟨rfl, hg5⟩; refine Hid.out ?_)
     have hx5 := (hg5.block (w1.heap.size + 1) (by rw [hsx]; omega) (by simp)).trans hx0
     obtain ⟨c0, c1, c2, c3, c4, c5, c6, c7, c8, cf⟩ := Nc.of hx5
     have hgx5 := hgx0.trans (grown_some hg5 b)
     have hs5 := hg5.size
     rw [hsx] at hs5
     have h6 := Rp.setX hP0 hgx5 (hPx.kept hg5) (xb := w1.heap.size + 1) (by rw [World.size_alloc]; omega) 0 (.int .i64 13)
     have hx6 := heap_setCell_same _ (w1.heap.size + 1) 0 _ _ (.int .i64 13) hx5
     have hc6 := hcl _ h6.1
     have H6 := ld h6
     have HX6 := ld hx6
     clear h6 hx6 hcl
     refine ld ?_
     go_wp2_with (go_at_call 117; refine hc6.mono ?_; rintro e w7 ⟨v, rfl, hk7, hP7, hg7⟩; refine Hid.out ?_)
     rw [size_set] at hk7
     have hx7 := (hg7.block (w1.heap.size + 1) (by rw [size_set]; omega) (by simp; omega)).trans HX6.out
     have hx7 : w7.heap[w1.heap.size + 1]? = some (.cells #[.int .i64 13, .int .i64 0, .string ⟨yt.toArray⟩, .int .i64 0, .int .i64 0, .int .i64 0, .int .i64 0, .slice none 0 0, .int .i64 (ya : Int)] 37 (0, 0)) := by simpa using hx7
     have hgx7 := H6.out.2.trans hg7
     have hs7 := hg7.size
     rw [size_set] at hs7
     obtain ⟨ka, kn, kc, rfl⟩ := hk7.form
     obtain ⟨d0, d1, d2, d3, d4, d5, d6, d7, d8, df⟩ := Nc.of hx7
     have hs9 := Rp.setX hP0 hgx7 hP7 (xb := w1.heap.size + 1) (by rw [World.size_alloc]; omega) 7 (.slice ka kn kc)
     have hx9 := heap_setCell_same _ (w1.heap.size + 1) 7 _ _ (.slice ka kn kc) hx7
     have hkk := hk7.kept (gset (World.grownBy.refl w7 (some (w1.heap.size + 1))) (a := ⟨w1.heap.size + 1, 7, none⟩) (.inr rfl) (.slice ka kn kc)) (fun k e => by cases e; omega)
     obtain ⟨e0, e1, e2, e3, e4, e5, e6, e7, e8, ef⟩ := Nc.of (by simpa using hx9)
     have Hs9 := ld hs9
     have HKK := ld hkk
     clear hs9 hx9 hkk
     refine ld ?_
     go_wp2_with (with_reducible refine hold_st 2 ?_)
     refine sg ((Hs9.out.2 : (w.alloc exp0).grownBy _ (some b)).block w.heap.size (by simp) (by simp; omega) |>.trans (heap_alloc_new w exp0)) ?_
     intro w9 hh9 hg9
     go_wp2
     (try simp only [Exit.inBlock, Exit.then])
     refine br hh9 Tryz.underlying37 ?_
     have hG : w.grownBy w9 (some b) := ((grown_some (ga w exp0 none) b).trans Hs9.out.2).andThen hg9 (fun j e => .inl (by cases e; exact Nat.le_refl _))
     exact ⟨_, rfl, RepC.mono (by omega) (RepC.kept hg9 (fun k e => by cases e; omega) HKK.out.kids), HH.out.to hG (Hs9.out.1.st.kept hg9 (by simp; omega)) Hs9.out.1.lt, hG⟩
  ·rw [if_neg k1] at hf ⊢
   have q1 : (yk == 1) = false := by rw [beq_eq_false_iff_ne]; exact k1
   by_cases k2 : yk = 2
   ·rw [if_pos k2] at hf ⊢
    have q2 : (yk == 2) = true := by rw [beq_iff_eq]; exact k2
    have hi := hnx (.inl (by rw [k2]; decide))
    have hSg := fun W => rsigned_any yu W
    clear k1 k2
    by_cases hsgn : 2 ≤ yu ∧ yu ≤ 5
    ·have hd : decide (2 ≤ yu ∧ yu ≤ 5) = true := by rw [decide_eq_true_iff]; exact hsgn
     rw [hd] at hSg
     have z0 : (yu == 0) = false := by rw [beq_eq_false_iff_ne]; omega
     by_cases hneg : yn < 0
     ·rw [if_pos (.inr ⟨hsgn.1, hsgn.2, hneg⟩)]
      have z1 : decide (yn < 0) = true := by rw [decide_eq_true_iff]; exact hneg
      clear hf hsgn hneg hd
      go_enter Tryz.func116, Tryz.ntmps116
      go_wp2_with (go_at_call 45; refine hn.mono ?_; rintro e w1 ⟨rfl, hg1⟩; refine Hid.out ?_)
      have hP1 := hP0.kept hg1
      have hgw1 : (w.alloc exp0).grownBy w1 (some b) := grown_some hg1 b
      have p1 := hP1.st.c1
      have p2 := hP1.st.c2
      have fr1 := hP1.st.fr 1
      have hb1 := hP1.bl
      have n1 : ¬ b = w1.heap.size := by omega
      have n2 : ¬ b = w1.heap.size + 1 := by omega
      have hs1 := hgw1.size
      rw [World.size_alloc] at hs1
      have hPx := (hP1.alloc (tO yk yt yn yu ya)).alloc (.cells #[.int .i64 0, .int .i64 0, .string ⟨#[]⟩, .int .i64 0, .int .i64 0, .int .i64 0, .int .i64 0, .slice none 0 0, .int .i64 (ya : Int)] 37)
      have hF := rfail_any b g cap T s 12 _ hPx
      have hgx0 : (w.alloc exp0).grownBy ((w1.alloc (tO yk yt yn yu ya)).alloc (.cells #[.int .i64 0, .int .i64 0, .string ⟨#[]⟩, .int .i64 0, .int .i64 0, .int .i64 0, .int .i64 0, .slice none 0 0, .int .i64 (ya : Int)] 37)) (some b) := galloc (galloc hgw1 _) _
      have hx0 : ((w1.alloc (tO yk yt yn yu ya)).alloc (.cells #[.int .i64 0, .int .i64 0, .string ⟨#[]⟩, .int .i64 0, .int .i64 0, .int .i64 0, .int .i64 0, .slice none 0 0, .int .i64 (ya : Int)] 37)).heap[w1.heap.size + 1]? = some (.cells #[.int .i64 0, .int .i64 0, .string ⟨#[]⟩, .int .i64 0, .int .i64 0, .int .i64 0, .int .i64 0, .slice none 0 0, .int .i64 (ya : Int)] 37 (0, 0)) := heap_alloc2_new w1 _ _
      refine ld ?_
      go_wp2_with (first | (go_at_call 74; refine (hSg _).mono ?_; rintro e w' ⟨rfl, rfl⟩) | (go_at_call 47; refine hF.mono ?_; rintro e w5 ⟨rfl, hP5, hg5⟩; refine Hid.out ?_))
      obtain ⟨c0, c1, c2, c3, c4, c5, c6, c7, c8, cf⟩ := Nc.of ((hg5.block (w1.heap.size + 1) (by simp) (by simp; omega)).trans hx0)
      have hgx := hgx0.trans hg5
      refine ld ?_
      go_wp2_with (with_reducible refine hold_st 2 ?_)
      refine sg ((hgx : (w.alloc exp0).grownBy _ (some b)).block w.heap.size (by simp) (by simp; omega) |>.trans (heap_alloc_new w exp0)) ?_
      intro w9 hh9 hg9
      go_wp2
      (try simp only [Exit.inBlock, Exit.then])
      refine br hh9 Tryz.underlying37 ?_
      have hG : w.grownBy w9 (some b) := ((grown_some (ga w exp0 none) b).trans hgx).andThen hg9 (fun j e => .inl (by cases e; exact Nat.le_refl _))
      exact ⟨_, rfl, Kids.nil _ _, HH.out.to hG (hP5.st.kept hg9 (by simp; omega)) hP5.lt, hG⟩
     ·rw [if_neg (by omega)]
      have z1 : decide (yn < 0) = false := by rw [decide_eq_false_iff_not]; exact hneg
      clear hf hsgn hneg hd
      go_enter Tryz.func116, Tryz.ntmps116
      go_wp2_with (go_at_call 45; refine hn.mono ?_; rintro e w1 ⟨rfl, hg1⟩; refine Hid.out ?_)
      have hP1 := hP0.kept hg1
      have hgw1 : (w.alloc exp0).grownBy w1 (some b) := grown_some hg1 b
      have p1 := hP1.st.c1
      have p2 := hP1.st.c2
      have fr1 := hP1.st.fr 1
      have hb1 := hP1.bl
      have n1 : ¬ b = w1.heap.size := by omega
      have n2 : ¬ b = w1.heap.size + 1 := by omega
      have hs1 := hgw1.size
      rw [World.size_alloc] at hs1
      have hA := radv_w hP1 hi
      have hPx : Rp (((w1.setCell ⟨b, 1, none⟩ (.int .i64 ((s.i : Int) + 1))).alloc (tO yk yt yn yu ya)).alloc (.cells #[.int .i64 1, .int .i64 0, .string ⟨#[]⟩, .int .i64 yu, .int .i64 0, .int .i64 yn, .int .i64 0, .slice none 0 0, .int .i64 (ya : Int)] 37)) b g cap T (Gram.Rf.adv s) := (hA.1.alloc _).alloc _
      have hgx0 : (w.alloc exp0).grownBy (((w1.setCell ⟨b, 1, none⟩ (.int .i64 ((s.i : Int) + 1))).alloc (tO yk yt yn yu ya)).alloc (.cells #[.int .i64 1, .int .i64 0, .string ⟨#[]⟩, .int .i64 yu, .int .i64 0, .int .i64 yn, .int .i64 0, .slice none 0 0, .int .i64 (ya : Int)] 37)) (some b) := galloc (galloc (hgw1.trans hA.2) _) _
      have hx0 : (((w1.setCell ⟨b, 1, none⟩ (.int .i64 ((s.i : Int) + 1))).alloc (tO yk yt yn yu ya)).alloc (.cells #[.int .i64 1, .int .i64 0, .string ⟨#[]⟩, .int .i64 yu, .int .i64 0, .int .i64 yn, .int .i64 0, .slice none 0 0, .int .i64 (ya : Int)] 37)).heap[w1.heap.size + 1]? = some (.cells #[.int .i64 1, .int .i64 0, .string ⟨#[]⟩, .int .i64 yu, .int .i64 0, .int .i64 yn, .int .i64 0, .slice none 0 0, .int .i64 (ya : Int)] 37 (0, 0)) := by
       have := heap_alloc2_new (w1.setCell ⟨b, 1, none⟩ (.int .i64 ((s.i : Int) + 1))) (tO yk yt yn yu ya) (.cells #[.int .i64 1, .int .i64 0, .string ⟨#[]⟩, .int .i64 yu, .int .i64 0, .int .i64 yn, .int .i64 0, .slice none 0 0, .int .i64 (ya : Int)] 37)
       rw [size_set] at this
       exact this
      have hsx : (((w1.setCell ⟨b, 1, none⟩ (.int .i64 ((s.i : Int) + 1))).alloc (tO yk yt yn yu ya)).alloc (.cells #[.int .i64 1, .int .i64 0, .string ⟨#[]⟩, .int .i64 yu, .int .i64 0, .int .i64 yn, .int .i64 0, .slice none 0 0, .int .i64 (ya : Int)] 37)).heap.size = w1.heap.size + 1 + 1 := by simp [World.size_alloc, size_set]
      clear hA
      refine ld ?_
      go_wp2_with (first | (go_at_call 74; refine (hSg _).mono ?_; rintro e w' ⟨rfl, rfl⟩) | (with_reducible refine hold_st 2 ?_))
      refine sg ((hgx0 : (w.alloc exp0).grownBy _ (some b)).block w.heap.size (by simp) (by simp; omega) |>.trans (heap_alloc_new w exp0)) ?_
      intro w9 hh9 hg9
      go_wp2
      (try simp only [Exit.inBlock, Exit.then])
      refine br hh9 Tryz.underlying37 ?_
      have hG : w.grownBy w9 (some b) := ((grown_some (ga w exp0 none) b).trans hgx0).andThen hg9 (fun j e => .inl (by cases e; exact Nat.le_refl _))
      exact ⟨_, rfl, Kids.nil _ _, HH.out.to hG (hPx.st.kept hg9 (by simp; omega)) hPx.lt, hG⟩
    ·have hd : decide (2 ≤ yu ∧ yu ≤ 5) = false := by rw [decide_eq_false_iff_not]; exact hsgn
     rw [hd] at hSg
     by_cases hz : yu = 0
     ·rw [if_pos (.inl hz)]
      have z0 : (yu == 0) = true := by rw [beq_iff_eq]; exact hz
      clear hf hsgn hz hd
      go_enter Tryz.func116, Tryz.ntmps116
      go_wp2_with (go_at_call 45; refine hn.mono ?_; rintro e w1 ⟨rfl, hg1⟩; refine Hid.out ?_)
      have hP1 := hP0.kept hg1
      have hgw1 : (w.alloc exp0).grownBy w1 (some b) := grown_some hg1 b
      have p1 := hP1.st.c1
      have p2 := hP1.st.c2
      have fr1 := hP1.st.fr 1
      have hb1 := hP1.bl
      have n1 : ¬ b = w1.heap.size := by omega
      have n2 : ¬ b = w1.heap.size + 1 := by omega
      have hs1 := hgw1.size
      rw [World.size_alloc] at hs1
      have hPx := (hP1.alloc (tO yk yt yn yu ya)).alloc (.cells #[.int .i64 0, .int .i64 0, .string ⟨#[]⟩, .int .i64 0, .int .i64 0, .int .i64 0, .int .i64 0, .slice none 0 0, .int .i64 (ya : Int)] 37)
      have hF := rfail_any b g cap T s 12 _ hPx
      have hgx0 : (w.alloc exp0).grownBy ((w1.alloc (tO yk yt yn yu ya)).alloc (.cells #[.int .i64 0, .int .i64 0, .string ⟨#[]⟩, .int .i64 0, .int .i64 0, .int .i64 0, .int .i64 0, .slice none 0 0, .int .i64 (ya : Int)] 37)) (some b) := galloc (galloc hgw1 _) _
      have hx0 : ((w1.alloc (tO yk yt yn yu ya)).alloc (.cells #[.int .i64 0, .int .i64 0, .string ⟨#[]⟩, .int .i64 0, .int .i64 0, .int .i64 0, .int .i64 0, .slice none 0 0, .int .i64 (ya : Int)] 37)).heap[w1.heap.size + 1]? = some (.cells #[.int .i64 0, .int .i64 0, .string ⟨#[]⟩, .int .i64 0, .int .i64 0, .int .i64 0, .int .i64 0, .slice none 0 0, .int .i64 (ya : Int)] 37 (0, 0)) := heap_alloc2_new w1 _ _
      refine ld ?_
      go_wp2_with (first | (go_at_call 74; refine (hSg _).mono ?_; rintro e w' ⟨rfl, rfl⟩) | (go_at_call 47; refine hF.mono ?_; rintro e w5 ⟨rfl, hP5, hg5⟩; refine Hid.out ?_))
      obtain ⟨c0, c1, c2, c3, c4, c5, c6, c7, c8, cf⟩ := Nc.of ((hg5.block (w1.heap.size + 1) (by simp) (by simp; omega)).trans hx0)
      have hgx := hgx0.trans hg5
      refine ld ?_
      go_wp2_with (with_reducible refine hold_st 2 ?_)
      refine sg ((hgx : (w.alloc exp0).grownBy _ (some b)).block w.heap.size (by simp) (by simp; omega) |>.trans (heap_alloc_new w exp0)) ?_
      intro w9 hh9 hg9
      go_wp2
      (try simp only [Exit.inBlock, Exit.then])
      refine br hh9 Tryz.underlying37 ?_
      have hG : w.grownBy w9 (some b) := ((grown_some (ga w exp0 none) b).trans hgx).andThen hg9 (fun j e => .inl (by cases e; exact Nat.le_refl _))
      exact ⟨_, rfl, Kids.nil _ _, HH.out.to hG (hP5.st.kept hg9 (by simp; omega)) hP5.lt, hG⟩
     ·rw [if_neg (by rintro (e | e); exact hz e; exact hsgn ⟨e.1, e.2.1⟩)]
      have z0 : (yu == 0) = false := by rw [beq_eq_false_iff_ne]; exact hz
      clear hf hsgn hz hd
      go_enter Tryz.func116, Tryz.ntmps116
      go_wp2_with (go_at_call 45; refine hn.mono ?_; rintro e w1 ⟨rfl, hg1⟩; refine Hid.out ?_)
      have hP1 := hP0.kept hg1
      have hgw1 : (w.alloc exp0).grownBy w1 (some b) := grown_some hg1 b
      have p1 := hP1.st.c1
      have p2 := hP1.st.c2
      have fr1 := hP1.st.fr 1
      have hb1 := hP1.bl
      have n1 : ¬ b = w1.heap.size := by omega
      have n2 : ¬ b = w1.heap.size + 1 := by omega
      have hs1 := hgw1.size
      rw [World.size_alloc] at hs1
      have hA := radv_w hP1 hi
      have hPx : Rp (((w1.setCell ⟨b, 1, none⟩ (.int .i64 ((s.i : Int) + 1))).alloc (tO yk yt yn yu ya)).alloc (.cells #[.int .i64 1, .int .i64 0, .string ⟨#[]⟩, .int .i64 yu, .int .i64 0, .int .i64 yn, .int .i64 0, .slice none 0 0, .int .i64 (ya : Int)] 37)) b g cap T (Gram.Rf.adv s) := (hA.1.alloc _).alloc _
      have hgx0 : (w.alloc exp0).grownBy (((w1.setCell ⟨b, 1, none⟩ (.int .i64 ((s.i : Int) + 1))).alloc (tO yk yt yn yu ya)).alloc (.cells #[.int .i64 1, .int .i64 0, .string ⟨#[]⟩, .int .i64 yu, .int .i64 0, .int .i64 yn, .int .i64 0, .slice none 0 0, .int .i64 (ya : Int)] 37)) (some b) := galloc (galloc (hgw1.trans hA.2) _) _
      have hx0 : (((w1.setCell ⟨b, 1, none⟩ (.int .i64 ((s.i : Int) + 1))).alloc (tO yk yt yn yu ya)).alloc (.cells #[.int .i64 1, .int .i64 0, .string ⟨#[]⟩, .int .i64 yu, .int .i64 0, .int .i64 yn, .int .i64 0, .slice none 0 0, .int .i64 (ya : Int)] 37)).heap[w1.heap.size + 1]? = some (.cells #[.int .i64 1, .int .i64 0, .string ⟨#[]⟩, .int .i64 yu, .int .i64 0, .int .i64 yn, .int .i64 0, .slice none 0 0, .int .i64 (ya : Int)] 37 (0, 0)) := by
       have := heap_alloc2_new (w1.setCell ⟨b, 1, none⟩ (.int .i64 ((s.i : Int) + 1))) (tO yk yt yn yu ya) (.cells #[.int .i64 1, .int .i64 0, .string ⟨#[]⟩, .int .i64 yu, .int .i64 0, .int .i64 yn, .int .i64 0, .slice none 0 0, .int .i64 (ya : Int)] 37)
       rw [size_set] at this
       exact this
      have hsx : (((w1.setCell ⟨b, 1, none⟩ (.int .i64 ((s.i : Int) + 1))).alloc (tO yk yt yn yu ya)).alloc (.cells #[.int .i64 1, .int .i64 0, .string ⟨#[]⟩, .int .i64 yu, .int .i64 0, .int .i64 yn, .int .i64 0, .slice none 0 0, .int .i64 (ya : Int)] 37)).heap.size = w1.heap.size + 1 + 1 := by simp [World.size_alloc, size_set]
      clear hA
      refine ld ?_
      go_wp2_with (first | (go_at_call 74; refine (hSg _).mono ?_; rintro e w' ⟨rfl, rfl⟩) | (with_reducible refine hold_st 2 ?_))
      refine sg ((hgx0 : (w.alloc exp0).grownBy _ (some b)).block w.heap.size (by simp) (by simp; omega) |>.trans (heap_alloc_new w exp0)) ?_
      intro w9 hh9 hg9
      go_wp2
      (try simp only [Exit.inBlock, Exit.then])
      refine br hh9 Tryz.underlying37 ?_
      have hG : w.grownBy w9 (some b) := ((grown_some (ga w exp0 none) b).trans hgx0).andThen hg9 (fun j e => .inl (by cases e; exact Nat.le_refl _))
      exact ⟨_, rfl, Kids.nil _ _, HH.out.to hG (hPx.st.kept hg9 (by simp; omega)) hPx.lt, hG⟩
   ·rw [if_neg k2] at hf ⊢
    have q2 : (yk == 2) = false := by rw [beq_eq_false_iff_ne]; exact k2
    by_cases k4 : yk = 4
    ·rw [if_pos k4] at hf ⊢
     have q4 : (yk == 4) = true := by rw [beq_iff_eq]; exact k4
     have hi := hnx (.inl (by rw [k4]; decide))
     clear k1 k2 k4
     by_cases t40 : yt = [40]
     ·rw [if_pos t40] at hf ⊢
      cases hr : Gram.Rf.exp T f (Gram.Rf.adv s) with
      | none => rw [hr] at hf; cases hf
      | some r =>
       obtain ⟨x, s2⟩ := r
       simp only [Gram.Rf.bindS]
       cases x with
       | mk f1 s1' nm1 tk1 tl1 n1' m1 ks1 a1 =>
       have hce : ∀ wx, Rp wx b g cap T (Gram.Rf.adv s) → Calls Tryz.prog 88 #[.pointer (some ⟨b, 0, none⟩)] wx fun e w' => rePost wx b g cap T (some (.mk f1 s1' nm1 tk1 tl1 n1' m1 ks1 a1, s2)) e w' := fun wx hx => by
        have := hC f (Nat.le_refl _) (Gram.Rf.adv s) wx hx
        rw [hr] at this
        exact this rfl
       simp only [rePost, expV] at hce
       have e40 : (yt == [40]) = true := by rw [beq_iff_eq]; exact t40
       clear hf hr t40
       go_enter Tryz.func116, Tryz.ntmps116
       go_wp2_with (go_at_call 45; refine hn.mono ?_; rintro e w1 ⟨rfl, hg1⟩; refine Hid.out ?_)
       have hP1 := hP0.kept hg1
       have hgw1 : (w.alloc exp0).grownBy w1 (some b) := grown_some hg1 b
       have p1 := hP1.st.c1
       have p2 := hP1.st.c2
       have fr1 := hP1.st.fr 1
       have hb1 := hP1.bl
       have n1 : ¬ b = w1.heap.size := by omega
       have n2 : ¬ b = w1.heap.size + 1 := by omega
       have hs1 := hgw1.size
       rw [World.size_alloc] at hs1
       have hA := radv_w hP1 hi
       have hPx : Rp (((w1.setCell ⟨b, 1, none⟩ (.int .i64 ((s.i : Int) + 1))).alloc (tO yk yt yn yu ya)).alloc (.cells #[.int .i64 0, .int .i64 0, .string ⟨#[]⟩, .int .i64 0, .int .i64 0, .int .i64 0, .int .i64 0, .slice none 0 0, .int .i64 (ya : Int)] 37)) b g cap T (Gram.Rf.adv s) := (hA.1.alloc _).alloc _
       have hgx0 : (w.alloc exp0).grownBy (((w1.setCell ⟨b, 1, none⟩ (.int .i64 ((s.i : Int) + 1))).alloc (tO yk yt yn yu ya)).alloc (.cells #[.int .i64 0, .int .i64 0, .string ⟨#[]⟩, .int .i64 0, .int .i64 0, .int .i64 0, .int .i64 0, .slice none 0 0, .int .i64 (ya : Int)] 37)) (some b) := galloc (galloc (hgw1.trans hA.2) _) _
       have hx0 : (((w1.setCell ⟨b, 1, none⟩ (.int .i64 ((s.i : Int) + 1))).alloc (tO yk yt yn yu ya)).alloc (.cells #[.int .i64 0, .int .i64 0, .string ⟨#[]⟩, .int .i64 0, .int .i64 0, .int .i64 0, .int .i64 0, .slice none 0 0, .int .i64 (ya : Int)] 37)).heap[w1.heap.size + 1]? = some (.cells #[.int .i64 0, .int .i64 0, .string ⟨#[]⟩, .int .i64 0, .int .i64 0, .int .i64 0, .int .i64 0, .slice none 0 0, .int .i64 (ya : Int)] 37 (0, 0)) := by
        have := heap_alloc2_new (w1.setCell ⟨b, 1, none⟩ (.int .i64 ((s.i : Int) + 1))) (tO yk yt yn yu ya) (.cells #[.int .i64 0, .int .i64 0, .string ⟨#[]⟩, .int .i64 0, .int .i64 0, .int .i64 0, .int .i64 0, .slice none 0 0, .int .i64 (ya : Int)] 37)
        rw [size_set] at this
        exact this
       have hsx : (((w1.setCell ⟨b, 1, none⟩ (.int .i64 ((s.i : Int) + 1))).alloc (tO yk yt yn yu ya)).alloc (.cells #[.int .i64 0, .int .i64 0, .string ⟨#[]⟩, .int .i64 0, .int .i64 0, .int .i64 0, .int .i64 0, .slice none 0 0, .int .i64 (ya : Int)] 37)).heap.size = w1.heap.size + 1 + 1 := by simp [World.size_alloc, size_set]
       clear hA
       have hc5 := hce _ hPx
       clear hce
       refine ld ?_
       go_wp2_with (go_at_call 88; refine hc5.mono ?_; rintro e w5 ⟨k5, rfl, hk5, hP5, hg5⟩; refine Hid.out ?_)
       obtain ⟨ka, kn, kc, rfl⟩ := hk5.form
       have hs5 := hg5.size
       rw [hsx] at hs5 hk5
       have hPy := hP5.alloc (.cells #[.int .i64 f1, .int .i64 s1', .string ⟨nm1.toArray⟩, .int .i64 tk1, .int .i64 tl1, .int .i64 n1', .int .i64 m1, .slice ka kn kc, .int .i64 a1] 37)
       have hTk := rtake_any b g cap T s2 ⟨#[41]⟩ _ hPy
       rw [show ((⟨#[41]⟩ : ByteArray)).data.toList = [41] from rfl] at hTk
       refine ld ?_
       go_wp2_with (go_at_call 64; refine hTk.mono ?_; rintro e w8 ⟨rfl, hP8, hg8⟩; refine Hid.out ?_)
       obtain ⟨c0, c1, c2, c3, c4, c5, c6, c7, c8, cf⟩ := Nc.of ((hg8.block w5.heap.size (by simp) (by simp; omega)).trans (heap_alloc_new w5 _))
       have hgx := (galloc (hgx0.trans hg5) _).trans hg8
       refine ld ?_
       go_wp2_with (with_reducible refine hold_st 2 ?_)
       refine sg ((hgx : (w.alloc exp0).grownBy _ (some b)).block w.heap.size (by simp) (by simp; omega) |>.trans (heap_alloc_new w exp0)) ?_
       intro w9 hh9 hg9
       go_wp2
       (try simp only [Exit.inBlock, Exit.then])
       refine br hh9 Tryz.underlying37 ?_
       have hG : w.grownBy w9 (some b) := ((grown_some (ga w exp0 none) b).trans hgx).andThen hg9 (fun j e => .inl (by cases e; exact Nat.le_refl _))
       exact ⟨_, rfl, RepC.mono (by omega) (RepC.kept hg9 (fun k e => by cases e; omega) (RepC.kept hg8 (fun k e => by cases e; omega) (RepC.kept (ga w5 _ none) (fun k e => by cases e) hk5))), HH.out.to hG (hP8.st.kept hg9 (by simp; omega)) hP8.lt, hG⟩
     ·rw [if_neg t40] at hf ⊢
      by_cases t91 : yt = [91]
      ·rw [if_pos t91] at hf ⊢
       cases hr : Gram.Rf.exps T f [] (Gram.Rf.adv s) with
       | none => rw [hr] at hf; cases hf
       | some r =>
        obtain ⟨l, s2⟩ := r
        simp only [Gram.Rf.bindS]
        have hce : ∀ wx, Rp wx b g cap T (Gram.Rf.adv s) → Calls Tryz.prog 118 #[.pointer (some ⟨b, 0, none⟩), .int .i64 0] wx fun e w' => rxPost wx b g cap T (some (l, s2)) e w' := fun wx hx => by
         have := rexps_any b g cap T f (fun f' hf' => hC f' (by omega)) (Gram.Rf.adv s) wx hx (by rw [hr]; rfl)
         rw [hr] at this
         exact this
        simp only [rxPost] at hce
        have e40 : (yt == [40]) = false := by rw [beq_eq_false_iff_ne]; exact t40
        have e91 : (yt == [91]) = true := by rw [beq_iff_eq]; exact t91
        clear hf hr t40 t91
        go_enter Tryz.func116, Tryz.ntmps116
        go_wp2_with (go_at_call 45; refine hn.mono ?_; rintro e w1 ⟨rfl, hg1⟩; refine Hid.out ?_)
        have hP1 := hP0.kept hg1
        have hgw1 : (w.alloc exp0).grownBy w1 (some b) := grown_some hg1 b
        have p1 := hP1.st.c1
        have p2 := hP1.st.c2
        have fr1 := hP1.st.fr 1
        have hb1 := hP1.bl
        have n1 : ¬ b = w1.heap.size := by omega
        have n2 : ¬ b = w1.heap.size + 1 := by omega
        have hs1 := hgw1.size
        rw [World.size_alloc] at hs1
        have hA := radv_w hP1 hi
        have hPx : Rp (((w1.setCell ⟨b, 1, none⟩ (.int .i64 ((s.i : Int) + 1))).alloc (tO yk yt yn yu ya)).alloc (.cells #[.int .i64 15, .int .i64 0, .string ⟨#[]⟩, .int .i64 0, .int .i64 0, .int .i64 0, .int .i64 0, .slice none 0 0, .int .i64 (ya : Int)] 37)) b g cap T (Gram.Rf.adv s) := (hA.1.alloc _).alloc _
        have hgx0 : (w.alloc exp0).grownBy (((w1.setCell ⟨b, 1, none⟩ (.int .i64 ((s.i : Int) + 1))).alloc (tO yk yt yn yu ya)).alloc (.cells #[.int .i64 15, .int .i64 0, .string ⟨#[]⟩, .int .i64 0, .int .i64 0, .int .i64 0, .int .i64 0, .slice none 0 0, .int .i64 (ya : Int)] 37)) (some b) := galloc (galloc (hgw1.trans hA.2) _) _
        have hx0 : (((w1.setCell ⟨b, 1, none⟩ (.int .i64 ((s.i : Int) + 1))).alloc (tO yk yt yn yu ya)).alloc (.cells #[.int .i64 15, .int .i64 0, .string ⟨#[]⟩, .int .i64 0, .int .i64 0, .int .i64 0, .int .i64 0, .slice none 0 0, .int .i64 (ya : Int)] 37)).heap[w1.heap.size + 1]? = some (.cells #[.int .i64 15, .int .i64 0, .string ⟨#[]⟩, .int .i64 0, .int .i64 0, .int .i64 0, .int .i64 0, .slice none 0 0, .int .i64 (ya : Int)] 37 (0, 0)) := by
         have := heap_alloc2_new (w1.setCell ⟨b, 1, none⟩ (.int .i64 ((s.i : Int) + 1))) (tO yk yt yn yu ya) (.cells #[.int .i64 15, .int .i64 0, .string ⟨#[]⟩, .int .i64 0, .int .i64 0, .int .i64 0, .int .i64 0, .slice none 0 0, .int .i64 (ya : Int)] 37)
         rw [size_set] at this
         exact this
        have hsx : (((w1.setCell ⟨b, 1, none⟩ (.int .i64 ((s.i : Int) + 1))).alloc (tO yk yt yn yu ya)).alloc (.cells #[.int .i64 15, .int .i64 0, .string ⟨#[]⟩, .int .i64 0, .int .i64 0, .int .i64 0, .int .i64 0, .slice none 0 0, .int .i64 (ya : Int)] 37)).heap.size = w1.heap.size + 1 + 1 := by simp [World.size_alloc, size_set]
        clear hA
        have hc5 := hce _ hPx
        clear hce
        refine ld ?_
        go_wp2_with (go_at_call 118; refine hc5.mono ?_; rintro e w7 ⟨v, rfl, hk7, hP7, hg7⟩; refine Hid.out ?_)
        rw [hsx] at hk7
        have hx7 := (hg7.block (w1.heap.size + 1) (by rw [hsx]; omega) (by simp; omega)).trans hx0
        have hgx7 := hgx0.trans hg7
        have hs7 := hg7.size
        rw [hsx] at hs7
        obtain ⟨ka, kn, kc, rfl⟩ := hk7.form
        obtain ⟨d0, d1, d2, d3, d4, d5, d6, d7, d8, df⟩ := Nc.of hx7
        have hs9 := Rp.setX hP0 hgx7 hP7 (xb := w1.heap.size + 1) (by rw [World.size_alloc]; omega) 7 (.slice ka kn kc)
        have hx9 := heap_setCell_same _ (w1.heap.size + 1) 7 _ _ (.slice ka kn kc) hx7
        have hkk := hk7.kept (gset (World.grownBy.refl w7 (some (w1.heap.size + 1))) (a := ⟨w1.heap.size + 1, 7, none⟩) (.inr rfl) (.slice ka kn kc)) (fun k e => by cases e; omega)
        have hTk := rtake_any b g cap T _ ⟨#[93]⟩ _ hs9.1
        rw [show ((⟨#[93]⟩ : ByteArray)).data.toList = [93] from rfl] at hTk
        have Hs9 := ld hs9
        have HX9 := ld hx9
        have HKK := ld hkk
        clear hs9 hx9 hkk
        refine ld ?_
        go_wp2_with (go_at_call 64; refine hTk.mono ?_; rintro e w8 ⟨rfl, hP8, hg8⟩; refine Hid.out ?_)
        have hx8 := (hg8.block (w1.heap.size + 1) (by rw [size_set]; omega) (by simp; omega)).trans HX9.out
        obtain ⟨e0, e1, e2, e3, e4, e5, e6, e7, e8, ef⟩ := Nc.of (by simpa using hx8)
        have hgx := Hs9.out.2.trans hg8
        refine ld ?_
        go_wp2_with (with_reducible refine hold_st 2 ?_)
        refine sg ((hgx : (w.alloc exp0).grownBy _ (some b)).block w.heap.size (by simp) (by simp; omega) |>.trans (heap_alloc_new w exp0)) ?_
        intro w9 hh9 hg9
        go_wp2
        (try simp only [Exit.inBlock, Exit.then])
        refine br hh9 Tryz.underlying37 ?_
        have hG : w.grownBy w9 (some b) := ((grown_some (ga w exp0 none) b).trans hgx).andThen hg9 (fun j e => .inl (by cases e; exact Nat.le_refl _))
        exact ⟨_, rfl, RepC.mono (by omega) (RepC.kept hg9 (fun k e => by cases e; omega) (HKK.out.kids.kept hg8 (by omega))), HH.out.to hG (hP8.st.kept hg9 (by simp; omega)) hP8.lt, hG⟩
      ·rw [if_neg t91]
       have e40 : (yt == [40]) = false := by rw [beq_eq_false_iff_ne]; exact t40
       have e91 : (yt == [91]) = false := by rw [beq_eq_false_iff_ne]; exact t91
       clear hf t40 t91
       go_enter Tryz.func116, Tryz.ntmps116
       go_wp2_with (go_at_call 45; refine hn.mono ?_; rintro e w1 ⟨rfl, hg1⟩; refine Hid.out ?_)
       have hP1 := hP0.kept hg1
       have hgw1 : (w.alloc exp0).grownBy w1 (some b) := grown_some hg1 b
       have p1 := hP1.st.c1
       have p2 := hP1.st.c2
       have fr1 := hP1.st.fr 1
       have hb1 := hP1.bl
       have n1 : ¬ b = w1.heap.size := by omega
       have n2 : ¬ b = w1.heap.size + 1 := by omega
       have hs1 := hgw1.size
       rw [World.size_alloc] at hs1
       have hPx := (hP1.alloc (tO yk yt yn yu ya)).alloc (.cells #[.int .i64 0, .int .i64 0, .string ⟨#[]⟩, .int .i64 0, .int .i64 0, .int .i64 0, .int .i64 0, .slice none 0 0, .int .i64 (ya : Int)] 37)
       have hF := rfail_any b g cap T s 12 _ hPx
       have hgx0 : (w.alloc exp0).grownBy ((w1.alloc (tO yk yt yn yu ya)).alloc (.cells #[.int .i64 0, .int .i64 0, .string ⟨#[]⟩, .int .i64 0, .int .i64 0, .int .i64 0, .int .i64 0, .slice none 0 0, .int .i64 (ya : Int)] 37)) (some b) := galloc (galloc hgw1 _) _
       have hx0 : ((w1.alloc (tO yk yt yn yu ya)).alloc (.cells #[.int .i64 0, .int .i64 0, .string ⟨#[]⟩, .int .i64 0, .int .i64 0, .int .i64 0, .int .i64 0, .slice none 0 0, .int .i64 (ya : Int)] 37)).heap[w1.heap.size + 1]? = some (.cells #[.int .i64 0, .int .i64 0, .string ⟨#[]⟩, .int .i64 0, .int .i64 0, .int .i64 0, .int .i64 0, .slice none 0 0, .int .i64 (ya : Int)] 37 (0, 0)) := heap_alloc2_new w1 _ _
       refine ld ?_
       go_wp2_with (first | (go_at_call 47; refine hF.mono ?_; rintro e w5 ⟨rfl, hP5, hg5⟩; refine Hid.out ?_))
       obtain ⟨c0, c1, c2, c3, c4, c5, c6, c7, c8, cf⟩ := Nc.of ((hg5.block (w1.heap.size + 1) (by simp) (by simp; omega)).trans hx0)
       have hgx := hgx0.trans hg5
       refine ld ?_
       go_wp2_with (with_reducible refine hold_st 2 ?_)
       refine sg ((hgx : (w.alloc exp0).grownBy _ (some b)).block w.heap.size (by simp) (by simp; omega) |>.trans (heap_alloc_new w exp0)) ?_
       intro w9 hh9 hg9
       go_wp2
       (try simp only [Exit.inBlock, Exit.then])
       refine br hh9 Tryz.underlying37 ?_
       have hG : w.grownBy w9 (some b) := ((grown_some (ga w exp0 none) b).trans hgx).andThen hg9 (fun j e => .inl (by cases e; exact Nat.le_refl _))
       exact ⟨_, rfl, Kids.nil _ _, HH.out.to hG (hP5.st.kept hg9 (by simp; omega)) hP5.lt, hG⟩
    ·rw [if_neg k4] at hf ⊢
     have q4 : (yk == 4) = false := by rw [beq_eq_false_iff_ne]; exact k4
     by_cases k3 : yk = 3
     ·rw [if_pos k3] at hf ⊢
      have q3 : (yk == 3) = true := by rw [beq_iff_eq]; exact k3
      have hWd2 : ∀ wx, Rp wx b g cap T s → _ := fun wx hx => hWd wx hx he k3 hf
      clear hWd
      cases hr : Gram.Rf.wordE T f ⟨yk, yt, yn, yu, ya⟩ s with
      | none => rw [hr] at hf; cases hf
      | some r =>
       obtain ⟨x, s2⟩ := r
       rw [hr] at hWd2
       cases x with
       | mk f1 s1' nm1 tk1 tl1 n1' m1 ks1 a1 =>
       simp only [rePost, expV] at hWd2
       clear hf hr k1 k2 k3 k4
       go_enter Tryz.func116, Tryz.ntmps116
       go_wp2_with (go_at_call 45; refine hn.mono ?_; rintro e w1 ⟨rfl, hg1⟩; refine Hid.out ?_)
       have hP1 := hP0.kept hg1
       have hgw1 : (w.alloc exp0).grownBy w1 (some b) := grown_some hg1 b
       have p1 := hP1.st.c1
       have p2 := hP1.st.c2
       have fr1 := hP1.st.fr 1
       have hb1 := hP1.bl
       have n1 : ¬ b = w1.heap.size := by omega
       have n2 : ¬ b = w1.heap.size + 1 := by omega
       have hs1 := hgw1.size
       rw [World.size_alloc] at hs1
       have hPx := (hP1.alloc (tO yk yt yn yu ya)).alloc (.cells #[.int .i64 0, .int .i64 0, .string ⟨#[]⟩, .int .i64 0, .int .i64 0, .int .i64 0, .int .i64 0, .slice none 0 0, .int .i64 (ya : Int)] 37)
       have hgx0 : (w.alloc exp0).grownBy ((w1.alloc (tO yk yt yn yu ya)).alloc (.cells #[.int .i64 0, .int .i64 0, .string ⟨#[]⟩, .int .i64 0, .int .i64 0, .int .i64 0, .int .i64 0, .slice none 0 0, .int .i64 (ya : Int)] 37)) (some b) := galloc (galloc hgw1 _) _
       have hc5 := hWd2 _ hPx
       clear hWd2
       refine ld ?_
       go_wp2_with (go_at_call 119; refine hc5.mono ?_; rintro e w5 ⟨k5, rfl, hk5, hP5, hg5⟩; refine Hid.out ?_)
       obtain ⟨ka, kn, kc, rfl⟩ := hk5.form
       have hgx := hgx0.trans hg5
       simp only [World.size_alloc] at hk5
       refine ld ?_
       go_wp2_with (with_reducible refine hold_st 2 ?_)
       refine sg ((hgx : (w.alloc exp0).grownBy _ (some b)).block w.heap.size (by simp) (by simp; omega) |>.trans (heap_alloc_new w exp0)) ?_
       intro w9 hh9 hg9
       go_wp2
       (try simp only [Exit.inBlock, Exit.then])
       refine br hh9 Tryz.underlying37 ?_
       have hG : w.grownBy w9 (some b) := ((grown_some (ga w exp0 none) b).trans hgx).andThen hg9 (fun j e => .inl (by cases e; exact Nat.le_refl _))
       exact ⟨_, rfl, RepC.mono (by omega) (RepC.kept hg9 (fun k e => by cases e; omega) hk5), HH.out.to hG (hP5.st.kept hg9 (by simp; omega)) hP5.lt, hG⟩
     ·rw [if_neg k3]
      have q3 : (yk == 3) = false := by rw [beq_eq_false_iff_ne]; exact k3
      clear k1 k2 k3 k4 hf
      go_enter Tryz.func116, Tryz.ntmps116
      go_wp2_with (go_at_call 45; refine hn.mono ?_; rintro e w1 ⟨rfl, hg1⟩; refine Hid.out ?_)
      have hP1 := hP0.kept hg1
      have hgw1 : (w.alloc exp0).grownBy w1 (some b) := grown_some hg1 b
      have p1 := hP1.st.c1
      have p2 := hP1.st.c2
      have fr1 := hP1.st.fr 1
      have hb1 := hP1.bl
      have n1 : ¬ b = w1.heap.size := by omega
      have n2 : ¬ b = w1.heap.size + 1 := by omega
      have hs1 := hgw1.size
      rw [World.size_alloc] at hs1
      have hPx := (hP1.alloc (tO yk yt yn yu ya)).alloc (.cells #[.int .i64 0, .int .i64 0, .string ⟨#[]⟩, .int .i64 0, .int .i64 0, .int .i64 0, .int .i64 0, .slice none 0 0, .int .i64 (ya : Int)] 37)
      have hF := rfail_any b g cap T s 12 _ hPx
      have hgx0 : (w.alloc exp0).grownBy ((w1.alloc (tO yk yt yn yu ya)).alloc (.cells #[.int .i64 0, .int .i64 0, .string ⟨#[]⟩, .int .i64 0, .int .i64 0, .int .i64 0, .int .i64 0, .slice none 0 0, .int .i64 (ya : Int)] 37)) (some b) := galloc (galloc hgw1 _) _
      have hx0 : ((w1.alloc (tO yk yt yn yu ya)).alloc (.cells #[.int .i64 0, .int .i64 0, .string ⟨#[]⟩, .int .i64 0, .int .i64 0, .int .i64 0, .int .i64 0, .slice none 0 0, .int .i64 (ya : Int)] 37)).heap[w1.heap.size + 1]? = some (.cells #[.int .i64 0, .int .i64 0, .string ⟨#[]⟩, .int .i64 0, .int .i64 0, .int .i64 0, .int .i64 0, .slice none 0 0, .int .i64 (ya : Int)] 37 (0, 0)) := heap_alloc2_new w1 _ _
      refine ld ?_
      go_wp2_with (first | (go_at_call 47; refine hF.mono ?_; rintro e w5 ⟨rfl, hP5, hg5⟩; refine Hid.out ?_))
      obtain ⟨c0, c1, c2, c3, c4, c5, c6, c7, c8, cf⟩ := Nc.of ((hg5.block (w1.heap.size + 1) (by simp) (by simp; omega)).trans hx0)
      have hgx := hgx0.trans hg5
      refine ld ?_
      go_wp2_with (with_reducible refine hold_st 2 ?_)
      refine sg ((hgx : (w.alloc exp0).grownBy _ (some b)).block w.heap.size (by simp) (by simp; omega) |>.trans (heap_alloc_new w exp0)) ?_
      intro w9 hh9 hg9
      go_wp2
      (try simp only [Exit.inBlock, Exit.then])
      refine br hh9 Tryz.underlying37 ?_
      have hG : w.grownBy w9 (some b) := ((grown_some (ga w exp0 none) b).trans hgx).andThen hg9 (fun j e => .inl (by cases e; exact Nat.le_refl _))
      exact ⟨_, rfl, Kids.nil _ _, HH.out.to hG (hP5.st.kept hg9 (by simp; omega)) hP5.lt, hG⟩
 ·rw [if_neg he]
  have b0 : (s.e != 0) = true := bne_f (by rw [beq_eq_false_iff_ne]; exact he)
  clear he hf
  go_enter Tryz.func116, Tryz.ntmps116
  go_wp2_with (go_at_call 45; refine hn.mono ?_; rintro e w1 ⟨rfl, hg1⟩; refine Hid.out ?_)
  have hP1 := hP0.kept hg1
  have hgw1 : (w.alloc exp0).grownBy w1 (some b) := grown_some hg1 b
  have p1 := hP1.st.c1
  have p2 := hP1.st.c2
  have fr1 := hP1.st.fr 1
  have hb1 := hP1.bl
  have n1 : ¬ b = w1.heap.size := by omega
  have n2 : ¬ b = w1.heap.size + 1 := by omega
  have hs1 := hgw1.size
  rw [World.size_alloc] at hs1
  have hPx := (hP1.alloc (tO yk yt yn yu ya)).alloc (.cells #[.int .i64 0, .int .i64 0, .string ⟨#[]⟩, .int .i64 0, .int .i64 0, .int .i64 0, .int .i64 0, .slice none 0 0, .int .i64 (ya : Int)] 37)
  have hgx0 : (w.alloc exp0).grownBy ((w1.alloc (tO yk yt yn yu ya)).alloc (.cells #[.int .i64 0, .int .i64 0, .string ⟨#[]⟩, .int .i64 0, .int .i64 0, .int .i64 0, .int .i64 0, .slice none 0 0, .int .i64 (ya : Int)] 37)) (some b) := galloc (galloc hgw1 _) _
  refine ld ?_
  go_wp2_with (with_reducible refine hold_st 2 ?_)
  refine sg ((hgx0 : (w.alloc exp0).grownBy _ (some b)).block w.heap.size (by simp) (by simp; omega) |>.trans (heap_alloc_new w exp0)) ?_
  intro w9 hh9 hg9
  go_wp2
  (try simp only [Exit.inBlock, Exit.then])
  refine br hh9 Tryz.underlying37 ?_
  have hG : w.grownBy w9 (some b) := ((grown_some (ga w exp0 none) b).trans hgx0).andThen hg9 (fun j e => .inl (by cases e; exact Nat.le_refl _))
  exact ⟨_, rfl, Kids.nil _ _, HH.out.to hG (hPx.st.kept hg9 (by simp; omega)) hPx.lt, hG⟩
end
open Go.RowKit Go.Maps Go.WideMaps
section
variable (b g cap : Nat) (T : List Lex.Tk) (s : Gram.Rf.St)
theorem redge_any (w : World) (h : Rp w b g cap T s) :
  Calls Tryz.prog 86 #[.pointer (some ⟨b, 0, none⟩)] w fun e w' => e = .returned (.agg #[.string ⟨(Gram.Rf.edge T s).1.name.toArray⟩, .bool (Gram.Rf.edge T s).1.on]) ∧ Rp w' b g cap T (Gram.Rf.edge T s).2 ∧ w.grownBy w' (some b) := by
 have hbw := h.bl
 have HH := ld h
 have hP0 := h.alloc edg0
 have hM := rmaybe_any b g cap T s ⟨#[110, 111, 116]⟩ _ hP0
 rw [show ((⟨#[110, 111, 116]⟩ : ByteArray)).data.toList = [110, 111, 116] from rfl] at hM
 unfold Gram.Rf.edge
 simp only
 generalize Gram.Rf.maybe T [110, 111, 116] s = s1 at *
 generalize Gram.Rf.is T [110, 111, 116] s = q at *
 have HN : Hid (∀ wx, Rp wx b g cap T s1 → Calls Tryz.prog 65 #[.pointer (some ⟨b, 0, none⟩)] wx fun e w' => e = .returned (.string ⟨(Gram.Rf.name T s1).1.toArray⟩) ∧ Rp w' b g cap T (Gram.Rf.name T s1).2 ∧ wx.grownBy w' (some b)) := ld (fun wx hx => rname_any b g cap T s1 wx hx)
 generalize (Gram.Rf.name T s1).1 = nm at *
 generalize (Gram.Rf.name T s1).2 = s2 at *
 clear h hP0
 go_enter Tryz.func86, Tryz.ntmps86
 go_wp2_with (go_at_call 67; refine hM.mono ?_; rintro e w1 ⟨rfl, hP1, hg1⟩; refine Hid.out ?_)
 have hN := HN.out _ hP1
 refine ld ?_
 go_wp2_with (go_at_call 65; refine hN.mono ?_; rintro e w2 ⟨rfl, hP2, hg2⟩; refine Hid.out ?_)
 have hgx := hg1.trans hg2
 refine ld ?_
 go_wp2_with (with_reducible refine hold_st 2 ?_)
 refine sg ((hgx.block w.heap.size (by simp) (by simp; omega)).trans (heap_alloc_new w edg0)) ?_
 intro w9 hh9 hg9
 go_wp2
 (try simp only [Exit.inBlock, Exit.then])
 refine br hh9 Tryz.underlying126 ?_
 have hG : w.grownBy w9 (some b) := ((grown_some (ga w edg0 none) b).trans hgx).andThen hg9 (fun j e => .inl (by cases e; exact Nat.le_refl _))
 exact ⟨rfl, HH.out.to hG (hP2.st.kept hg9 (by simp; omega)) hP2.lt, hG⟩
end
structure Wd (w wk : World) (b g cap : Nat) (T : List Lex.Tk) (s : Gram.Rf.St) (tk : Obj) (x : Array Value) : Prop where
 p : Rp wk b g cap T s
 g' : w.grownBy wk (some b)
 t : wk.heap[w.heap.size]? = some tk
 r : wk.heap[w.heap.size + 1]? = some exp0
 x' : wk.heap[w.heap.size + 1 + 1]? = some (.cells x 37 (0, 0))
 bl : b < w.heap.size
section
variable {w wk wn : World} {b g cap : Nat} {T : List Lex.Tk} {s s' : Gram.Rf.St} {tk : Obj} {x : Array Value}
theorem Wd.sz (h : Wd w wk b g cap T s tk x) : w.heap.size + 1 + 1 < wk.heap.size := (Array.getElem?_eq_some_iff.1 h.x').1
theorem Wd.step (h : Wd w wk b g cap T s tk x) (hg : wk.grownBy wn (some b)) (hp : Rp wn b g cap T s') : Wd w wn b g cap T s' tk x := by
 have h1 := h.sz
 have h2 := h.bl
 exact ⟨hp, h.g'.trans hg, (hg.block _ (by omega) (by simp; omega)).trans h.t, (hg.block _ (by omega) (by simp; omega)).trans h.r, (hg.block _ (by omega) (by simp; omega)).trans h.x', h.bl⟩
theorem Wd.step0 (h : Wd w wk b g cap T s tk x) (hg : wk.grownBy wn none) : Wd w wn b g cap T s tk x := h.step (grown_some hg b) (h.p.kept hg)
theorem Wd.alloc (h : Wd w wk b g cap T s tk x) (o : Obj) : Wd w (wk.alloc o) b g cap T s tk x := h.step0 (ga wk o none)
theorem Wd.set (h0 : Rp w b g cap T s') (h : Wd w wk b g cap T s tk x) (j : Nat) (v : Value) : Wd w (wk.setCell ⟨w.heap.size + 1 + 1, j, none⟩ v) b g cap T s tk (x.setIfInBounds j v) := by
 have h1 := h.sz
 have h2 := h.bl
 have hs := Rp.setX h0 h.g' h.p (xb := w.heap.size + 1 + 1) (by omega) j v
 have hg : wk.grownBy (wk.setCell ⟨w.heap.size + 1 + 1, j, none⟩ v) (some (w.heap.size + 1 + 1)) := gset (World.grownBy.refl wk _) (a := ⟨w.heap.size + 1 + 1, j, none⟩) (.inr rfl) v
 exact ⟨hs.1, hs.2, (hg.block _ (by omega) (fun e => by have := Option.some.inj e; omega)).trans h.t, (hg.block _ (by omega) (fun e => by have := Option.some.inj e; omega)).trans h.r, heap_setCell_same _ _ j _ _ v h.x', h.bl⟩
theorem Wd.adv (h : Wd w wk b g cap T s tk x) (hi : s.i + 1 < T.length) : Wd w (wk.setCell ⟨b, 1, none⟩ (.int .i64 ((s.i : Int) + 1))) b g cap T (Gram.Rf.adv s) tk x := by
 have h1 := radv_w h.p hi
 exact h.step h1.2 h1.1
theorem Wd.text {yk yn yu : Int} {yt : List UInt8} {ya : Nat} (h : Wd w wk b g cap T s (tO yk yt yn yu ya) x) : wk.cell? ⟨w.heap.size, 1, none⟩ = some (.string ⟨yt.toArray⟩) := cell_of_row wk _ 1 _ _ _ h.t
end
open Go.RowKit Go.Maps Go.WideMaps
namespace Gram
abbrev Step := Exp → Nat → PR Exp
def parts (T : List Lex.Tk) : List Step → B → Step
 | [], _, x, i => (expect T i [41]).bind fun _ j => .ok x j
 | s :: r, s0, x, i => (expect T i s0).bind fun _ j => (s x j).bind fun y k => parts T r [44] y k
theorem exps_len (T : List Lex.Tk) (d : Nat) : ∀ (f : Nat) (acc : List Exp) (i : Nat) (l : List Exp) (j : Nat), exps T f d acc i = .ok l j → l.length ≤ 16
 | 0, acc, i, l, j, h => by unfold exps at h; cases h
 | f + 1, acc, i, l, j, h => by
  unfold exps need room at h
  split at h
  ·split at h
   ·cases h
   ·rename_i hm
    cases hx : exp T f d i with
    | fuel => rw [hx] at h; cases h
    | bad => rw [hx] at h; cases h
    | ok e k =>
     rw [hx] at h
     simp only [PR.bind] at h
     split at h
     ·exact exps_len T d f _ _ l j h
     ·cases h; simp; omega
  ·cases h
end Gram
section
variable {w0 w w1 w' : World} {b g cap : Nat} {rv : Value} {T : List Lex.Tk} {q i j d c c' B p : Nat} {PB : Obj} {x y : Gram.Exp} {v u : Value}
end
section
variable (b g cap : Nat) (rv : Value) (T : List Lex.Tk) (d : Nat)
end
open Go.RowKit Go.Maps Go.WideMaps
section
variable {P : Program} {ops : Array Oper} {Q : Exit → Act → World → Prop} {md : Region.Mode} {S : World → Prop} {Z : List Nat}
theorem wp_append_at {w : World} {o : Oper} {a : Act} {K : Act → World → Prop} (s x : Operand) (t : TypeId)
  (ho : o.op = .call { callee := .builtin .append, args := #[s, x], argTypes := #[t, t] })
  (base : Nat) (e : TypeId) (i : TypeInfo) (z : Value) (size bytes : Nat) (ht : P.underlying t = some (.slice e)) (hi : P.info? e = some i) (hz : i.zero = some z)
  (hsize : i.size = size) (hby : i.bytes = bytes) (hzs : z.cells.size = size) (hsz : 0 < size)
  (v : Value) (n : Nat) (xs : List Value) (hs : a.eval s = v) (hown : w.ownsRow base e size v n xs)
  (ad : Addr) (m c : Nat) (news : List Value) (hx : a.eval x = .slice (some ad) m c) (hl : news.length = m * size) (hnews : ∀ j u, news[j]? = some u → w.cell? (ad.add j) = some u) (h1 : ∀ u ∈ news, u.oneCell' = true)
  (h63 : n + m ≤ maxLen) (hbytes : (n + m) * bytes ≤ 140737488355328) (hbase : base ≤ w.heap.size)
  (h : ∀ v' w', w'.ownsRow base e size v' (n + m) (xs ++ news) → w.grownBy w' v.ownBlock → (v' = .slice none 0 0 ↔ v = .slice none 0 0 ∧ m = 0) → (v'.ownBlock = v.ownBlock ∨ v'.ownBlock = some w.heap.size) → K (a.put o.dst v') w') :
  Oper.wp P o a w K Q := by
 obtain ⟨v', w', hr, h2, h3, h4, h5⟩ := run_append_own_at (P := P) w base t o.type e i z size bytes ht hi hz hsize hby hzs hsz v n xs hown ad m c news hl hnews h1 h63 hbytes hbase
 unfold Oper.wp execOp
 simp only [ho, resolve, invoke, builtin, Sem.run_bind, Sem.run_pure, Result.andThen_ok, List.map_toArray, List.map_cons, List.map_nil, hs, hx, hr]
 exact h v' w' h2 h3 h4 h5
end
theorem owns_there {w : World} {B : Nat} {e : TypeId} {size g n cap : Nat} {xs : List Value} (h : w.ownsRow B e size (.slice (some ⟨g, 0, none⟩) n cap) n xs) (o m : Nat) (hm : o + m ≤ xs.length) : w.there g o m := by
 intro j hj
 refine ⟨?_, h.frozenAt _⟩
 rcases h.2 with ⟨h', _⟩ | ⟨g', cap', cur, h', hb, hg, hnc, hcm, hcs, htake⟩
 ·simp at h'
 ·simp only [Value.slice.injEq, Option.some.injEq, Addr.mk.injEq, and_true, true_and] at h'
  obtain ⟨rfl, rfl⟩ := h'
  rw [cell_of_row w g _ _ _ _ hg]
  have h1 : xs.length ≤ cur.size := by rw [← htake]; simp; omega
  simp; omega
section
variable (b g cap : Nat) (rv : Value) (T : List Lex.Tk) (d : Nat)
end
open Go.RowKit Go.Maps Go.WideMaps
theorem heap3_0 (w : World) (A B C : Obj) : (((w.alloc A).alloc B).alloc C).heap[w.heap.size]? = some A := ((ga ((w.alloc A).alloc B) C none).block w.heap.size (by simp; omega) (by simp)).trans (heap_alloc2_old w A B)
theorem heap3_1 (w : World) (A B C : Obj) : (((w.alloc A).alloc B).alloc C).heap[w.heap.size + 1]? = some B := ((ga ((w.alloc A).alloc B) C none).block (w.heap.size + 1) (by simp) (by simp)).trans (heap_alloc2_new w A B)
theorem heap3_2 (w : World) (A B C : Obj) : (((w.alloc A).alloc B).alloc C).heap[w.heap.size + 1 + 1]? = some C := by
 have e := heap_alloc_new ((w.alloc A).alloc B) C
 rw [World.size_alloc, World.size_alloc] at e
 exact e
theorem Kids.setX {w wk : World} {B : Nat} {l : List Gram.Exp} {k : Value} (hB : w.heap.size + 3 ≤ B) (j : Nat) (v : Value) (h : Kids wk B l k) : Kids (wk.setCell ⟨w.heap.size + 1 + 1, j, none⟩ v) B l k := RepC.kept (gset (World.grownBy.refl wk (some (w.heap.size + 1 + 1))) (a := ⟨w.heap.size + 1 + 1, j, none⟩) (.inr rfl) v) (fun k e => by cases e; omega) h
theorem exps_len {T : List Lex.Tk} : ∀ (f : Nat) (l : List Gram.Exp) (s : Gram.Rf.St) {r : List Gram.Exp × Gram.Rf.St}, l.length ≤ 16 → Gram.Rf.exps T f l s = some r → r.1.length ≤ 16
 | 0, _, _, _, _, h => by rw [Gram.Rf.exps] at h; cases h
 | f + 1, l, s, r, hl, h => by
  rw [Gram.Rf.exps] at h
  split at h
  ·split at h
   ·injection h with h; rw [← h]; exact hl
   ·rename_i hm
    cases hx : Gram.Rf.exp T f s with
    | none => rw [hx] at h; cases h
    | some q =>
     rw [hx] at h
     simp only [Gram.Rf.bindS] at h
     split at h
     ·exact exps_len f _ _ (by simp; omega) h
     ·injection h with h; rw [← h]; simp; omega
  ·injection h with h; rw [← h]; exact hl
theorem call_len {T : List Lex.Tk} {f : Nat} {s : Gram.Rf.St} {l : List Gram.Exp} {t : Gram.Rf.St} (h : Gram.Rf.call T f s = some (l, t)) : l.length ≤ 16 := by
 cases f with
 | zero => rw [Gram.Rf.call] at h; cases h
 | succ f =>
  rw [Gram.Rf.call] at h
  split at h
  ·injection h with h; injection h with h _; rw [← h]; simp
  ·cases hx : Gram.Rf.exps T f [] (Gram.Rf.take T [40] s) with
   | none => rw [hx] at h; cases h
   | some q =>
    rw [hx] at h
    simp only [Gram.Rf.bindS] at h
    injection h with h; injection h with h _
    rw [← h]; exact exps_len f [] _ (by simp) hx
theorem Kids.three {w : World} {B : Nat} {x y z : Gram.Exp} {k l m v : Value} (ho : w.ownsRow B 37 9 v 3 (expCells x k ++ expCells y l ++ expCells z m)) (h : Kids w B x.kids k) (h2 : Kids w B y.kids l) (h3 : Kids w B z.kids m) : Kids w B [x, y, z] v := by
 refine .l (xs := expCells x k ++ expCells y l ++ expCells z m) (by simpa [expsD] using ho) (fun _ e => by cases e) ?_
 simpa [expsD] using ((exp_row (E := []) h).append (exp_row (E := []) h2)).append (exp_row (E := []) h3)
open Go.RowKit Go.Maps Go.WideMaps
section
variable (b g cap : Nat) (T : List Lex.Tk)
theorem rword_true (f : Nat) (hC : ∀ f', f' ≤ f → CRex b g cap T 88 (Gram.Rf.exp T f')) (s : Gram.Rf.St) (w : World) (h : Rp w b g cap T s) (yk yn yu : Int) (yt : List UInt8) (ya : Nat) (hw : yt = [116, 114, 117, 101]) (hi : s.i + 1 < T.length) (hf : (Gram.Rf.wordE T (f + 1) ⟨yk, yt, yn, yu, ya⟩ s).isSome = true) :
  Calls Tryz.prog 119 #[.pointer (some ⟨b, 0, none⟩), .agg #[.int .i64 yk, .string ⟨yt.toArray⟩, .int .i64 yn, .int .i64 yu, .int .i64 0, .int .i64 (ya : Int)]] w fun e w' => rePost w b g cap T (Gram.Rf.wordE T (f + 1) ⟨yk, yt, yn, yu, ya⟩ s) e w' := by
 have hbw := h.bl
 have hm := h.toks.most
 have HH := ld h
 have p1 := h.st.c1
 have fr1 := h.st.fr 1
 have nb0 : ¬ b = w.heap.size := by omega
 have nb1 : ¬ b = w.heap.size + 1 := by omega
 have nb2 : ¬ b = w.heap.size + 1 + 1 := by omega
 have nb3 : ¬ b = w.heap.size + 1 + 1 := by omega
 rw [Gram.Rf.wordE] at hf ⊢
 simp only at hf ⊢
 rw [if_pos (show yt = [116, 114, 117, 101] from hw)] at hf ⊢
 have e_true : (yt == [116, 114, 117, 101]) = true := by rw [hw]; rfl
 have e_false : (yt == [102, 97, 108, 115, 101]) = false := by rw [hw]; rfl
 have e_if : (yt == [105, 102]) = false := by rw [hw]; rfl
 have e_when : (yt == [119, 104, 101, 110]) = false := by rw [hw]; rfl
 have e_merge : (yt == [109, 101, 114, 103, 101]) = false := by rw [hw]; rfl
 have e_cast : (yt == [99, 97, 115, 116]) = false := by rw [hw]; rfl
 have e_tick : (yt == [116, 105, 99, 107]) = false := by rw [hw]; rfl
 have e_reset : (yt == [114, 101, 115, 101, 116]) = false := by rw [hw]; rfl
 have e_rep : (yt == [114, 101, 112]) = false := by rw [hw]; rfl
 have e_map : (yt == [109, 97, 112]) = false := by rw [hw]; rfl
 have e_fold : (yt == [102, 111, 108, 100]) = false := by rw [hw]; rfl
 clear hf
 clear hw
 have H : Wd w ((((w.alloc (tO yk yt yn yu ya)).alloc exp0).alloc (.cells #[.int .i64 0, .int .i64 0, .string ⟨#[]⟩, .int .i64 0, .int .i64 0, .int .i64 0, .int .i64 0, .slice none 0 0, .int .i64 (ya : Int)] 37))) b g cap T (s) (tO yk yt yn yu ya) #[.int .i64 0, .int .i64 0, .string ⟨#[]⟩, .int .i64 0, .int .i64 0, .int .i64 0, .int .i64 0, .slice none 0 0, .int .i64 (ya : Int)] := ⟨((h.alloc _).alloc _).alloc _, galloc (galloc (galloc (World.grownBy.refl w (some b)) _) _) _, heap3_0 w _ _ _, heap3_1 w _ _ _, heap3_2 w _ _ _, hbw⟩
 have q1 := H.p.st.c1
 have qf := H.p.st.fr 1
 unfold exp0 at q1 qf
 have H : Wd w (((((w.alloc (tO yk yt yn yu ya)).alloc exp0).alloc (.cells #[.int .i64 0, .int .i64 0, .string ⟨#[]⟩, .int .i64 0, .int .i64 0, .int .i64 0, .int .i64 0, .slice none 0 0, .int .i64 (ya : Int)] 37))).setCell ⟨b, 1, none⟩ (.int .i64 ((s.i : Int) + 1))) b g cap T (Gram.Rf.adv s) (tO yk yt yn yu ya) #[.int .i64 0, .int .i64 0, .string ⟨#[]⟩, .int .i64 0, .int .i64 0, .int .i64 0, .int .i64 0, .slice none 0 0, .int .i64 (ya : Int)] := H.adv hi
 go_enter Tryz.func119, Tryz.ntmps119
 refine Hid.out ?_
 have H : Wd w ((((((w.alloc (tO yk yt yn yu ya)).alloc exp0).alloc (.cells #[.int .i64 0, .int .i64 0, .string ⟨#[]⟩, .int .i64 0, .int .i64 0, .int .i64 0, .int .i64 0, .slice none 0 0, .int .i64 (ya : Int)] 37))).setCell ⟨b, 1, none⟩ (.int .i64 ((s.i : Int) + 1))).setCell ⟨w.heap.size + 1 + 1, 0, none⟩ (.int .i64 1)) b g cap T (Gram.Rf.adv s) (tO yk yt yn yu ya) #[.int .i64 1, .int .i64 0, .string ⟨#[]⟩, .int .i64 0, .int .i64 0, .int .i64 0, .int .i64 0, .slice none 0 0, .int .i64 (ya : Int)] := Wd.set h H 0 (.int .i64 1)
 have H : Wd w (((((((w.alloc (tO yk yt yn yu ya)).alloc exp0).alloc (.cells #[.int .i64 0, .int .i64 0, .string ⟨#[]⟩, .int .i64 0, .int .i64 0, .int .i64 0, .int .i64 0, .slice none 0 0, .int .i64 (ya : Int)] 37))).setCell ⟨b, 1, none⟩ (.int .i64 ((s.i : Int) + 1))).setCell ⟨w.heap.size + 1 + 1, 0, none⟩ (.int .i64 1)).setCell ⟨w.heap.size + 1 + 1, 3, none⟩ (.int .i64 1)) b g cap T (Gram.Rf.adv s) (tO yk yt yn yu ya) #[.int .i64 1, .int .i64 0, .string ⟨#[]⟩, .int .i64 1, .int .i64 0, .int .i64 0, .int .i64 0, .slice none 0 0, .int .i64 (ya : Int)] := Wd.set h H 3 (.int .i64 1)
 have H : Wd w ((((((((w.alloc (tO yk yt yn yu ya)).alloc exp0).alloc (.cells #[.int .i64 0, .int .i64 0, .string ⟨#[]⟩, .int .i64 0, .int .i64 0, .int .i64 0, .int .i64 0, .slice none 0 0, .int .i64 (ya : Int)] 37))).setCell ⟨b, 1, none⟩ (.int .i64 ((s.i : Int) + 1))).setCell ⟨w.heap.size + 1 + 1, 0, none⟩ (.int .i64 1)).setCell ⟨w.heap.size + 1 + 1, 3, none⟩ (.int .i64 1)).setCell ⟨w.heap.size + 1 + 1, 4, none⟩ (.int .i64 0)) b g cap T (Gram.Rf.adv s) (tO yk yt yn yu ya) #[.int .i64 1, .int .i64 0, .string ⟨#[]⟩, .int .i64 1, .int .i64 0, .int .i64 0, .int .i64 0, .slice none 0 0, .int .i64 (ya : Int)] := Wd.set h H 4 (.int .i64 0)
 have H : Wd w (((((((((w.alloc (tO yk yt yn yu ya)).alloc exp0).alloc (.cells #[.int .i64 0, .int .i64 0, .string ⟨#[]⟩, .int .i64 0, .int .i64 0, .int .i64 0, .int .i64 0, .slice none 0 0, .int .i64 (ya : Int)] 37))).setCell ⟨b, 1, none⟩ (.int .i64 ((s.i : Int) + 1))).setCell ⟨w.heap.size + 1 + 1, 0, none⟩ (.int .i64 1)).setCell ⟨w.heap.size + 1 + 1, 3, none⟩ (.int .i64 1)).setCell ⟨w.heap.size + 1 + 1, 4, none⟩ (.int .i64 0)).setCell ⟨w.heap.size + 1 + 1, 5, none⟩ (.int .i64 1)) b g cap T (Gram.Rf.adv s) (tO yk yt yn yu ya) #[.int .i64 1, .int .i64 0, .string ⟨#[]⟩, .int .i64 1, .int .i64 0, .int .i64 1, .int .i64 0, .slice none 0 0, .int .i64 (ya : Int)] := Wd.set h H 5 (.int .i64 1)
 obtain ⟨c0, c1, c2, c3, c4, c5, c6, c7, c8, cf⟩ := Nc.of H.x'
 have ct := Wd.text H
 have HF := ld H
 have hr1 := H.r
 have hgx := H.g'
 clear H
 refine ld ?_
 go_wp2_with (with_reducible refine hold_st 4 ?_)
 refine wpList_store_gen rfl _ _ _ rfl (w.heap.size + 1) #[.int .i64 1, .int .i64 0, .string ⟨#[]⟩, .int .i64 1, .int .i64 0, .int .i64 1, .int .i64 0, .slice none 0 0, .int .i64 (ya : Int)] rfl rfl 37 _ hr1 (by kernel_rfl) rfl (by simp [Value.oneCell']) ?_
 intro w9 hh9 hg9
 go_wp2
 (try simp only [Exit.inBlock, Exit.then])
 refine br hh9 Tryz.underlying37 ?_
 have hG : w.grownBy w9 (some b) := hgx.andThen hg9 (fun j e => .inl (by cases e; omega))
 exact ⟨_, rfl, Kids.nil _ _, HH.out.to hG (HF.out.p.st.kept hg9 (by simp; omega)) HF.out.p.lt, hG⟩
theorem rword_false (f : Nat) (hC : ∀ f', f' ≤ f → CRex b g cap T 88 (Gram.Rf.exp T f')) (s : Gram.Rf.St) (w : World) (h : Rp w b g cap T s) (yk yn yu : Int) (yt : List UInt8) (ya : Nat) (hw : yt = [102, 97, 108, 115, 101]) (hi : s.i + 1 < T.length) (hf : (Gram.Rf.wordE T (f + 1) ⟨yk, yt, yn, yu, ya⟩ s).isSome = true) :
  Calls Tryz.prog 119 #[.pointer (some ⟨b, 0, none⟩), .agg #[.int .i64 yk, .string ⟨yt.toArray⟩, .int .i64 yn, .int .i64 yu, .int .i64 0, .int .i64 (ya : Int)]] w fun e w' => rePost w b g cap T (Gram.Rf.wordE T (f + 1) ⟨yk, yt, yn, yu, ya⟩ s) e w' := by
 have hbw := h.bl
 have hm := h.toks.most
 have HH := ld h
 have p1 := h.st.c1
 have fr1 := h.st.fr 1
 have nb0 : ¬ b = w.heap.size := by omega
 have nb1 : ¬ b = w.heap.size + 1 := by omega
 have nb2 : ¬ b = w.heap.size + 1 + 1 := by omega
 have nb3 : ¬ b = w.heap.size + 1 + 1 := by omega
 rw [Gram.Rf.wordE] at hf ⊢
 simp only at hf ⊢
 rw [if_neg (show ¬ yt = [116, 114, 117, 101] by rw [hw]; decide)] at hf ⊢
 rw [if_pos (show yt = [102, 97, 108, 115, 101] from hw)] at hf ⊢
 have e_true : (yt == [116, 114, 117, 101]) = false := by rw [hw]; rfl
 have e_false : (yt == [102, 97, 108, 115, 101]) = true := by rw [hw]; rfl
 have e_if : (yt == [105, 102]) = false := by rw [hw]; rfl
 have e_when : (yt == [119, 104, 101, 110]) = false := by rw [hw]; rfl
 have e_merge : (yt == [109, 101, 114, 103, 101]) = false := by rw [hw]; rfl
 have e_cast : (yt == [99, 97, 115, 116]) = false := by rw [hw]; rfl
 have e_tick : (yt == [116, 105, 99, 107]) = false := by rw [hw]; rfl
 have e_reset : (yt == [114, 101, 115, 101, 116]) = false := by rw [hw]; rfl
 have e_rep : (yt == [114, 101, 112]) = false := by rw [hw]; rfl
 have e_map : (yt == [109, 97, 112]) = false := by rw [hw]; rfl
 have e_fold : (yt == [102, 111, 108, 100]) = false := by rw [hw]; rfl
 clear hf
 clear hw
 have H : Wd w ((((w.alloc (tO yk yt yn yu ya)).alloc exp0).alloc (.cells #[.int .i64 0, .int .i64 0, .string ⟨#[]⟩, .int .i64 0, .int .i64 0, .int .i64 0, .int .i64 0, .slice none 0 0, .int .i64 (ya : Int)] 37))) b g cap T (s) (tO yk yt yn yu ya) #[.int .i64 0, .int .i64 0, .string ⟨#[]⟩, .int .i64 0, .int .i64 0, .int .i64 0, .int .i64 0, .slice none 0 0, .int .i64 (ya : Int)] := ⟨((h.alloc _).alloc _).alloc _, galloc (galloc (galloc (World.grownBy.refl w (some b)) _) _) _, heap3_0 w _ _ _, heap3_1 w _ _ _, heap3_2 w _ _ _, hbw⟩
 have q1 := H.p.st.c1
 have qf := H.p.st.fr 1
 unfold exp0 at q1 qf
 have H : Wd w (((((w.alloc (tO yk yt yn yu ya)).alloc exp0).alloc (.cells #[.int .i64 0, .int .i64 0, .string ⟨#[]⟩, .int .i64 0, .int .i64 0, .int .i64 0, .int .i64 0, .slice none 0 0, .int .i64 (ya : Int)] 37))).setCell ⟨b, 1, none⟩ (.int .i64 ((s.i : Int) + 1))) b g cap T (Gram.Rf.adv s) (tO yk yt yn yu ya) #[.int .i64 0, .int .i64 0, .string ⟨#[]⟩, .int .i64 0, .int .i64 0, .int .i64 0, .int .i64 0, .slice none 0 0, .int .i64 (ya : Int)] := H.adv hi
 go_enter Tryz.func119, Tryz.ntmps119
 refine Hid.out ?_
 have H : Wd w ((((((w.alloc (tO yk yt yn yu ya)).alloc exp0).alloc (.cells #[.int .i64 0, .int .i64 0, .string ⟨#[]⟩, .int .i64 0, .int .i64 0, .int .i64 0, .int .i64 0, .slice none 0 0, .int .i64 (ya : Int)] 37))).setCell ⟨b, 1, none⟩ (.int .i64 ((s.i : Int) + 1))).setCell ⟨w.heap.size + 1 + 1, 0, none⟩ (.int .i64 1)) b g cap T (Gram.Rf.adv s) (tO yk yt yn yu ya) #[.int .i64 1, .int .i64 0, .string ⟨#[]⟩, .int .i64 0, .int .i64 0, .int .i64 0, .int .i64 0, .slice none 0 0, .int .i64 (ya : Int)] := Wd.set h H 0 (.int .i64 1)
 have H : Wd w (((((((w.alloc (tO yk yt yn yu ya)).alloc exp0).alloc (.cells #[.int .i64 0, .int .i64 0, .string ⟨#[]⟩, .int .i64 0, .int .i64 0, .int .i64 0, .int .i64 0, .slice none 0 0, .int .i64 (ya : Int)] 37))).setCell ⟨b, 1, none⟩ (.int .i64 ((s.i : Int) + 1))).setCell ⟨w.heap.size + 1 + 1, 0, none⟩ (.int .i64 1)).setCell ⟨w.heap.size + 1 + 1, 3, none⟩ (.int .i64 1)) b g cap T (Gram.Rf.adv s) (tO yk yt yn yu ya) #[.int .i64 1, .int .i64 0, .string ⟨#[]⟩, .int .i64 1, .int .i64 0, .int .i64 0, .int .i64 0, .slice none 0 0, .int .i64 (ya : Int)] := Wd.set h H 3 (.int .i64 1)
 have H : Wd w ((((((((w.alloc (tO yk yt yn yu ya)).alloc exp0).alloc (.cells #[.int .i64 0, .int .i64 0, .string ⟨#[]⟩, .int .i64 0, .int .i64 0, .int .i64 0, .int .i64 0, .slice none 0 0, .int .i64 (ya : Int)] 37))).setCell ⟨b, 1, none⟩ (.int .i64 ((s.i : Int) + 1))).setCell ⟨w.heap.size + 1 + 1, 0, none⟩ (.int .i64 1)).setCell ⟨w.heap.size + 1 + 1, 3, none⟩ (.int .i64 1)).setCell ⟨w.heap.size + 1 + 1, 4, none⟩ (.int .i64 0)) b g cap T (Gram.Rf.adv s) (tO yk yt yn yu ya) #[.int .i64 1, .int .i64 0, .string ⟨#[]⟩, .int .i64 1, .int .i64 0, .int .i64 0, .int .i64 0, .slice none 0 0, .int .i64 (ya : Int)] := Wd.set h H 4 (.int .i64 0)
 obtain ⟨c0, c1, c2, c3, c4, c5, c6, c7, c8, cf⟩ := Nc.of H.x'
 have ct := Wd.text H
 have HF := ld H
 have hr1 := H.r
 have hgx := H.g'
 clear H
 refine ld ?_
 go_wp2_with (with_reducible refine hold_st 4 ?_)
 refine wpList_store_gen rfl _ _ _ rfl (w.heap.size + 1) #[.int .i64 1, .int .i64 0, .string ⟨#[]⟩, .int .i64 1, .int .i64 0, .int .i64 0, .int .i64 0, .slice none 0 0, .int .i64 (ya : Int)] rfl rfl 37 _ hr1 (by kernel_rfl) rfl (by simp [Value.oneCell']) ?_
 intro w9 hh9 hg9
 go_wp2
 (try simp only [Exit.inBlock, Exit.then])
 refine br hh9 Tryz.underlying37 ?_
 have hG : w.grownBy w9 (some b) := hgx.andThen hg9 (fun j e => .inl (by cases e; omega))
 exact ⟨_, rfl, Kids.nil _ _, HH.out.to hG (HF.out.p.st.kept hg9 (by simp; omega)) HF.out.p.lt, hG⟩
end
end Go.Proofs.YtonafedbehnneaaGreat
