/- My texts RpF RpG GrQ GrR GrS RpH RpI RpJ, joined. -/
import Derived.Test.YtbbamgjdnibldaaGreatMhC
import Derived.Maps.AppendAt
set_option linter.unusedVariables false
set_option linter.unusedSimpArgs false
set_option linter.unnecessarySimpa false
set_option linter.unusedSectionVars false
set_option maxHeartbeats 12800000
set_option maxRecDepth 20000
namespace Go.Proofs.YtbbamgjdnibldaaGreat
open Go.RowKit Go.Maps Go.WideMaps
section
variable (b g cap : Nat) (T : List Lex.Tk)
theorem inf_ok {T : List Lex.Tk} {n : Nat} {s : Gram.Rf.St} (h : ¬ Gram.Rf.inf T n s = 0) : s.e = 0 ∧ ((Gram.tk T s.i).kind = 3 ∨ (Gram.tk T s.i).kind = 4) := by
 unfold Gram.Rf.inf at h
 by_cases h1 : s.e = 0 ∧ ((Gram.tk T s.i).kind = 3 ∨ (Gram.tk T s.i).kind = 4)
 ·exact h1
 ·rw [if_neg h1] at h; exact absurd rfl h
theorem rlevel_step (f : Nat) (hU : CRex b g cap T 178 (Gram.Rf.unary T f)) (hL : ∀ f', f' ≤ f → CLev b g cap T f') : CLev b g cap T (f + 1) := by
 intro n s w hn h hf
 have hP0 := h.alloc exp0
 have hbw := h.bl
 rw [Gram.Rf.level] at hf ⊢
 by_cases h8 : n = 8
 ·rw [if_pos h8] at hf ⊢
  have hc := hU s _ hP0 hf
  cases hr1 : Gram.Rf.unary T f s with
  | none => rw [hr1] at hf; cases hf
  | some r =>
   obtain ⟨x, s1⟩ := r
   rw [hr1] at hc
   simp only [rePost] at hc
   cases x with
   | mk f1 s1' nm1 tk1 tl1 n1 m1 ks1 a1 =>
   simp only [expV] at hc
   have b8 : ((n : Int) == 8) = true := by rw [beq_iff_eq]; omega
   have HH := ld h
   clear h hP0 hf h8 hr1
   go_enter Tryz.func177, Tryz.ntmps177
   go_wp2_with (go_at_call 178; refine hc.mono ?_; rintro e w1 ⟨k1, rfl, hk1, hP1, hg1⟩; refine Hid.out ?_)
   obtain ⟨ka, kn, kc, rfl⟩ := hk1.form
   have hs1 := hg1.size
   rw [World.size_alloc] at hs1
   refine ld ?_
   go_wp2_with (with_reducible refine hold_st 4 ?_)
   refine sg ((hg1.block w.heap.size (by simp) (by simp; omega)).trans (heap_alloc_new w exp0)) ?_
   intro w4 hh4 hg4
   go_wp2
   (try simp only [Exit.inBlock, Exit.then])
   refine br hh4 Tryz.underlying85 ?_
   have hG : w.grownBy w4 (some b) := ((grown_some (ga w exp0 none) b).trans hg1).andThen hg4 (fun j e => .inl (by cases e; exact Nat.le_refl _))
   exact ⟨_, rfl, (hk1.kept hg4 (by simp)).mono (by simp), HH.out.to hG (hP1.st.kept hg4 (by simp; omega)) hP1.lt, hG⟩
 ·rw [if_neg h8] at hf ⊢
  have b8 : ((n : Int) == 8) = false := by rw [beq_eq_false_iff_ne]; omega
  have hc := hL f (Nat.le_refl _) (n + 1) s _ (by omega) hP0
  cases hr1 : Gram.Rf.level T f (n + 1) s with
  | none => rw [hr1] at hf; cases hf
  | some r =>
  obtain ⟨x0, s0⟩ := r
  rw [hr1] at hf hc
  have hc2 := hc rfl
  simp only [rePost] at hc2
  rw [show (((n + 1 : Nat) : Int)) = (n : Int) + 1 by omega] at hc2
  have hf1 : (Gram.Rf.levels T f n x0 s0).isSome = true := hf
  show Calls _ _ _ _ fun e w' => rePost w b g cap T (Gram.Rf.levels T f n x0 s0) e w'
  have HH := ld h
  clear h hP0 hc hf hr1
  cases hx : x0 with
  | mk g1 u1 om1 vk1 vl1 o1 p1 us1 c1 =>
  rw [hx] at hc2
  simp only [expV] at hc2
  have HX := ld hx
  clear hx
  rw [← HX.out]
  go_enter Tryz.func177, Tryz.ntmps177
  go_wp2_with (go_at_call 177; refine hc2.mono ?_; rintro e w1 ⟨k1, rfl, hk1, hP1, hg1⟩; refine Hid.out ?_)
  obtain ⟨la, ln, lc, rfl⟩ := hk1.form
  have hs1 := hg1.size
  rw [World.size_alloc] at hs1
  refine ld ?_
  go_wp2
  go_loopg [] f (fun (f' : Nat) (wr : World) => ∃ (x : Gram.Exp) (s' : Gram.Rf.St) (ka : Option Addr) (kn kc : Nat), f' ≤ f ∧ Hid (wr.heap[w1.heap.size]? = some (.cells (expCells x (.slice ka kn kc)).toArray 85 (0, 0)) ∧ KidsX wr (w.heap.size + 1) [w1.heap.size] x.kids (.slice ka kn kc) ∧ Rp wr b g cap T s' ∧ (w.alloc exp0).grownBy wr (some b) ∧ Gram.Rf.levels T f' n x s' = Gram.Rf.levels T f n x0 s0))
  case atStart =>
   refine ⟨x0, s0, la, ln, lc, Nat.le_refl _, ld ⟨?_, ?_, hP1.alloc _, galloc hg1 _, rfl⟩⟩
   ·rw [HX.out]; exact heap_alloc_new w1 _
   ·rw [HX.out]
    refine RepC.kept (ga w1 _ none) (fun k e => by cases e) (RepC.toX [w1.heap.size] (fun k e => by simp at e; omega) ?_)
    exact hk1.mono (by simp)
  case round =>
   obtain ⟨x, s', ka, kn, kc, hff, HG⟩ := hrel
   obtain ⟨hE, hk, hP, hg, hLv⟩ := HG.out
   rw [← hLv] at hf1
   have HL := ld hLv
   clear HG hLv
   cases x with
   | mk f1 s1 nm1 tk1 tl1 n1 m1 ks1 a1 =>
   rcases Nat.eq_zero_or_pos gk with hz | hz
   ·rw [hz] at hf1; exact absurd hf1 (by simp [Gram.Rf.levels])
   obtain ⟨f', hfe⟩ : ∃ f', gk = f' + 1 := ⟨gk - 1, by omega⟩
   subst hfe
   have hE0 : wr.heap[w1.heap.size]? = some (.cells #[.int .i64 f1, .int .i64 s1, .string ⟨nm1.toArray⟩, .int .i64 tk1, .int .i64 tl1, .int .i64 n1, .int .i64 m1, .slice ka kn kc, .int .i64 a1] 85 (0, 0)) := hE
   obtain ⟨c0, c1', c2, c3, c4, c5, c6, c7, c8, cf⟩ := Nc.of hE0
   have hEl : w1.heap.size < wr.heap.size := (Array.getElem?_eq_some_iff.1 hE).1
   have p2 := hP.st.c2
   have hbb := hP.bl
   have hwb : ¬ w1.heap.size = b := by have := hP1.bl; omega
   by_cases hin : Gram.Rf.inf T n s' = 0
   ·have hr : Gram.Rf.levels T f n x0 s0 = some (.mk f1 s1 nm1 tk1 tl1 n1 m1 ks1 a1, s') := by rw [← HL.out]; unfold Gram.Rf.levels; rw [if_pos hin]
    have HR := ld hr
    clear hr hf1
    by_cases he : s'.e = 0
    ·have b0 : (s'.e == 0) = true := by rw [beq_iff_eq]; exact he
     have hI := rinfix_any b g cap T s' n (by omega) wr hP
     rw [hin] at hI
     clear he hin
     generalize s'.e = e0 at p2 b0
     go_wp2_with (go_at_call 179; refine hI.mono ?_; rintro e w2 ⟨rfl, hg2⟩; refine Hid.out ?_)
     have hgx : (w.alloc exp0).grownBy w2 (some b) := hg.trans (grown_some hg2 b)
     obtain ⟨d0, d1, d2, d3, d4, d5, d6, d7, d8, df⟩ := Nc.of ((hg2.block w1.heap.size hEl (by simp)).trans hE0)
     have hPx := hP.kept hg2
     refine ld ?_
     go_wp2_with (with_reducible refine hold_st 4 ?_)
     refine sg ((hgx.block w.heap.size (by simp) (by simp; omega)).trans (heap_alloc_new w exp0)) ?_
     intro w9 hh9 hg9
     go_wp2
     (try simp only [Exit.inBlock, Exit.then])
     refine br hh9 Tryz.underlying85 ?_
     rw [HR.out]
     have hG9 : w.grownBy w9 (some b) := ((grown_some (ga w exp0 none) b).trans hgx).andThen hg9 (fun j e => .inl (by cases e; exact Nat.le_refl _))
     exact ⟨_, rfl, RepC.mono (by omega) (RepC.kept hg9 (fun k e => by cases e; omega) (RepC.noX (RepC.kept hg2 (fun k e => by cases e) hk))), HH.out.to hG9 (hPx.st.kept hg9 (by simp; omega)) hPx.lt, hG9⟩
    ·have b0 : (s'.e == 0) = false := by rw [beq_eq_false_iff_ne]; exact he
     clear he hin
     generalize s'.e = e0 at p2 b0
     go_wp2_with (with_reducible refine hold_st 4 ?_)
     refine sg ((hg.block w.heap.size (by simp) (by simp; omega)).trans (heap_alloc_new w exp0)) ?_
     intro w9 hh9 hg9
     go_wp2
     (try simp only [Exit.inBlock, Exit.then])
     refine br hh9 Tryz.underlying85 ?_
     rw [HR.out]
     have hG9 : w.grownBy w9 (some b) := ((grown_some (ga w exp0 none) b).trans hg).andThen hg9 (fun j e => .inl (by cases e; exact Nat.le_refl _))
     exact ⟨_, rfl, RepC.mono (by omega) (RepC.kept hg9 (fun k e => by cases e; omega) (RepC.noX hk)), HH.out.to hG9 (hP.st.kept hg9 (by simp; omega)) hP.lt, hG9⟩
   ·have hop := inf_ok hin
    have b0 : (s'.e == 0) = true := by rw [beq_iff_eq]; exact hop.1
    have bi : (Gram.Rf.inf T n s' == 0) = false := by rw [beq_eq_false_iff_ne]; exact hin
    have hi1 := hP.next (.inl (by rcases hop.2 with e | e <;> rw [e] <;> decide))
    have hm := hP.toks.most
    have hI := rinfix_any b g cap T s' n (by omega) wr hP
    have hlv : Gram.Rf.levels T f n x0 s0 = Gram.Rf.bindS (Gram.Rf.level T f' (n + 1) (Gram.Rf.adv s')) fun b s2 => if n = 2 then some (Gram.Rf.two 4 (Gram.Rf.inf T n s') (.mk f1 s1 nm1 tk1 tl1 n1 m1 ks1 a1) b, s2) else Gram.Rf.levels T f' n (Gram.Rf.two 4 (Gram.Rf.inf T n s') (.mk f1 s1 nm1 tk1 tl1 n1 m1 ks1 a1) b) s2 := by rw [← HL.out]; conv => lhs; unfold Gram.Rf.levels; rw [if_neg hin]
    rw [HL.out, hlv] at hf1
    cases hr2 : Gram.Rf.level T f' (n + 1) (Gram.Rf.adv s') with
    | none => rw [hr2] at hf1; cases hf1
    | some r2 =>
     obtain ⟨y, s2⟩ := r2
     rw [hr2] at hlv hf1
     simp only [Gram.Rf.bindS] at hlv hf1
     have hadv := fun (w2 : World) (hg2 : wr.grownBy w2 none) => radv_w (hP.kept hg2) hi1
     have HC : Hid (∀ w2, Rp w2 b g cap T (Gram.Rf.adv s') → Calls Tryz.prog 177 #[.pointer (some ⟨b, 0, none⟩), .int .i64 ((n : Int) + 1)] w2 fun e w' => rePost w2 b g cap T (some (y, s2)) e w') := ld (fun w2 h2 => by
      have := hL f' (by omega) (n + 1) (Gram.Rf.adv s') w2 (by omega) h2
      rw [hr2] at this
      exact this rfl)
     clear hr2
     cases y with
     | mk f2 s2' nm2 tk2 tl2 n2 m2 ks2 a2 =>
     simp only [rePost, expV] at HC
     generalize hOP : Gram.Rf.inf T n s' = op at hI bi hlv hf1
     have HLV := ld hlv
     clear hlv hin hop hOP
     go_wp2_with (go_at_call 179; refine hI.mono ?_; rintro e w2 ⟨rfl, hg2⟩; refine Hid.out ?_)
     obtain ⟨hP3, hg3⟩ := hadv w2 hg2
     have p1 := (hP.kept hg2).st.c1
     have f1' := (hP.kept hg2).st.fr 1
     have hc3 := HC.out _ hP3
     have hgA : wr.grownBy (w2.setCell ⟨b, 1, none⟩ (.int .i64 ((s'.i : Int) + 1))) (some b) := (grown_some hg2 b).trans hg3
     have hsA := hgA.size
     have HA := ld (And.intro hP3 hgA)
     clear hP3 hg3 hgA hadv
     refine ld ?_
     go_wp2_with (go_at_call 177; refine hc3.mono ?_; rintro e w4 ⟨k2, rfl, hk2, hP4, hg4⟩; refine Hid.out ?_)
     obtain ⟨hP3, hgA⟩ := HA.out
     obtain ⟨la2, ln2, lc2, rfl⟩ := hk2.form
     have hgB : wr.grownBy w4 (some b) := hgA.trans hg4
     have hs4 := hgB.size
     have hE4 := (hgB.block w1.heap.size hEl (by simp; omega)).trans hE0
     have hY := ga w4 (.cells #[.int .i64 f2, .int .i64 s2', .string ⟨nm2.toArray⟩, .int .i64 tk2, .int .i64 tl2, .int .i64 n2, .int .i64 m2, .slice la2 ln2 lc2, .int .i64 a2] 85) none
     obtain ⟨d0, d1, d2, d3, d4, d5, d6, d7, d8, df⟩ := Nc.of ((hY.block w1.heap.size (by omega) (by simp)).trans hE4)
     have hkx := RepC.kept (hgB.trans (grown_some hY b)) (fun k e => by cases e; omega) hk
     have hky : KidsX _ (w.heap.size + 1) [w1.heap.size] (Gram.Exp.mk f2 s2' nm2 tk2 tl2 n2 m2 ks2 a2).kids (.slice la2 ln2 lc2) := RepC.kept hY (fun k e => by cases e) (RepC.mono (B' := w.heap.size + 1) (by omega) (RepC.toX [w1.heap.size] (fun k e => by simp at e; omega) hk2))
     have hTw := rtwoX_any 4 op (.mk f1 s1 nm1 tk1 tl1 n1 m1 ks1 a1) (.mk f2 s2' nm2 tk2 tl2 n2 m2 ks2 a2) _ _ (w.heap.size + 1) [w1.heap.size] _ (by simp; omega) (fun k e => by simp at e; simp; omega) hkx hky
     simp only [expV, Gram.Rf.two, Gram.Exp.at_] at hTw
     have HP4 := ld (And.intro hP4 hgB)
     clear hkx hky hk2 hgA hP3
     refine ld ?_
     go_wp2_with (first | (go_at_call 175; refine hTw.mono ?_; rintro e w5 ⟨⟨v, rfl, hkv⟩, hg5⟩; refine Hid.out ?_))
     obtain ⟨va, vn, vc, rfl⟩ : ∃ a n c, v = .slice a n c := Kids.form (RepC.noX hkv)
     have hgC : wr.grownBy w5 (some b) := (galloc hgB _).trans (grown_some hg5 b)
     have hs5 := hgC.size
     refine ld ?_
     go_wp2_with (with_reducible refine hold_st 5 ?_)
     refine wpList_store_gen rfl _ _ _ rfl w1.heap.size #[.int .i64 4, .int .i64 op, .string ⟨#[]⟩, .int .i64 0, .int .i64 0, .int .i64 0, .int .i64 0, .slice va vn vc, .int .i64 a1] rfl rfl 85 _ ((hgC.block w1.heap.size hEl (by simp; omega)).trans hE0) (by kernel_rfl) rfl (by simp [Value.oneCell']) ?_
     intro w6 hh6 hg6
     have hgx : (w.alloc exp0).grownBy w6 (some b) := (hg.trans hgC).andThen hg6 (fun j e => .inl (by cases e; rw [World.size_alloc]; omega))
     have hkz : KidsX w6 (w.heap.size + 1) [w1.heap.size] [.mk f1 s1 nm1 tk1 tl1 n1 m1 ks1 a1, .mk f2 s2' nm2 tk2 tl2 n2 m2 ks2 a2] (.slice va vn vc) := RepC.keptX hg6 (fun k e => .inr (by cases e; simp)) hkv
     have hP6 : Rp w6 b g cap T s2 := HH.out.to ((grown_some (ga w exp0 none) b).trans hgx) (((HP4.out.1.kept hY).kept hg5).st.kept hg6 (by simp; omega)) HP4.out.1.lt
     obtain ⟨d0, d1, d2, d3, d4, d5, d6, d7, d8, df⟩ := Nc.of hh6
     by_cases h2 : n = 2
     ·have hr : Gram.Rf.levels T f n x0 s0 = some (Gram.Rf.two 4 op (.mk f1 s1 nm1 tk1 tl1 n1 m1 ks1 a1) (.mk f2 s2' nm2 tk2 tl2 n2 m2 ks2 a2), s2) := by rw [HLV.out, if_pos h2]
      have HR := ld hr
      have b2 : ((n : Int) == 2) = true := by rw [beq_iff_eq]; omega
      clear hr h2 hf1
      go_wp2_with (with_reducible refine hold_st 4 ?_)
      refine sg ((hgx.block w.heap.size (by simp) (by simp; omega)).trans (heap_alloc_new w exp0)) ?_
      intro w9 hh9 hg9
      go_wp2
      (try simp only [Exit.inBlock, Exit.then])
      refine br hh9 Tryz.underlying85 ?_
      rw [HR.out]
      have hG9 : w.grownBy w9 (some b) := ((grown_some (ga w exp0 none) b).trans hgx).andThen hg9 (fun j e => .inl (by cases e; exact Nat.le_refl _))
      exact ⟨_, rfl, RepC.mono (by omega) (RepC.kept hg9 (fun k e => by cases e; omega) (RepC.noX hkz)), HH.out.to hG9 (hP6.st.kept hg9 (by simp; omega)) hP6.lt, hG9⟩
     ·have hr : Gram.Rf.levels T f n x0 s0 = Gram.Rf.levels T f' n (Gram.Rf.two 4 op (.mk f1 s1 nm1 tk1 tl1 n1 m1 ks1 a1) (.mk f2 s2' nm2 tk2 tl2 n2 m2 ks2 a2)) s2 := by rw [HLV.out, if_neg h2]
      have HR := ld hr
      have b2 : ((n : Int) == 2) = false := by rw [beq_eq_false_iff_ne]; omega
      clear hr h2 hf1
      go_wp2
      go_roundg f'
      case measure => exact Nat.lt_succ_self _
      case rel => exact ⟨Gram.Rf.two 4 op (.mk f1 s1 nm1 tk1 tl1 n1 m1 ks1 a1) (.mk f2 s2' nm2 tk2 tl2 n2 m2 ks2 a2), s2, va, vn, vc, by omega, ld ⟨hh6, hkz, hP6, hgx, HR.out.symm⟩⟩
end
section
variable (b g cap : Nat) (T : List Lex.Tk)
theorem rexp_step (f : Nat) (h1 : CRex b g cap T 173 (Gram.Rf.arrow T f)) : CRex b g cap T 166 (Gram.Rf.exp T (f + 1)) := by
 intro s w h hf
 have hP0 := h.alloc exp0
 have hbw := h.bl
 have HH := ld h
 have hg0 : (w.alloc exp0).grownBy (w.alloc exp0) none := World.grownBy.refl _ _
 rw [Gram.Rf.exp] at hf ⊢
 by_cases hd : 40 < (Gram.Rf.opened s).n
 ·rw [if_pos hd]
  clear hf h
  go_enter Tryz.func166, Tryz.ntmps166
  refine Hid.out ?_
  have hO := ropen_no b g cap T s (by omega) (w.alloc exp0) hP0
  refine ld ?_
  go_wp2_with (go_at_call 172; refine hO.mono ?_; rintro e w2 ⟨rfl, hP2, hg2⟩; refine Hid.out ?_)
  have hgW : (w.alloc exp0).grownBy w2 (some b) := (grown_some hg0 b).trans hg2
  refine ld ?_
  go_wp2_with (with_reducible refine hold_st 2 ?_)
  refine wpList_store_gen rfl _ _ _ rfl w.heap.size #[.int .i64 0, .int .i64 0, .string ⟨#[]⟩, .int .i64 0, .int .i64 0, .int .i64 0, .int .i64 0, .slice none 0 0, .int .i64 0] rfl rfl 85 _ ((hgW.block w.heap.size (by simp) (by simp; omega)).trans (heap_alloc_new w exp0)) (by kernel_rfl) rfl (by simp [Value.oneCell']) ?_
  intro w4 hh4 hg4
  go_wp2
  (try simp only [Exit.inBlock, Exit.then])
  refine br hh4 Tryz.underlying85 ?_
  have hG : w.grownBy w4 (some b) := ((grown_some (ga w exp0 none) b).trans hgW).andThen hg4 (fun j e => .inl (by cases e; exact Nat.le_refl _))
  exact ⟨.slice none 0 0, rfl, Kids.nil _ _, HH.out.to hG (hP2.st.kept hg4 (by simp; omega)) hP2.lt, hG⟩
 ·rw [if_neg hd] at hf ⊢
  cases hr : Gram.Rf.arrow T f (Gram.Rf.opened s) with
  | none => rw [hr] at hf; cases hf
  | some r =>
   obtain ⟨x, s2⟩ := r
   simp only [Gram.Rf.bindS]
   cases x with
   | mk f1 s1' nm1 tk1 tl1 n1 m1 ks1 a1 =>
   clear hf h
   go_enter Tryz.func166, Tryz.ntmps166
   refine Hid.out ?_
   have hO := ropen_yes b g cap T s (by omega) (w.alloc exp0) hP0
   refine ld ?_
   go_wp2_with (go_at_call 172; refine hO.mono ?_; rintro e w2 ⟨rfl, hP2, hg2⟩; refine Hid.out ?_)
   have hgW : (w.alloc exp0).grownBy w2 (some b) := (grown_some hg0 b).trans hg2
   have hc := h1 _ w2 hP2
   rw [hr] at hc
   have hc2 := hc rfl
   simp only [rePost, expV] at hc2
   have hs2 := hgW.size
   rw [World.size_alloc] at hs2
   refine ld ?_
   go_wp2_with (go_at_call 173; refine hc2.mono ?_; rintro e w3 ⟨k1, rfl, hk1, hP3, hg3⟩; refine Hid.out ?_)
   obtain ⟨ka, kn, kc, rfl⟩ := hk1.form
   have p4 := hP3.st.c4
   have f4 := hP3.st.fr 4
   have hK := ropened_w hP3 (wrap64 (s2.n - 1))
   have HK := ld hK
   have hb3 := hP3.bl
   have n3 : ¬ b = w3.heap.size := by omega
   have hs3 := hg3.size
   have hsK := hK.2.size
   clear hK
   generalize hnn : s2.n = nn at p4 HK hsK
   generalize hvv : wrap64 (nn - 1) = vv at HK hsK
   have HCL : Hid (Gram.Rf.closed s2 = { s2 with n := vv }) := ld (by unfold Gram.Rf.closed; rw [hnn, hvv])
   clear hnn
   refine ld ?_
   go_wp2_with (with_reducible refine hold_st 2 ?_)
   obtain ⟨W5, hW5⟩ : ∃ W, W = (w3.setCell ⟨b, 4, none⟩ (.int .i64 vv)).alloc (.cells #[.int .i64 f1, .int .i64 s1', .string ⟨nm1.toArray⟩, .int .i64 tk1, .int .i64 tl1, .int .i64 n1, .int .i64 m1, .slice ka kn kc, .int .i64 a1] 85) := ⟨_, rfl⟩
   have hg5 : (w3.setCell ⟨b, 4, none⟩ (.int .i64 vv)).grownBy W5 none := by rw [hW5]; exact ga _ _ none
   rw [← hW5]
   clear hW5
   have hgX : (w.alloc exp0).grownBy W5 (some b) := ((hgW.trans hg3).trans HK.out.2).trans (grown_some hg5 b)
   refine wpList_store_gen rfl _ _ _ rfl w.heap.size #[.int .i64 f1, .int .i64 s1', .string ⟨nm1.toArray⟩, .int .i64 tk1, .int .i64 tl1, .int .i64 n1, .int .i64 m1, .slice ka kn kc, .int .i64 a1] rfl rfl 85 _ ((hgX.block w.heap.size (by simp) (by simp; omega)).trans (heap_alloc_new w exp0)) (by kernel_rfl) rfl (by simp [Value.oneCell']) ?_
   intro w4 hh4 hg4
   go_wp2
   (try simp only [Exit.inBlock, Exit.then])
   refine br hh4 Tryz.underlying85 ?_
   have hG : w.grownBy w4 (some b) := ((grown_some (ga w exp0 none) b).trans hgX).andThen hg4 (fun j e => .inl (by cases e; exact Nat.le_refl _))
   rw [HCL.out]
   have hk4 := RepC.kept hg4 (fun k e => by cases e; omega) (RepC.kept hg5 (fun k e => by cases e) (RepC.kept HK.out.2 (fun k e => by cases e; have := HH.out.bl; omega) hk1))
   exact ⟨_, rfl, RepC.mono (by omega) hk4, HH.out.to hG ((HK.out.1.kept hg5).st.kept hg4 (by simp; omega)) hP3.lt, hG⟩
theorem runary_step (f : Nat) (h1 : CRex b g cap T 180 (Gram.Rf.signed T f)) : CRex b g cap T 178 (Gram.Rf.unary T (f + 1)) := by
 intro s w h hf
 have hP0 := h.alloc exp0
 have hbw := h.bl
 have HH := ld h
 rw [Gram.Rf.unary] at hf ⊢
 clear h
 cases hab : (Gram.Rf.is T [110, 111, 116] s || Gram.Rf.is T [45] s || Gram.Rf.is T [112, 114, 101] s) with
 | true =>
  rw [hab] at hf
  rw [if_pos rfl] at hf ⊢
  have HAB := ld hab
  by_cases hd : 40 < (Gram.Rf.opened s).n
  ·rw [if_pos hd]
   clear hf
   go_enter Tryz.func178, Tryz.ntmps178
   refine Hid.out ?_
   have hia := ris_any b g cap T s ⟨#[110, 111, 116]⟩ (w.alloc exp0) hP0
   rw [show ((⟨#[110, 111, 116]⟩ : ByteArray)).data.toList = [110, 111, 116] from rfl] at hia
   have HA3 : Hid (∀ wx, (w.alloc exp0).grownBy wx none → Rp wx b g cap T s) := ld (fun wx hx => hP0.kept hx)
   refine ld ?_
   go_wp2_with (go_at_call 63; refine hia.mono ?_; rintro e wa ⟨rfl, hga⟩; refine Hid.out ?_)
   have hib := ris_any b g cap T s ⟨#[45]⟩ wa (HA3.out _ hga)
   rw [show ((⟨#[45]⟩ : ByteArray)).data.toList = [45] from rfl] at hib
   refine ld ?_
   go_wp2_with (go_at_call 63; refine hib.mono ?_; rintro e wb ⟨rfl, hgb⟩; refine Hid.out ?_)
   have hgab := hga.trans hgb
   have hic := ris_any b g cap T s ⟨#[112, 114, 101]⟩ wb (HA3.out _ hgab)
   rw [show ((⟨#[112, 114, 101]⟩ : ByteArray)).data.toList = [112, 114, 101] from rfl] at hic
   refine ld ?_
   go_wp2_with (go_at_call 63; refine hic.mono ?_; rintro e wc ⟨rfl, hgc⟩; refine Hid.out ?_)
   have hg0 := hgab.trans hgc
   have hP0' := HA3.out _ hg0
   clear hga hgb hgc hgab hia hib hic
   generalize Gram.Rf.is T [110, 111, 116] s = xa at *
   generalize Gram.Rf.is T [45] s = xb at *
   generalize Gram.Rf.is T [112, 114, 101] s = xc at *
   rcases Bool.eq_false_or_eq_true xa with rfl | rfl <;> rcases Bool.eq_false_or_eq_true xb with rfl | rfl <;> rcases Bool.eq_false_or_eq_true xc with rfl | rfl
   all_goals first | (exact absurd HAB.out (by decide)) | skip
   all_goals (clear hab)
   all_goals
    (
     have hO := ropen_no b g cap T s (by omega) wc hP0'
     refine ld ?_
     go_wp2_with (go_at_call 172; refine hO.mono ?_; rintro e w2 ⟨rfl, hP2, hg2⟩; refine Hid.out ?_)
     have hgW : (w.alloc exp0).grownBy w2 (some b) := (grown_some hg0 b).trans hg2
     refine ld ?_
     go_wp2_with (with_reducible refine hold_st 2 ?_)
     refine wpList_store_gen rfl _ _ _ rfl w.heap.size #[.int .i64 0, .int .i64 0, .string ⟨#[]⟩, .int .i64 0, .int .i64 0, .int .i64 0, .int .i64 0, .slice none 0 0, .int .i64 0] rfl rfl 85 _ ((hgW.block w.heap.size (by simp) (by simp; omega)).trans (heap_alloc_new w exp0)) (by kernel_rfl) rfl (by simp [Value.oneCell']) ?_
     intro w4 hh4 hg4
     go_wp2
     (try simp only [Exit.inBlock, Exit.then])
     refine br hh4 Tryz.underlying85 ?_
     have hG : w.grownBy w4 (some b) := ((grown_some (ga w exp0 none) b).trans hgW).andThen hg4 (fun j e => .inl (by cases e; exact Nat.le_refl _))
     exact ⟨.slice none 0 0, rfl, Kids.nil _ _, HH.out.to hG (hP2.st.kept hg4 (by simp; omega)) hP2.lt, hG⟩
    )
  ·rw [if_neg hd] at hf ⊢
   cases hr : Gram.Rf.signed T f (Gram.Rf.opened s) with
   | none => rw [hr] at hf; cases hf
   | some r =>
    obtain ⟨x, s2⟩ := r
    simp only [Gram.Rf.bindS]
    cases x with
    | mk f1 s1' nm1 tk1 tl1 n1 m1 ks1 a1 =>
    clear hf
    go_enter Tryz.func178, Tryz.ntmps178
    refine Hid.out ?_
    have hia := ris_any b g cap T s ⟨#[110, 111, 116]⟩ (w.alloc exp0) hP0
    rw [show ((⟨#[110, 111, 116]⟩ : ByteArray)).data.toList = [110, 111, 116] from rfl] at hia
    have HA3 : Hid (∀ wx, (w.alloc exp0).grownBy wx none → Rp wx b g cap T s) := ld (fun wx hx => hP0.kept hx)
    refine ld ?_
    go_wp2_with (go_at_call 63; refine hia.mono ?_; rintro e wa ⟨rfl, hga⟩; refine Hid.out ?_)
    have hib := ris_any b g cap T s ⟨#[45]⟩ wa (HA3.out _ hga)
    rw [show ((⟨#[45]⟩ : ByteArray)).data.toList = [45] from rfl] at hib
    refine ld ?_
    go_wp2_with (go_at_call 63; refine hib.mono ?_; rintro e wb ⟨rfl, hgb⟩; refine Hid.out ?_)
    have hgab := hga.trans hgb
    have hic := ris_any b g cap T s ⟨#[112, 114, 101]⟩ wb (HA3.out _ hgab)
    rw [show ((⟨#[112, 114, 101]⟩ : ByteArray)).data.toList = [112, 114, 101] from rfl] at hic
    refine ld ?_
    go_wp2_with (go_at_call 63; refine hic.mono ?_; rintro e wc ⟨rfl, hgc⟩; refine Hid.out ?_)
    have hg0 := hgab.trans hgc
    have hP0' := HA3.out _ hg0
    clear hga hgb hgc hgab hia hib hic
    generalize Gram.Rf.is T [110, 111, 116] s = xa at *
    generalize Gram.Rf.is T [45] s = xb at *
    generalize Gram.Rf.is T [112, 114, 101] s = xc at *
    rcases Bool.eq_false_or_eq_true xa with rfl | rfl <;> rcases Bool.eq_false_or_eq_true xb with rfl | rfl <;> rcases Bool.eq_false_or_eq_true xc with rfl | rfl
    all_goals first | (exact absurd HAB.out (by decide)) | skip
    all_goals (clear hab)
    all_goals
      (
       have hO := ropen_yes b g cap T s (by omega) wc hP0'
       refine ld ?_
       go_wp2_with (go_at_call 172; refine hO.mono ?_; rintro e w2 ⟨rfl, hP2, hg2⟩; refine Hid.out ?_)
       have hgW : (w.alloc exp0).grownBy w2 (some b) := (grown_some hg0 b).trans hg2
       have hc := h1 _ w2 hP2
       rw [hr] at hc
       have hc2 := hc rfl
       simp only [rePost, expV] at hc2
       have hs2 := hgW.size
       rw [World.size_alloc] at hs2
       refine ld ?_
       go_wp2_with (go_at_call 180; refine hc2.mono ?_; rintro e w3 ⟨k1, rfl, hk1, hP3, hg3⟩; refine Hid.out ?_)
       obtain ⟨ka, kn, kc, rfl⟩ := hk1.form
       have p4 := hP3.st.c4
       have f4 := hP3.st.fr 4
       have hK := ropened_w hP3 (wrap64 (s2.n - 1))
       have HK := ld hK
       have hb3 := hP3.bl
       have n3 : ¬ b = w3.heap.size := by omega
       have hs3 := hg3.size
       have hsK := hK.2.size
       clear hK
       generalize hnn : s2.n = nn at p4 HK hsK
       generalize hvv : wrap64 (nn - 1) = vv at HK hsK
       have HCL : Hid (Gram.Rf.closed s2 = { s2 with n := vv }) := ld (by unfold Gram.Rf.closed; rw [hnn, hvv])
       clear hnn
       refine ld ?_
       go_wp2_with (with_reducible refine hold_st 2 ?_)
       obtain ⟨W5, hW5⟩ : ∃ W, W = (w3.setCell ⟨b, 4, none⟩ (.int .i64 vv)).alloc (.cells #[.int .i64 f1, .int .i64 s1', .string ⟨nm1.toArray⟩, .int .i64 tk1, .int .i64 tl1, .int .i64 n1, .int .i64 m1, .slice ka kn kc, .int .i64 a1] 85) := ⟨_, rfl⟩
       have hg5 : (w3.setCell ⟨b, 4, none⟩ (.int .i64 vv)).grownBy W5 none := by rw [hW5]; exact ga _ _ none
       rw [← hW5]
       clear hW5
       have hgX : (w.alloc exp0).grownBy W5 (some b) := ((hgW.trans hg3).trans HK.out.2).trans (grown_some hg5 b)
       refine wpList_store_gen rfl _ _ _ rfl w.heap.size #[.int .i64 f1, .int .i64 s1', .string ⟨nm1.toArray⟩, .int .i64 tk1, .int .i64 tl1, .int .i64 n1, .int .i64 m1, .slice ka kn kc, .int .i64 a1] rfl rfl 85 _ ((hgX.block w.heap.size (by simp) (by simp; omega)).trans (heap_alloc_new w exp0)) (by kernel_rfl) rfl (by simp [Value.oneCell']) ?_
       intro w4 hh4 hg4
       go_wp2
       (try simp only [Exit.inBlock, Exit.then])
       refine br hh4 Tryz.underlying85 ?_
       have hG : w.grownBy w4 (some b) := ((grown_some (ga w exp0 none) b).trans hgX).andThen hg4 (fun j e => .inl (by cases e; exact Nat.le_refl _))
       rw [HCL.out]
       have hk4 := RepC.kept hg4 (fun k e => by cases e; omega) (RepC.kept hg5 (fun k e => by cases e) (RepC.kept HK.out.2 (fun k e => by cases e; have := HH.out.bl; omega) hk1))
       exact ⟨_, rfl, RepC.mono (by omega) hk4, HH.out.to hG ((HK.out.1.kept hg5).st.kept hg4 (by simp; omega)) hP3.lt, hG⟩
      )
 | false =>
  rw [hab] at hf
  rw [if_neg (by decide)] at hf ⊢
  simp only [Bool.or_eq_false_iff] at hab
  obtain ⟨⟨qa, qb⟩, qc⟩ := hab
  cases hr : Gram.Rf.signed T f s with
  | none => rw [hr] at hf; cases hf
  | some r =>
   obtain ⟨x, s2⟩ := r
   cases x with
   | mk f1 s1' nm1 tk1 tl1 n1 m1 ks1 a1 =>
   clear hf
   go_enter Tryz.func178, Tryz.ntmps178
   refine Hid.out ?_
   have hia := ris_any b g cap T s ⟨#[110, 111, 116]⟩ (w.alloc exp0) hP0
   rw [show ((⟨#[110, 111, 116]⟩ : ByteArray)).data.toList = [110, 111, 116] from rfl] at hia
   have HA3 : Hid (∀ wx, (w.alloc exp0).grownBy wx none → Rp wx b g cap T s) := ld (fun wx hx => hP0.kept hx)
   refine ld ?_
   go_wp2_with (go_at_call 63; refine hia.mono ?_; rintro e wa ⟨rfl, hga⟩; refine Hid.out ?_)
   have hib := ris_any b g cap T s ⟨#[45]⟩ wa (HA3.out _ hga)
   rw [show ((⟨#[45]⟩ : ByteArray)).data.toList = [45] from rfl] at hib
   refine ld ?_
   go_wp2_with (go_at_call 63; refine hib.mono ?_; rintro e wb ⟨rfl, hgb⟩; refine Hid.out ?_)
   have hgab := hga.trans hgb
   have hic := ris_any b g cap T s ⟨#[112, 114, 101]⟩ wb (HA3.out _ hgab)
   rw [show ((⟨#[112, 114, 101]⟩ : ByteArray)).data.toList = [112, 114, 101] from rfl] at hic
   refine ld ?_
   go_wp2_with (go_at_call 63; refine hic.mono ?_; rintro e wc ⟨rfl, hgc⟩; refine Hid.out ?_)
   have hg0 := hgab.trans hgc
   have hP0' := HA3.out _ hg0
   skip
   have hc := h1 _ wc hP0'
   rw [hr] at hc
   have hc2 := hc rfl
   simp only [rePost, expV] at hc2
   refine ld ?_
   go_wp2_with (go_at_call 180; refine hc2.mono ?_; rintro e w3 ⟨k1, rfl, hk1, hP3, hg3⟩; refine Hid.out ?_)
   obtain ⟨ka, kn, kc, rfl⟩ := hk1.form
   have hgX : (w.alloc exp0).grownBy w3 (some b) := (grown_some hg0 b).trans hg3
   have hs0 := hg0.size
   rw [World.size_alloc] at hs0
   refine ld ?_
   go_wp2_with (with_reducible refine hold_st 2 ?_)
   refine sg ((hgX.block w.heap.size (by simp) (by simp; omega)).trans (heap_alloc_new w exp0)) ?_
   intro w4 hh4 hg4
   go_wp2
   (try simp only [Exit.inBlock, Exit.then])
   refine br hh4 Tryz.underlying85 ?_
   have hG : w.grownBy w4 (some b) := ((grown_some (ga w exp0 none) b).trans hgX).andThen hg4 (fun j e => .inl (by cases e; exact Nat.le_refl _))
   exact ⟨_, rfl, RepC.mono (by omega) (RepC.kept hg4 (fun k e => by cases e; omega) hk1), HH.out.to hG (hP3.st.kept hg4 (by simp; omega)) hP3.lt, hG⟩
end
section
variable (b g cap : Nat) (rv : Value) (T : List Lex.Tk) (i d : Nat)
def edg0 : Obj := .cells #[.string ⟨#[]⟩, .bool false] 92
end
mutual
theorem RepC.keptN {w w' : World} {B : Nat} {E : List Nat} {row : Option Nat} (hg : w.grownBy w' row) (hr : ∀ k, row = some k → k < B ∨ k ∈ E) (E' : List Nat) (hE' : ∀ k ∈ E', w.heap.size ≤ k) : ∀ {d : D} {v : Value}, RepC w B E d v → RepC w' B E' d v
 | _, _, .c v => .c v
 | _, v, .l ho hE h => .l (ho.kept hg (by
  cases hv : v.ownBlock with
  | none => exact .inl rfl
  | some k => exact .inr (fun e => by
   rcases hr k e.symm with h2 | h2
   ·have h1 := (ho.lt k hv).1; omega
   ·exact hE k h2 hv))) (fun k e hv => by have h1 := hE' k e; have h2 := ho.lt _ hv; omega) (RepRow.keptN hg hr E' hE' h)
theorem RepRow.keptN {w w' : World} {B : Nat} {E : List Nat} {row : Option Nat} (hg : w.grownBy w' row) (hr : ∀ k, row = some k → k < B ∨ k ∈ E) (E' : List Nat) (hE' : ∀ k ∈ E', w.heap.size ≤ k) : ∀ {ds : List D} {vs : List Value}, RepRow w B E ds vs → RepRow w' B E' ds vs
 | _, _, .nil => .nil
 | _, _, .cons h t => .cons (RepC.keptN hg hr E' hE' h) (RepRow.keptN hg hr E' hE' t)
end
def Growing (w : World) (B : Nat) (l : List Gram.Exp) (v : Value) : Prop := ∃ xs, w.ownsRow B 85 9 v l.length xs ∧ RepRow w B v.ownBlock.toList (expsD l).flatten xs
theorem Growing.kids {w : World} {B : Nat} {l : List Gram.Exp} {v : Value} (h : Growing w B l v) : Kids w B l v := by
 obtain ⟨xs, ho, hx⟩ := h
 exact .l (by rw [expsD_len]; exact ho) (fun _ e => by cases e) (RepRow.noX hx)
theorem Growing.nil (w : World) (B : Nat) : Growing w B [] (.slice none 0 0) := ⟨[], World.ownsRow_nil w B _ _, .nil⟩
theorem Growing.kept {w w' : World} {B : Nat} {l : List Gram.Exp} {v : Value} {row : Option Nat} (hg : w.grownBy w' row) (hr : ∀ k, row = some k → k < B) (h : Growing w B l v) : Growing w' B l v := by
 obtain ⟨xs, ho, hx⟩ := h
 refine ⟨xs, ho.kept hg ?_, RepRow.keptX hg (fun k e => .inl (hr k e)) hx⟩
 cases hv : v.ownBlock with
 | none => exact .inl rfl
 | some k => exact .inr (fun e => by have h1 := (ho.lt k hv).1; have h2 := hr k e.symm; omega)
theorem Growing.lt {w : World} {B : Nat} {l : List Gram.Exp} {v : Value} (h : Growing w B l v) : ∀ k ∈ v.ownBlock.toList, k < w.heap.size := by
 obtain ⟨xs, ho, hx⟩ := h
 intro k hk
 exact (ho.lt k (by simpa using hk)).2
theorem Growing.keptB {w w' : World} {B : Nat} {l : List Gram.Exp} {v : Value} {b : Nat} (h : Growing w B l v) (hg : w.grownBy w' (some b)) (hb : b < B) : Growing w' B l v := Growing.kept hg (fun k e => by cases e; exact hb) h
theorem Growing.kept0 {w w' : World} {B : Nat} {l : List Gram.Exp} {v : Value} (h : Growing w B l v) (hg : w.grownBy w' none) : Growing w' B l v := Growing.kept hg (fun k e => by cases e) h
theorem Growing.mono {w : World} {B B' : Nat} {l : List Gram.Exp} {v : Value} (h : Growing w B l v) (hB : B' ≤ B) : Growing w B' l v := by
 obtain ⟨xs, ho, hx⟩ := h
 exact ⟨xs, ho.mono hB, RepRow.mono hB hx⟩
theorem Growing.form {w : World} {B : Nat} {l : List Gram.Exp} {v : Value} (h : Growing w B l v) : ∃ a n c, v = .slice a n c := Kids.form h.kids
theorem growing_snoc {w w' : World} {B : Nat} {l : List Gram.Exp} {v v' k : Value} {x : Gram.Exp} {xs : List Value} (hg : w.grownBy w' v.ownBlock) (ho : w'.ownsRow B 85 9 v' (l.length + 1) (xs ++ expCells x k)) (hx : RepRow w B v.ownBlock.toList (expsD l).flatten xs)
  (hk : KidsX w B v.ownBlock.toList x.kids k) (hv : v'.ownBlock = v.ownBlock ∨ v'.ownBlock = some w.heap.size) : Growing w' B (l ++ [x]) v' := by
 have ha := hx.append (exp_row hk)
 refine ⟨_, by simpa using ho, ?_⟩
 have e : (expsD (l ++ [x])).flatten = (expsD l).flatten ++ expD x := by rw [expsD_append]; simp [expsD]
 rw [e]
 rcases hv with hv | hv
 ·rw [hv]; exact RepRow.keptX hg (fun k e => .inr (by rw [e]; simp)) ha
 ·rw [hv]; exact RepRow.keptN hg (fun k e => .inr (by rw [e]; simp)) _ (fun k e => by simp at e; omega) ha
theorem infoE : (Tryz.prog.info? 85).map (fun i => (i.zero, i.size, i.bytes)) = some (some (.agg #[.int .i64 0, .int .i64 0, .string ⟨#[]⟩, .int .i64 0, .int .i64 0, .int .i64 0, .int .i64 0, .slice none 0 0, .int .i64 0]), 9, 96) := by kernel_rfl
theorem len_ownE {w : World} {base : Nat} {v : Value} {n : Nat} {xs : List Value} (h : w.ownsRow base 85 9 v n xs) (ty : TypeId) (wx : World) :
  (Builtin.len_ #[83] ty #[v]).run Tryz.prog wx = .ok (.int .i64 (n : Int)) wx := by
 rcases h.2 with ⟨rfl, rfl⟩ | ⟨g, cap, cur, rfl, _⟩
 ·simp [Builtin.len_, run_underlying Tryz.underlying83, goInt, Result.andThen]
 ·simp [Builtin.len_, run_underlying Tryz.underlying83, goInt, Result.andThen]
theorem cell_row_new (w : World) (cs : List Value) (t : TypeId) : ∀ j u, cs[j]? = some u → (w.alloc (.cells cs.toArray t)).cell? ((⟨w.heap.size, 0, none⟩ : Addr).add j) = some u := by
 intro j u hj
 have h := cell_of_row (w.alloc (.cells cs.toArray t)) w.heap.size j cs.toArray t (0, 0) (heap_alloc_new w _)
 have e : (⟨w.heap.size, 0, none⟩ : Addr).add j = ⟨w.heap.size, j, none⟩ := by
  simp only [Addr.add, Nat.zero_add]
  split
  ·next hj => rw [hj]
  ·rfl
 rw [e, h]; simpa using hj
theorem exp_one (x : Gram.Exp) (a : Option Addr) (n c : Nat) : ∀ u ∈ expCells x (.slice a n c), u.oneCell' = true := by
 cases x
 intro u hu
 simp only [expCells, List.mem_cons, List.not_mem_nil, or_false] at hu
 rcases hu with rfl | rfl | rfl | rfl | rfl | rfl | rfl | rfl | rfl <;> rfl
section
variable (b g cap : Nat) (rv : Value) (T : List Lex.Tk)
end
open Go.RowKit Go.Maps Go.WideMaps
def rxPost (w : World) (b g cap : Nat) (T : List Lex.Tk) (r : Option (List Gram.Exp × Gram.Rf.St)) (e : Ending) (w' : World) : Prop :=
 match r with
 | some x => ∃ v, e = .returned v ∧ Growing w' w.heap.size x.1 v ∧ Rp w' b g cap T x.2 ∧ w.grownBy w' (some b)
 | none => False
section
variable (b g cap : Nat) (T : List Lex.Tk)
theorem rexps_any (f : Nat) (hC : ∀ f', f' < f → CRex b g cap T 166 (Gram.Rf.exp T f')) (s : Gram.Rf.St) (w : World) (h : Rp w b g cap T s) (hf : (Gram.Rf.exps T f [] s).isSome = true) :
  Calls Tryz.prog 184 #[.pointer (some ⟨b, 0, none⟩), .int .i64 0] w fun e w' => rxPost w b g cap T (Gram.Rf.exps T f [] s) e w' := by
 obtain ⟨it, hit, hz, hsz, hby⟩ := infoP infoE
 have hbw := h.bl
 have HH := ld h
 clear h
 go_enter Tryz.func184, Tryz.ntmps184
 go_wp2
 go_loopg [5] f (fun (f' : Nat) (s5 : Value) (wr : World) => ∃ (acc : List Gram.Exp) (s' : Gram.Rf.St), f' ≤ f ∧ acc.length ≤ 16 ∧ Hid (Growing wr w.heap.size acc s5 ∧ Rp wr b g cap T s' ∧ w.grownBy wr (some b) ∧ Gram.Rf.exps T f' acc s' = Gram.Rf.exps T f [] s))
 case atStart => exact ⟨[], s, Nat.le_refl _, by simp, ld ⟨Growing.nil _ _, HH.out, World.grownBy.refl _ _, rfl⟩⟩
 case round =>
  obtain ⟨acc, s', hff, ha16, HG⟩ := hrel
  obtain ⟨hA, hP, hg, hL⟩ := HG.out
  clear HG
  rcases Nat.eq_zero_or_pos gk with hz0 | hz0
  ·rw [hz0] at hL; rw [← hL] at hf; exact absurd hf (by simp [Gram.Rf.exps])
  obtain ⟨f', hfe⟩ : ∃ f', gk = f' + 1 := ⟨gk - 1, by omega⟩
  subst hfe
  have hr : Gram.Rf.exps T f [] s = if s'.e = 0 then (if 16 ≤ acc.length then some (acc, Gram.Rf.fail T 2 s') else Gram.Rf.bindS (Gram.Rf.exp T f' s') fun x s => if Gram.Rf.is T [44] s then Gram.Rf.exps T f' (acc ++ [x]) (Gram.Rf.adv s) else some (acc ++ [x], s)) else some (acc, s') := by rw [← hL]; conv => lhs; unfold Gram.Rf.exps
  rw [hr] at hf
  have HR := ld hr
  clear hr hL
  have p2 := hP.st.c2
  obtain ⟨xs, hown, hrow⟩ := hA
  have hlf := fun ty wx => len_ownE hown ty wx
  have HA := ld (show Growing wr w.heap.size acc u5 from ⟨xs, hown, hrow⟩)
  have HO := ld hown
  clear hown hrow
  by_cases he : s'.e = 0
  ·have b0 : (s'.e == 0) = true := by rw [beq_iff_eq]; exact he
   have HE0 := ld he
   rw [if_pos he] at hf
   clear he
   generalize s'.e = e0 at p2 b0
   by_cases hm : 16 ≤ acc.length
   ·have hrm := rfull_yes b g cap T s' (acc.length : Int) 16 (by omega) wr hP
    have HM := ld hm
    clear hf hm
    go_wp2_with (go_at_call 65; refine hrm.mono ?_; rintro e w2 ⟨rfl, hP2, hg2⟩)
    go_ret
    rw [HR.out, if_pos HE0.out, if_pos HM.out]
    exact ⟨_, rfl, HA.out.keptB hg2 hbw, hP2, hg.trans hg2⟩
   ·rw [if_neg hm] at hf
    have hrm := fun wx => rfull_no b (acc.length : Int) 16 (by omega) wx
    have HM := ld hm
    clear hm
    cases hex : Gram.Rf.exp T f' s' with
    | none => rw [hex] at hf; cases hf
    | some r =>
     obtain ⟨x, s2⟩ := r
     have hc := hC f' (by omega) s' wr hP (by rw [hex]; rfl)
     cases x with
     | mk f1 s1 nm1 tk1 tl1 n1 m1 ks1 a1 =>
     simp only [hex, rePost, expV] at hc
     have HE : Hid (Gram.Rf.exps T f [] s = if Gram.Rf.is T [44] s2 then Gram.Rf.exps T f' (acc ++ [(.mk f1 s1 nm1 tk1 tl1 n1 m1 ks1 a1)]) (Gram.Rf.adv s2) else some (acc ++ [(.mk f1 s1 nm1 tk1 tl1 n1 m1 ks1 a1)], s2)) := by
      show _ = _
      rw [HR.out, if_pos HE0.out, if_neg HM.out, hex]
      rfl
     clear hf hex HR
     go_wp2_with (first | (go_at_call 65; refine (hrm _).mono ?_; rintro e w8 ⟨rfl, hw8⟩; rw [hw8]; clear hw8) | (go_at_call 166; refine hc.mono ?_; rintro e w2 ⟨k2, rfl, hk2, hP2, hg2⟩; refine Hid.out ?_))
     obtain ⟨ka, kn, kc, rfl⟩ := hk2.form
     obtain ⟨xs2, ho2, hr2⟩ := Growing.kept hg2 (fun k e => by cases e; exact hbw) HA.out
     have hl16 := HM.out
     have hszw := hg.size
     have hszA := hg2.size
     refine ld ?_
     go_wp2_with (at_builtin; refine wpList_append_own_at _ rfl _ _ 83 rfl w.heap.size 85 it _ 9 96 Tryz.underlying83 hit hz hsz hby rfl (by decide) _ acc.length xs2 rfl (ho2.alloc _) ⟨w2.heap.size, 0, none⟩ 1 1 (expCells (.mk f1 s1 nm1 tk1 tl1 n1 m1 ks1 a1) (.slice ka kn kc)) rfl rfl (cell_row_new w2 (expCells (.mk f1 s1 nm1 tk1 tl1 n1 m1 ks1 a1) (.slice ka kn kc)) 85) (exp_one _ _ _ _) ?_ ?_ ?_ ?_)
     ·unfold maxLen; omega
     ·omega
     ·simp only [World.size_alloc]; omega
     intro v' w3 hown' hgrow3 _ hvb
     have hG3 : Growing w3 w.heap.size (acc ++ [(.mk f1 s1 nm1 tk1 tl1 n1 m1 ks1 a1)]) v' := growing_snoc hgrow3 hown' (RepRow.keptX (ga w2 _ none) (fun k e => by cases e) hr2) (RepC.kept (ga w2 _ none) (fun k e => by cases e) (RepC.mono (by omega) (RepC.toX u5.ownBlock.toList (fun k e => .inr (by have := HA.out.lt k e; omega)) hk2))) (by rw [World.size_alloc]; exact hvb)
     have hg3 : w.grownBy w3 (some b) := (galloc (hg.trans hg2) _).andThen hgrow3 (fun j e => .inl (ho2.lt j e).1)
     have hP3 : Rp w3 b g cap T s2 := HH.out.to hg3 ((hP2.st.kept (ga w2 _ none) (by simp)).kept hgrow3 (by intro e; have := ho2.lt b (by first | exact e | exact e.symm); omega)) hP2.lt
     have HG3 := ld hG3
     clear hG3 hown' hvb
     have hS := rmaybe_any b g cap T s2 ⟨#[44]⟩ w3 hP3
     unfold Gram.Rf.maybe at hS
     rw [show ((⟨#[44]⟩ : ByteArray)).data.toList = [44] from rfl] at hS
     cases hsx : Gram.Rf.is T [44] s2 with
     | true =>
      rw [hsx, if_pos rfl] at hS
      go_wp2_with (go_at_call 102; refine hS.mono ?_; rintro e w4 ⟨rfl, hP4, hg4⟩)
      go_roundg f'
      case measure => exact Nat.lt_succ_self _
      case rel => exact ⟨acc ++ [(.mk f1 s1 nm1 tk1 tl1 n1 m1 ks1 a1)], Gram.Rf.adv s2, by omega, by simp; omega, ld ⟨Growing.kept hg4 (fun k e => by cases e; exact hbw) HG3.out, hP4, hg3.trans hg4, by rw [HE.out, if_pos hsx]⟩⟩
     | false =>
      rw [hsx, if_neg (by decide)] at hS
      go_wp2_with (go_at_call 102; refine hS.mono ?_; rintro e w4 ⟨rfl, hP4, hg4⟩)
      go_ret
      rw [HE.out, if_neg (by rw [hsx]; decide)]
      exact ⟨_, rfl, Growing.kept hg4 (fun k e => by cases e; exact hbw) HG3.out, hP4, hg3.trans hg4⟩
  ·have b0 : (s'.e == 0) = false := by rw [beq_eq_false_iff_ne]; exact he
   have HE0 := ld he
   clear he hf
   generalize s'.e = e0 at p2 b0
   go_wp2
   go_ret
   rw [HR.out, if_neg HE0.out]
   exact ⟨_, rfl, HA.out, hP, hg⟩
theorem rcall_step (f : Nat) (hC : ∀ f', f' < f → CRex b g cap T 166 (Gram.Rf.exp T f')) (s : Gram.Rf.St) (w : World) (h : Rp w b g cap T s) (hf : (Gram.Rf.call T (f + 1) s).isSome = true) :
  Calls Tryz.prog 183 #[.pointer (some ⟨b, 0, none⟩)] w fun e w' => rxPost w b g cap T (Gram.Rf.call T (f + 1) s) e w' := by
 have hbw := h.bl
 rw [Gram.Rf.call] at hf ⊢
 have hA := rtake_any b g cap T s ⟨#[40]⟩ w h
 rw [show ((⟨#[40]⟩ : ByteArray)).data.toList = [40] from rfl] at hA
 generalize Gram.Rf.take T [40] s = s1 at *
 clear h
 cases hq : Gram.Rf.is T [41] s1 with
 | true =>
  rw [hq] at hf
  rw [if_pos rfl] at hf ⊢
  clear hf
  go_enter Tryz.func183, Tryz.ntmps183
  go_wp2_with (go_at_call 99; refine hA.mono ?_; rintro e w1 ⟨rfl, hP1, hg1⟩; refine Hid.out ?_)
  have hI := ris_any b g cap T s1 ⟨#[41]⟩ w1 hP1
  rw [show ((⟨#[41]⟩ : ByteArray)).data.toList = [41] from rfl, hq] at hI
  have HB := ld (fun wx (hx : w1.grownBy wx none) => rtake_any b g cap T s1 ⟨#[41]⟩ wx (hP1.kept hx))
  refine ld ?_
  go_wp2_with (first | (go_at_call 63; refine hI.mono ?_; rintro e w2 ⟨rfl, hg2⟩) | (go_at_call 99; refine (HB.out _ hg2).mono ?_; rintro e w3 ⟨rfl, hP3, hg3⟩))
  go_ret
  exact ⟨_, rfl, Growing.nil _ _, hP3, (hg1.trans (grown_some hg2 b)).trans hg3⟩
 | false =>
  rw [hq] at hf
  rw [if_neg (by decide)] at hf ⊢
  cases hex : Gram.Rf.exps T f [] s1 with
  | none => rw [hex] at hf; cases hf
  | some r =>
   obtain ⟨l, s2⟩ := r
   simp only [Gram.Rf.bindS]
   clear hf
   go_enter Tryz.func183, Tryz.ntmps183
   go_wp2_with (go_at_call 99; refine hA.mono ?_; rintro e w1 ⟨rfl, hP1, hg1⟩; refine Hid.out ?_)
   have hI := ris_any b g cap T s1 ⟨#[41]⟩ w1 hP1
   rw [show ((⟨#[41]⟩ : ByteArray)).data.toList = [41] from rfl, hq] at hI
   have HX : Hid (∀ wx, w1.grownBy wx none → Calls Tryz.prog 184 #[.pointer (some ⟨b, 0, none⟩), .int .i64 0] wx fun e w' => rxPost wx b g cap T (some (l, s2)) e w') := ld (fun wx hx => by
    have := rexps_any b g cap T f hC s1 wx (hP1.kept hx) (by rw [hex]; rfl)
    rw [hex] at this
    exact this)
   clear hex
   refine ld ?_
   go_wp2_with (first | (go_at_call 63; refine hI.mono ?_; rintro e w2 ⟨rfl, hg2⟩) | (go_at_call 184; refine (HX.out _ hg2).mono ?_; rintro e w3 ⟨v, rfl, hk3, hP3, hg3⟩; refine Hid.out ?_))
   have hB := rtake_any b g cap T s2 ⟨#[41]⟩ w3 hP3
   have hs1 := hg1.size
   have hs2 := hg2.size
   refine ld ?_
   go_wp2_with (go_at_call 99; refine hB.mono ?_; rintro e w4 ⟨rfl, hP4, hg4⟩)
   go_ret
   exact ⟨_, rfl, (hk3.keptB hg4 (by have := hP1.bl; omega)).mono (by omega), hP4, ((hg1.trans (grown_some hg2 b)).trans hg3).trans hg4⟩
end
section
variable (b g cap : Nat) (T : List Lex.Tk)
theorem sgOn {w0 W W' : World} {P : Nat} {x y z : Value} (h : W.cell? ⟨P, 2, none⟩ = some x ∧ W.cell? ⟨P, 3, none⟩ = some y ∧ W.cell? ⟨P, 4, none⟩ = some z ∧ w0.grownBy W none) (hg : W.grownBy W' none) : W'.cell? ⟨P, 2, none⟩ = some x ∧ W'.cell? ⟨P, 3, none⟩ = some y ∧ W'.cell? ⟨P, 4, none⟩ = some z ∧ w0.grownBy W' none :=
 ⟨hg.cell h.1 (by simp), hg.cell h.2.1 (by simp), hg.cell h.2.2.1 (by simp), h.2.2.2.trans hg⟩
theorem sgDrew {w0 W : World} {P : Nat} {x y z : Value} (h : W.cell? ⟨P, 2, none⟩ = some x ∧ W.cell? ⟨P, 3, none⟩ = some y ∧ W.cell? ⟨P, 4, none⟩ = some z ∧ w0.grownBy W none) : W.drew.cell? ⟨P, 2, none⟩ = some x ∧ W.drew.cell? ⟨P, 3, none⟩ = some y ∧ W.drew.cell? ⟨P, 4, none⟩ = some z ∧ w0.grownBy W.drew none := sgOn h (gdrew (World.grownBy.refl _ _))
theorem rsigned_step (f : Nat) (h1 : CRex b g cap T 178 (Gram.Rf.unary T f)) (h2 : CRex b g cap T 182 (Gram.Rf.prim T f)) : CRex b g cap T 180 (Gram.Rf.signed T (f + 1)) := by
 intro s w h hf
 have hP0 := h.alloc exp0
 have hbw := h.bl
 have hm := h.toks.most
 have HH := ld h
 rw [Gram.Rf.signed] at hf ⊢
 cases hqn : Gram.Rf.is T [110, 111, 116] s with
 | true =>
  rw [hqn] at hf
  rw [if_pos rfl] at hf ⊢
  clear h
  cases hr : Gram.Rf.unary T f (Gram.Rf.adv s) with
  | none => rw [hr] at hf; cases hf
  | some r =>
   obtain ⟨x, s2⟩ := r
   simp only [Gram.Rf.bindS]
   cases x with
   | mk f1 s1' nm1 tk1 tl1 n1 m1 ks1 a1 =>
   clear hf
   have hn := rtok_any b g cap T s (w.alloc exp0) hP0
   have hfA := fldAt (Gram.tk T s.i)
   generalize Gram.tk T s.i = y at *
   go_enter Tryz.func180, Tryz.ntmps180
   go_wp2_with (go_at_call 62; refine hn.mono ?_; rintro e w1 ⟨rfl, hg1⟩; refine Hid.out ?_)
   have hP1 := hP0.kept hg1
   have hgw1 : (w.alloc exp0).grownBy w1 (some b) := grown_some hg1 b
   have hM1t := rmaybe_any b g cap T s ⟨#[110, 111, 116]⟩ w1 hP1
   unfold Gram.Rf.maybe at hM1t
   rw [show ((⟨#[110, 111, 116]⟩ : ByteArray)).data.toList = [110, 111, 116] from rfl] at hM1t
   rw [hqn, if_pos rfl] at hM1t
   refine ld ?_
   go_wp2_with (go_at_call 102; refine hM1t.mono ?_; rintro e w2 ⟨rfl, hP2, hgw2⟩; refine Hid.out ?_)
   have hgw2 := hgw1.trans hgw2
   have hc := h1 _ w2 hP2
   rw [hr] at hc
   have hc2 := hc rfl
   simp only [rePost, expV] at hc2
   have hsa := hgw2.size
   rw [World.size_alloc] at hsa
   refine ld ?_
   go_wp2_with (go_at_call 178; refine hc2.mono ?_; rintro e w5 ⟨k1, rfl, hk1, hP5, hg5⟩; refine Hid.out ?_)
   obtain ⟨ka, kn, kc, rfl⟩ := hk1.form
   have hs5 := hg5.size
   refine ld ?_
   go_wp2_with (with_reducible refine hold_st 2 ?_)
   obtain ⟨W, hW⟩ : ∃ W, W = w5.alloc (.cells #[.int .i64 f1, .int .i64 s1', .string ⟨nm1.toArray⟩, .int .i64 tk1, .int .i64 tl1, .int .i64 n1, .int .i64 m1, .slice ka kn kc, .int .i64 a1] 85) := ⟨_, rfl⟩
   have hgW : w5.grownBy W none := by rw [hW]; exact ga w5 _ none
   have hoW : W.ownsRow (w.heap.size + 1) 85 9 (.slice (some ⟨w5.heap.size, 0, none⟩) 1 1) 1 (expCells (.mk f1 s1' nm1 tk1 tl1 n1 m1 ks1 a1) (.slice ka kn kc)) := by rw [hW]; exact owns_new (w := w5) 85 9 1 (expCells (.mk f1 s1' nm1 tk1 tl1 n1 m1 ks1 a1) (.slice ka kn kc)) (by omega) rfl (by unfold maxLen; omega)
   rw [← hW]
   clear hW
   have hgX : (w.alloc exp0).grownBy W (some b) := (hgw2.trans hg5).trans (grown_some hgW b)
   have hKx : Kids W (w.heap.size + 1) [(.mk f1 s1' nm1 tk1 tl1 n1 m1 ks1 a1)] (.slice (some ⟨w5.heap.size, 0, none⟩) 1 1) := KidsX.one' hoW (fun k e => by cases e) (RepC.kept hgW (fun k e => by cases e) (RepC.mono (by omega) hk1))
   refine wpList_store_gen rfl _ _ _ rfl w.heap.size #[.int .i64 3, .int .i64 1, .string ⟨#[]⟩, .int .i64 0, .int .i64 0, .int .i64 0, .int .i64 0, .slice (some ⟨w5.heap.size, 0, none⟩) 1 1, .int .i64 (y.at_ : Int)] rfl rfl 85 _ ((hgX.block w.heap.size (by simp) (by simp; omega)).trans (heap_alloc_new w exp0)) (by kernel_rfl) rfl (by simp [Value.oneCell']) ?_
   intro w6 hh6 hg6
   go_wp2
   (try simp only [Exit.inBlock, Exit.then])
   refine br hh6 Tryz.underlying85 ?_
   have hG : w.grownBy w6 (some b) := ((grown_some (ga w exp0 none) b).trans hgX).andThen hg6 (fun j e => .inl (by cases e; exact Nat.le_refl _))
   exact ⟨_, rfl, RepC.mono (by omega) (RepC.kept hg6 (fun k e => by cases e; omega) hKx), HH.out.to hG ((hP5.kept hgW).st.kept hg6 (by simp; omega)) hP5.lt, hG⟩
 | false =>
 rw [hqn] at hf
 rw [if_neg (by decide)] at hf ⊢
 cases hqp : Gram.Rf.is T [112, 114, 101] s with
 | true =>
  rw [hqp] at hf
  rw [if_pos rfl] at hf ⊢
  clear h
  cases hr : Gram.Rf.unary T f (Gram.Rf.adv s) with
  | none => rw [hr] at hf; cases hf
  | some r =>
   obtain ⟨x, s2⟩ := r
   simp only [Gram.Rf.bindS]
   cases x with
   | mk f1 s1' nm1 tk1 tl1 n1 m1 ks1 a1 =>
   clear hf
   have hn := rtok_any b g cap T s (w.alloc exp0) hP0
   have hfA := fldAt (Gram.tk T s.i)
   generalize Gram.tk T s.i = y at *
   go_enter Tryz.func180, Tryz.ntmps180
   go_wp2_with (go_at_call 62; refine hn.mono ?_; rintro e w1 ⟨rfl, hg1⟩; refine Hid.out ?_)
   have hP1 := hP0.kept hg1
   have hgw1 : (w.alloc exp0).grownBy w1 (some b) := grown_some hg1 b
   have hM1f := rmaybe_any b g cap T s ⟨#[110, 111, 116]⟩ w1 hP1
   unfold Gram.Rf.maybe at hM1f
   rw [show ((⟨#[110, 111, 116]⟩ : ByteArray)).data.toList = [110, 111, 116] from rfl] at hM1f
   rw [hqn, if_neg (by decide)] at hM1f
   refine ld ?_
   go_wp2_with (go_at_call 102; refine hM1f.mono ?_; rintro e w2 ⟨rfl, hP2, hgw2⟩; refine Hid.out ?_)
   have hgw2 := hgw1.trans hgw2
   have hM2t := rmaybe_any b g cap T s ⟨#[112, 114, 101]⟩ w2 hP2
   unfold Gram.Rf.maybe at hM2t
   rw [show ((⟨#[112, 114, 101]⟩ : ByteArray)).data.toList = [112, 114, 101] from rfl] at hM2t
   rw [hqp, if_pos rfl] at hM2t
   refine ld ?_
   go_wp2_with (go_at_call 102; refine hM2t.mono ?_; rintro e w3 ⟨rfl, hP3, hgw3⟩; refine Hid.out ?_)
   have hgw3 := hgw2.trans hgw3
   have hc := h1 _ w3 hP3
   rw [hr] at hc
   have hc2 := hc rfl
   simp only [rePost, expV] at hc2
   have hsa := hgw3.size
   rw [World.size_alloc] at hsa
   refine ld ?_
   go_wp2_with (go_at_call 178; refine hc2.mono ?_; rintro e w5 ⟨k1, rfl, hk1, hP5, hg5⟩; refine Hid.out ?_)
   obtain ⟨ka, kn, kc, rfl⟩ := hk1.form
   have hs5 := hg5.size
   refine ld ?_
   go_wp2_with (with_reducible refine hold_st 2 ?_)
   obtain ⟨W, hW⟩ : ∃ W, W = w5.alloc (.cells #[.int .i64 f1, .int .i64 s1', .string ⟨nm1.toArray⟩, .int .i64 tk1, .int .i64 tl1, .int .i64 n1, .int .i64 m1, .slice ka kn kc, .int .i64 a1] 85) := ⟨_, rfl⟩
   have hgW : w5.grownBy W none := by rw [hW]; exact ga w5 _ none
   have hoW : W.ownsRow (w.heap.size + 1) 85 9 (.slice (some ⟨w5.heap.size, 0, none⟩) 1 1) 1 (expCells (.mk f1 s1' nm1 tk1 tl1 n1 m1 ks1 a1) (.slice ka kn kc)) := by rw [hW]; exact owns_new (w := w5) 85 9 1 (expCells (.mk f1 s1' nm1 tk1 tl1 n1 m1 ks1 a1) (.slice ka kn kc)) (by omega) rfl (by unfold maxLen; omega)
   rw [← hW]
   clear hW
   have hgX : (w.alloc exp0).grownBy W (some b) := (hgw3.trans hg5).trans (grown_some hgW b)
   have hKx : Kids W (w.heap.size + 1) [(.mk f1 s1' nm1 tk1 tl1 n1 m1 ks1 a1)] (.slice (some ⟨w5.heap.size, 0, none⟩) 1 1) := KidsX.one' hoW (fun k e => by cases e) (RepC.kept hgW (fun k e => by cases e) (RepC.mono (by omega) hk1))
   refine wpList_store_gen rfl _ _ _ rfl w.heap.size #[.int .i64 6, .int .i64 0, .string ⟨#[]⟩, .int .i64 0, .int .i64 0, .int .i64 0, .int .i64 0, .slice (some ⟨w5.heap.size, 0, none⟩) 1 1, .int .i64 (y.at_ : Int)] rfl rfl 85 _ ((hgX.block w.heap.size (by simp) (by simp; omega)).trans (heap_alloc_new w exp0)) (by kernel_rfl) rfl (by simp [Value.oneCell']) ?_
   intro w6 hh6 hg6
   go_wp2
   (try simp only [Exit.inBlock, Exit.then])
   refine br hh6 Tryz.underlying85 ?_
   have hG : w.grownBy w6 (some b) := ((grown_some (ga w exp0 none) b).trans hgX).andThen hg6 (fun j e => .inl (by cases e; exact Nat.le_refl _))
   exact ⟨_, rfl, RepC.mono (by omega) (RepC.kept hg6 (fun k e => by cases e; omega) hKx), HH.out.to hG ((hP5.kept hgW).st.kept hg6 (by simp; omega)) hP5.lt, hG⟩
 | false =>
 rw [hqp] at hf
 rw [if_neg (by decide)] at hf ⊢
 cases hqm : Gram.Rf.is T [45] s with
 | true =>
  rw [hqm] at hf
  rw [if_pos rfl] at hf ⊢
  have hi1 := h.nextIs hqm
  have he0 := (is_kind hqm).1
  clear h
  by_cases hv : (Gram.tk T (s.i + 1)).kind = 2 ∧ 0 < (Gram.tk T (s.i + 1)).t
  ·rw [if_pos hv] at hf ⊢
   cases hr : Gram.Rf.indexed T f (.mk 1 0 [] (Gram.tk T (s.i + 1)).t 0 (Bv.wrp (Gram.tk T (s.i + 1)).t (wrap64 (-(Gram.tk T (s.i + 1)).n))) 0 [] ((Gram.tk T s.i).at_ : Int)) (Gram.Rf.adv (Gram.Rf.adv s)) with
   | none => rw [hr] at hf; cases hf
   | some r =>
    obtain ⟨z, s3⟩ := r
    cases z with
    | mk f1 s1' nm1 tk1 tl1 n1 m1 ks1 a1 =>
    have hi2 : s.i + 1 + 1 < T.length := HH.out.toks.last (s.i + 1) hi1 (.inl (by rw [hv.1]; decide))
    have hci : ∀ wx B, B ≤ wx.heap.size → b < B → Rp wx b g cap T (Gram.Rf.adv (Gram.Rf.adv s)) → Calls Tryz.prog 181 #[.pointer (some ⟨b, 0, none⟩), expV (.mk 1 0 [] (Gram.tk T (s.i + 1)).t 0 (Bv.wrp (Gram.tk T (s.i + 1)).t (wrap64 (-(Gram.tk T (s.i + 1)).n))) 0 [] ((Gram.tk T s.i).at_ : Int)) (.slice none 0 0)] wx fun e w' => rePostB wx B b g cap T (some (.mk f1 s1' nm1 tk1 tl1 n1 m1 ks1 a1, s3)) e w' := fun wx B hB hbB hx => by
     have := rindexed_any b g cap T f B _ (.slice none 0 0) _ wx hB hbB hx (Kids.nil _ _) (by rw [hr]; rfl)
     rw [hr] at this
     exact this
    clear hf hr
    simp only [rePostB, expV] at hci
    have hn2 := fun (wx : World) (hx : Rp wx b g cap T (Gram.Rf.adv s)) => rtok_any b g cap T (Gram.Rf.adv s) wx hx
    rw [show (Gram.Rf.adv s).i = s.i + 1 from rfl] at hn2
    have hadv0 : (Gram.Rf.adv s).e = 0 := he0
    generalize Gram.tk T (s.i + 1) = u at hn2 hci hv
    obtain ⟨uk, ut, un, uu, ua⟩ := u
    simp only [tokV] at hn2 hci hv
    have hk2 : (uk == 2) = true := by rw [beq_iff_eq]; exact hv.1
    have ht2 : decide (0 < uu) = true := by rw [decide_eq_true_iff]; exact hv.2
    clear hv
    have hn := rtok_any b g cap T s (w.alloc exp0) hP0
    have hfA := fldAt (Gram.tk T s.i)
    generalize Gram.tk T s.i = y at *
    go_enter Tryz.func180, Tryz.ntmps180
    go_wp2_with (go_at_call 62; refine hn.mono ?_; rintro e w1 ⟨rfl, hg1⟩; refine Hid.out ?_)
    have hP1 := hP0.kept hg1
    have hgw1 : (w.alloc exp0).grownBy w1 (some b) := grown_some hg1 b
    have hM1f := rmaybe_any b g cap T s ⟨#[110, 111, 116]⟩ w1 hP1
    unfold Gram.Rf.maybe at hM1f
    rw [show ((⟨#[110, 111, 116]⟩ : ByteArray)).data.toList = [110, 111, 116] from rfl] at hM1f
    rw [hqn, if_neg (by decide)] at hM1f
    refine ld ?_
    go_wp2_with (go_at_call 102; refine hM1f.mono ?_; rintro e w2 ⟨rfl, hP2, hgw2⟩; refine Hid.out ?_)
    have hgw2 := hgw1.trans hgw2
    have hM2f := rmaybe_any b g cap T s ⟨#[112, 114, 101]⟩ w2 hP2
    unfold Gram.Rf.maybe at hM2f
    rw [show ((⟨#[112, 114, 101]⟩ : ByteArray)).data.toList = [112, 114, 101] from rfl] at hM2f
    rw [hqp, if_neg (by decide)] at hM2f
    refine ld ?_
    go_wp2_with (go_at_call 102; refine hM2f.mono ?_; rintro e w3 ⟨rfl, hP3, hgw3⟩; refine Hid.out ?_)
    have hgw3 := hgw2.trans hgw3
    have hM3t := rmaybe_any b g cap T s ⟨#[45]⟩ w3 hP3
    unfold Gram.Rf.maybe at hM3t
    rw [show ((⟨#[45]⟩ : ByteArray)).data.toList = [45] from rfl] at hM3t
    rw [hqm, if_pos rfl] at hM3t
    refine ld ?_
    go_wp2_with (go_at_call 102; refine hM3t.mono ?_; rintro e w4 ⟨rfl, hP4, hgw4⟩; refine Hid.out ?_)
    have hgw4 := hgw3.trans hgw4
    have hn3 := hn2 w4 hP4
    clear hn2
    refine ld ?_
    go_wp2_with (go_at_call 62; refine hn3.mono ?_; rintro e w7 ⟨rfl, hg7⟩; refine Hid.out ?_)
    have hP7 := hP4.kept hg7
    have p1 := hP7.st.c1
    have p2 := hP7.st.c2
    have f1x := hP7.st.fr 1
    rw [hadv0] at p2
    have hb7 := hP7.bl
    have n7 : ¬ b = w7.heap.size := by omega
    have hR := radv_t hP7 hi2 (.cells #[.int .i64 uk, .string ⟨ut.toArray⟩, .int .i64 un, .int .i64 uu, .int .i64 0, .int .i64 (ua : Int)] 108)
    have hgW := (hgw4.trans (grown_some hg7 b)).trans hR.2
    have hPW := hR.1
    rw [show ((Gram.Rf.adv s).i : Int) = ((s.i + 1 : Nat) : Int) from rfl] at hgW hPW p1
    obtain ⟨iz, hiz⟩ : ∃ iz : Int, iz = ((s.i + 1 : Nat) : Int) := ⟨_, rfl⟩
    have hiz2 : 0 ≤ iz ∧ iz ≤ 20000 := by omega
    rw [← hiz] at hgW hPW p1
    have hsR : w7.heap.size = (w7.setCell ⟨b, 1, none⟩ (.int .i64 (iz + 1))).heap.size := by simp [World.setCell]
    have HsR := ld hsR
    clear hR hiz hsR
    refine ld ?_
    go_wp2
    obtain ⟨W, hW⟩ : ∃ W, W = (w7.setCell ⟨b, 1, none⟩ (.int .i64 (iz + 1))).alloc (.cells #[.int .i64 uk, .string ⟨ut.toArray⟩, .int .i64 un, .int .i64 uu, .int .i64 0, .int .i64 (ua : Int)] 108) := ⟨_, rfl⟩
    have hS : W.cell? ⟨w7.heap.size, 2, none⟩ = some (.int .i64 un) ∧ W.cell? ⟨w7.heap.size, 3, none⟩ = some (.int .i64 uu) ∧ W.cell? ⟨w7.heap.size, 4, none⟩ = some (.int .i64 0) ∧ W.grownBy W none := by
     rw [hW]
     have e := heap_alloc_new (w7.setCell ⟨b, 1, none⟩ (.int .i64 (iz + 1))) (.cells #[.int .i64 uk, .string ⟨ut.toArray⟩, .int .i64 un, .int .i64 uu, .int .i64 0, .int .i64 (ua : Int)] 108)
     rw [← HsR.out] at e
     exact ⟨cell_of_row _ _ 2 _ _ _ e, cell_of_row _ _ 3 _ _ _ e, cell_of_row _ _ 4 _ _ _ e, World.grownBy.refl _ _⟩
    rw [← hW] at hgW hPW ⊢
    clear hW
    obtain ⟨P, hPP⟩ : ∃ P, P = w7.heap.size := ⟨_, rfl⟩
    rw [← hPP] at hS ⊢
    have HS2 := ld hS
    clear hPP
    go_region_held3 (fun V => V.cell? ⟨P, 2, none⟩ = some (.int .i64 un) ∧ V.cell? ⟨P, 3, none⟩ = some (.int .i64 uu) ∧ V.cell? ⟨P, 4, none⟩ = some (.int .i64 0) ∧ W.grownBy V none) (first | exact hS | exact sgDrew hS | exact sgOn hS (ga _ _ none) | exact sgOn (sgDrew hS) (ga _ _ none))
     (first | (go_at_call 131; refine (rwrap_any _ _ _).mono ?_; rintro e w8 ⟨rfl, rfl⟩))
    all_goals
     (rw [show IntKind.i64.wrap (-un) = wrap64 (-un) from by rw [IntKind.wrap_i64]; first | rfl | (unfold wrap64; omega)]
      clear hS
      obtain ⟨W8, hW8⟩ : ∃ W8, W8 = (W.alloc (.cells #[.int .i64 1, .int .i64 0, .string ⟨#[]⟩, .int .i64 uu, .int .i64 0, .int .i64 (Bv.wrp uu (wrap64 (-un))), .int .i64 0, .slice none 0 0, .int .i64 (y.at_ : Int)] 85)).drew := ⟨_, rfl⟩
      have hg8 : W.grownBy W8 none := by rw [hW8]; exact gdrew (ga W _ none)
      have hh8 : W8.heap[W.heap.size]? = some (.cells #[.int .i64 1, .int .i64 0, .string ⟨#[]⟩, .int .i64 uu, .int .i64 0, .int .i64 (Bv.wrp uu (wrap64 (-un))), .int .i64 0, .slice none 0 0, .int .i64 (y.at_ : Int)] 85 (0, 0)) := by rw [hW8]; exact heap_alloc_new W _
      rw [← hW8]
      clear hW8
      obtain ⟨c0, c1, c2, c3, c4, c5, c6, c7, c8, cf⟩ := Nc.of hh8
      have hsW := hgW.size
      rw [World.size_alloc] at hsW
      have hs8 := hg8.size
      have hci2 := hci W8 (w.heap.size + 1) (by omega) (by omega) (hPW.kept hg8)
      have HgW := ld hgW
      have Hg8 := ld hg8
      clear hci
      go_wp2_with (go_at_call 181; refine hci2.mono ?_; rintro e w9 ⟨k2, rfl, hk2, hP9, hg9⟩; refine Hid.out ?_)
      obtain ⟨ka, kn, kc, rfl⟩ := hk2.form
      have hgX : (w.alloc exp0).grownBy w9 (some b) := (HgW.out.trans (grown_some Hg8.out b)).trans hg9
      refine ld ?_
      go_wp2_with (with_reducible refine hold_st 2 ?_)
      refine sg ((hgX.block w.heap.size (by simp) (by simp; omega)).trans (heap_alloc_new w exp0)) ?_
      intro w10 hh10 hg10
      go_wp2
      (try simp only [Exit.inBlock, Exit.then])
      refine br hh10 Tryz.underlying85 ?_
      have hG : w.grownBy w10 (some b) := ((grown_some (ga w exp0 none) b).trans hgX).andThen hg10 (fun j e => .inl (by cases e; exact Nat.le_refl _))
      exact ⟨_, rfl, RepC.mono (by omega) (RepC.kept hg10 (fun k e => by cases e; omega) hk2), HH.out.to hG (hP9.st.kept hg10 (by simp; omega)) hP9.lt, hG⟩)
  ·rw [if_neg hv] at hf ⊢
   cases hr : Gram.Rf.unary T f (Gram.Rf.adv s) with
   | none => rw [hr] at hf; cases hf
   | some r =>
    obtain ⟨x, s2⟩ := r
    simp only [Gram.Rf.bindS]
    cases x with
    | mk f1 s1' nm1 tk1 tl1 n1 m1 ks1 a1 =>
    clear hf
    have hn2 := fun (wx : World) (hx : Rp wx b g cap T (Gram.Rf.adv s)) => rtok_any b g cap T (Gram.Rf.adv s) wx hx
    have hvx : ∀ u : Lex.Tk, u = Gram.tk T (s.i + 1) → ¬ (u.kind = 2 ∧ 0 < u.t) := fun u e => by rw [e]; exact hv
    rw [show (Gram.Rf.adv s).i = s.i + 1 from rfl] at hn2
    have hadv0 : (Gram.Rf.adv s).e = 0 := he0
    clear hv
    have hn := rtok_any b g cap T s (w.alloc exp0) hP0
    have hfA := fldAt (Gram.tk T s.i)
    generalize Gram.tk T s.i = y at *
    go_enter Tryz.func180, Tryz.ntmps180
    go_wp2_with (go_at_call 62; refine hn.mono ?_; rintro e w1 ⟨rfl, hg1⟩; refine Hid.out ?_)
    have hP1 := hP0.kept hg1
    have hgw1 : (w.alloc exp0).grownBy w1 (some b) := grown_some hg1 b
    have hM1f := rmaybe_any b g cap T s ⟨#[110, 111, 116]⟩ w1 hP1
    unfold Gram.Rf.maybe at hM1f
    rw [show ((⟨#[110, 111, 116]⟩ : ByteArray)).data.toList = [110, 111, 116] from rfl] at hM1f
    rw [hqn, if_neg (by decide)] at hM1f
    refine ld ?_
    go_wp2_with (go_at_call 102; refine hM1f.mono ?_; rintro e w2 ⟨rfl, hP2, hgw2⟩; refine Hid.out ?_)
    have hgw2 := hgw1.trans hgw2
    have hM2f := rmaybe_any b g cap T s ⟨#[112, 114, 101]⟩ w2 hP2
    unfold Gram.Rf.maybe at hM2f
    rw [show ((⟨#[112, 114, 101]⟩ : ByteArray)).data.toList = [112, 114, 101] from rfl] at hM2f
    rw [hqp, if_neg (by decide)] at hM2f
    refine ld ?_
    go_wp2_with (go_at_call 102; refine hM2f.mono ?_; rintro e w3 ⟨rfl, hP3, hgw3⟩; refine Hid.out ?_)
    have hgw3 := hgw2.trans hgw3
    have hM3t := rmaybe_any b g cap T s ⟨#[45]⟩ w3 hP3
    unfold Gram.Rf.maybe at hM3t
    rw [show ((⟨#[45]⟩ : ByteArray)).data.toList = [45] from rfl] at hM3t
    rw [hqm, if_pos rfl] at hM3t
    refine ld ?_
    go_wp2_with (go_at_call 102; refine hM3t.mono ?_; rintro e w4 ⟨rfl, hP4, hgw4⟩; refine Hid.out ?_)
    have hgw4 := hgw3.trans hgw4
    have hn3 := hn2 w4 hP4
    have hnn := hvx _ rfl
    generalize Gram.tk T (s.i + 1) = u at hn3 hnn
    clear hn2 hvx
    simp only [tokV] at hn3
    refine ld ?_
    go_wp2_with (go_at_call 62; refine hn3.mono ?_; rintro e w7 ⟨rfl, hg7⟩; refine Hid.out ?_)
    have hP7 := hP4.kept hg7
    have p2 := hP7.st.c2
    rw [hadv0] at p2
    have hb7 := hP7.bl
    have n7 : ¬ b = w7.heap.size := by omega
    have hPu := hP7.alloc (.cells #[.int .i64 u.kind, .string ⟨u.text.toArray⟩, .int .i64 u.n, .int .i64 u.t, .int .i64 0, .int .i64 (u.at_ : Int)] 108)
    have hgu : (w.alloc exp0).grownBy (w7.alloc (.cells #[.int .i64 u.kind, .string ⟨u.text.toArray⟩, .int .i64 u.n, .int .i64 u.t, .int .i64 0, .int .i64 (u.at_ : Int)] 108)) (some b) := galloc (hgw4.trans (grown_some hg7 b)) _
    have hcond : ((u.kind == 2) = false) ∨ ((u.kind == 2) = true ∧ decide (0 < u.t) = false) := by
     by_cases h3 : u.kind = 2
     · exact .inr ⟨by rw [beq_iff_eq]; exact h3, by rw [decide_eq_false_iff_not]; exact fun h4 => hnn ⟨h3, h4⟩⟩
     · exact .inl (by rw [beq_eq_false_iff_ne]; exact h3)
    clear hnn
    obtain ⟨uk, ut, un, uu, ua⟩ := u
    simp only at *
    rcases hcond with hk2 | ⟨hk2, ht2⟩
    ·have hc := h1 _ _ hPu
     rw [hr] at hc
     have hc2 := hc rfl
     simp only [rePost, expV] at hc2
     have hsa := hgu.size
     rw [World.size_alloc] at hsa
     refine ld ?_
     go_wp2_with (go_at_call 178; refine hc2.mono ?_; rintro e w5 ⟨k1, rfl, hk1, hP5, hg5⟩; refine Hid.out ?_)
     obtain ⟨ka, kn, kc, rfl⟩ := hk1.form
     have hs5 := hg5.size
     refine ld ?_
     go_wp2_with (with_reducible refine hold_st 2 ?_)
     obtain ⟨W, hW⟩ : ∃ W, W = w5.alloc (.cells #[.int .i64 f1, .int .i64 s1', .string ⟨nm1.toArray⟩, .int .i64 tk1, .int .i64 tl1, .int .i64 n1, .int .i64 m1, .slice ka kn kc, .int .i64 a1] 85) := ⟨_, rfl⟩
     have hgW : w5.grownBy W none := by rw [hW]; exact ga w5 _ none
     have hoW : W.ownsRow (w.heap.size + 1) 85 9 (.slice (some ⟨w5.heap.size, 0, none⟩) 1 1) 1 (expCells (.mk f1 s1' nm1 tk1 tl1 n1 m1 ks1 a1) (.slice ka kn kc)) := by rw [hW]; exact owns_new (w := w5) 85 9 1 (expCells (.mk f1 s1' nm1 tk1 tl1 n1 m1 ks1 a1) (.slice ka kn kc)) (by omega) rfl (by unfold maxLen; omega)
     rw [← hW]
     clear hW
     have hgX : (w.alloc exp0).grownBy W (some b) := (hgu.trans hg5).trans (grown_some hgW b)
     have hKx : Kids W (w.heap.size + 1) [(.mk f1 s1' nm1 tk1 tl1 n1 m1 ks1 a1)] (.slice (some ⟨w5.heap.size, 0, none⟩) 1 1) := KidsX.one' hoW (fun k e => by cases e) (RepC.kept hgW (fun k e => by cases e) (RepC.mono (by omega) hk1))
     refine wpList_store_gen rfl _ _ _ rfl w.heap.size #[.int .i64 3, .int .i64 2, .string ⟨#[]⟩, .int .i64 0, .int .i64 0, .int .i64 0, .int .i64 0, .slice (some ⟨w5.heap.size, 0, none⟩) 1 1, .int .i64 (y.at_ : Int)] rfl rfl 85 _ ((hgX.block w.heap.size (by simp) (by simp; omega)).trans (heap_alloc_new w exp0)) (by kernel_rfl) rfl (by simp [Value.oneCell']) ?_
     intro w6 hh6 hg6
     go_wp2
     (try simp only [Exit.inBlock, Exit.then])
     refine br hh6 Tryz.underlying85 ?_
     have hG : w.grownBy w6 (some b) := ((grown_some (ga w exp0 none) b).trans hgX).andThen hg6 (fun j e => .inl (by cases e; exact Nat.le_refl _))
     exact ⟨_, rfl, RepC.mono (by omega) (RepC.kept hg6 (fun k e => by cases e; omega) hKx), HH.out.to hG ((hP5.kept hgW).st.kept hg6 (by simp; omega)) hP5.lt, hG⟩
    ·have hc := h1 _ _ hPu
     rw [hr] at hc
     have hc2 := hc rfl
     simp only [rePost, expV] at hc2
     have hsa := hgu.size
     rw [World.size_alloc] at hsa
     refine ld ?_
     go_wp2_with (go_at_call 178; refine hc2.mono ?_; rintro e w5 ⟨k1, rfl, hk1, hP5, hg5⟩; refine Hid.out ?_)
     obtain ⟨ka, kn, kc, rfl⟩ := hk1.form
     have hs5 := hg5.size
     refine ld ?_
     go_wp2_with (with_reducible refine hold_st 2 ?_)
     obtain ⟨W, hW⟩ : ∃ W, W = w5.alloc (.cells #[.int .i64 f1, .int .i64 s1', .string ⟨nm1.toArray⟩, .int .i64 tk1, .int .i64 tl1, .int .i64 n1, .int .i64 m1, .slice ka kn kc, .int .i64 a1] 85) := ⟨_, rfl⟩
     have hgW : w5.grownBy W none := by rw [hW]; exact ga w5 _ none
     have hoW : W.ownsRow (w.heap.size + 1) 85 9 (.slice (some ⟨w5.heap.size, 0, none⟩) 1 1) 1 (expCells (.mk f1 s1' nm1 tk1 tl1 n1 m1 ks1 a1) (.slice ka kn kc)) := by rw [hW]; exact owns_new (w := w5) 85 9 1 (expCells (.mk f1 s1' nm1 tk1 tl1 n1 m1 ks1 a1) (.slice ka kn kc)) (by omega) rfl (by unfold maxLen; omega)
     rw [← hW]
     clear hW
     have hgX : (w.alloc exp0).grownBy W (some b) := (hgu.trans hg5).trans (grown_some hgW b)
     have hKx : Kids W (w.heap.size + 1) [(.mk f1 s1' nm1 tk1 tl1 n1 m1 ks1 a1)] (.slice (some ⟨w5.heap.size, 0, none⟩) 1 1) := KidsX.one' hoW (fun k e => by cases e) (RepC.kept hgW (fun k e => by cases e) (RepC.mono (by omega) hk1))
     refine wpList_store_gen rfl _ _ _ rfl w.heap.size #[.int .i64 3, .int .i64 2, .string ⟨#[]⟩, .int .i64 0, .int .i64 0, .int .i64 0, .int .i64 0, .slice (some ⟨w5.heap.size, 0, none⟩) 1 1, .int .i64 (y.at_ : Int)] rfl rfl 85 _ ((hgX.block w.heap.size (by simp) (by simp; omega)).trans (heap_alloc_new w exp0)) (by kernel_rfl) rfl (by simp [Value.oneCell']) ?_
     intro w6 hh6 hg6
     go_wp2
     (try simp only [Exit.inBlock, Exit.then])
     refine br hh6 Tryz.underlying85 ?_
     have hG : w.grownBy w6 (some b) := ((grown_some (ga w exp0 none) b).trans hgX).andThen hg6 (fun j e => .inl (by cases e; exact Nat.le_refl _))
     exact ⟨_, rfl, RepC.mono (by omega) (RepC.kept hg6 (fun k e => by cases e; omega) hKx), HH.out.to hG ((hP5.kept hgW).st.kept hg6 (by simp; omega)) hP5.lt, hG⟩
 | false =>
  rw [hqm] at hf
  rw [if_neg (by decide)] at hf ⊢
  clear h
  cases hr0 : Gram.Rf.prim T f s with
  | none => rw [hr0] at hf; cases hf
  | some r0 =>
   obtain ⟨x, s2⟩ := r0
   rw [hr0] at hf
   simp only [Gram.Rf.bindS] at hf ⊢
   cases hr : Gram.Rf.indexed T f x s2 with
   | none => rw [hr] at hf; cases hf
   | some r =>
    obtain ⟨z, s3⟩ := r
    cases z with
    | mk f1 s1' nm1 tk1 tl1 n1 m1 ks1 a1 =>
    have hc0 : ∀ wx, Rp wx b g cap T s → Calls Tryz.prog 182 #[.pointer (some ⟨b, 0, none⟩)] wx fun e w' => rePost wx b g cap T (some (x, s2)) e w' := fun wx hx => by
     have := h2 s wx hx
     rw [hr0] at this
     exact this rfl
    have hci : ∀ wx B k, B ≤ wx.heap.size → b < B → Rp wx b g cap T s2 → Kids wx B x.kids k → Calls Tryz.prog 181 #[.pointer (some ⟨b, 0, none⟩), expV x k] wx fun e w' => rePostB wx B b g cap T (some (.mk f1 s1' nm1 tk1 tl1 n1 m1 ks1 a1, s3)) e w' := fun wx B k hB hbB hx hk => by
     have := rindexed_any b g cap T f B x k s2 wx hB hbB hx hk (by rw [hr]; rfl)
     rw [hr] at this
     exact this
    clear hf hr hr0
    cases x with
    | mk f0 s0' nm0 tk0 tl0 n0 m0 ks0 a0 =>
    simp only [rePost, rePostB, expV] at hc0 hci
    have hn := rtok_any b g cap T s (w.alloc exp0) hP0
    have hfA := fldAt (Gram.tk T s.i)
    generalize Gram.tk T s.i = y at *
    go_enter Tryz.func180, Tryz.ntmps180
    go_wp2_with (go_at_call 62; refine hn.mono ?_; rintro e w1 ⟨rfl, hg1⟩; refine Hid.out ?_)
    have hP1 := hP0.kept hg1
    have hgw1 : (w.alloc exp0).grownBy w1 (some b) := grown_some hg1 b
    have hM1f := rmaybe_any b g cap T s ⟨#[110, 111, 116]⟩ w1 hP1
    unfold Gram.Rf.maybe at hM1f
    rw [show ((⟨#[110, 111, 116]⟩ : ByteArray)).data.toList = [110, 111, 116] from rfl] at hM1f
    rw [hqn, if_neg (by decide)] at hM1f
    refine ld ?_
    go_wp2_with (go_at_call 102; refine hM1f.mono ?_; rintro e w2 ⟨rfl, hP2, hgw2⟩; refine Hid.out ?_)
    have hgw2 := hgw1.trans hgw2
    have hM2f := rmaybe_any b g cap T s ⟨#[112, 114, 101]⟩ w2 hP2
    unfold Gram.Rf.maybe at hM2f
    rw [show ((⟨#[112, 114, 101]⟩ : ByteArray)).data.toList = [112, 114, 101] from rfl] at hM2f
    rw [hqp, if_neg (by decide)] at hM2f
    refine ld ?_
    go_wp2_with (go_at_call 102; refine hM2f.mono ?_; rintro e w3 ⟨rfl, hP3, hgw3⟩; refine Hid.out ?_)
    have hgw3 := hgw2.trans hgw3
    have hM3f := rmaybe_any b g cap T s ⟨#[45]⟩ w3 hP3
    unfold Gram.Rf.maybe at hM3f
    rw [show ((⟨#[45]⟩ : ByteArray)).data.toList = [45] from rfl] at hM3f
    rw [hqm, if_neg (by decide)] at hM3f
    refine ld ?_
    go_wp2_with (go_at_call 102; refine hM3f.mono ?_; rintro e w4 ⟨rfl, hP4, hgw4⟩; refine Hid.out ?_)
    have hgw4 := hgw3.trans hgw4
    have hc := hc0 w4 hP4
    have hs4 := hgw4.size
    rw [World.size_alloc] at hs4
    refine ld ?_
    go_wp2_with (go_at_call 182; refine hc.mono ?_; rintro e w5 ⟨k1, rfl, hk1, hP5, hg5⟩; refine Hid.out ?_)
    have hs5 := hg5.size
    have hci2 := hci w5 (w.heap.size + 1) k1 (by omega) (by omega) hP5 (hk1.mono (by omega))
    refine ld ?_
    go_wp2_with (go_at_call 181; refine hci2.mono ?_; rintro e w6 ⟨k2, rfl, hk2, hP6, hg6⟩; refine Hid.out ?_)
    obtain ⟨ka, kn, kc, rfl⟩ := hk2.form
    have hgX : (w.alloc exp0).grownBy w6 (some b) := (hgw4.trans hg5).trans hg6
    refine ld ?_
    go_wp2_with (with_reducible refine hold_st 2 ?_)
    refine sg ((hgX.block w.heap.size (by simp) (by simp; omega)).trans (heap_alloc_new w exp0)) ?_
    intro w9 hh9 hg9
    go_wp2
    (try simp only [Exit.inBlock, Exit.then])
    refine br hh9 Tryz.underlying85 ?_
    have hG : w.grownBy w9 (some b) := ((grown_some (ga w exp0 none) b).trans hgX).andThen hg9 (fun j e => .inl (by cases e; exact Nat.le_refl _))
    exact ⟨_, rfl, RepC.mono (by omega) (RepC.kept hg9 (fun k e => by cases e; omega) hk2), HH.out.to hG (hP6.st.kept hg9 (by simp; omega)) hP6.lt, hG⟩
end
def CWd (b g cap : Nat) (T : List Lex.Tk) (f : Nat) : Prop :=
 ∀ (s : Gram.Rf.St) (w : World), Rp w b g cap T s → s.e = 0 → (Gram.tk T s.i).kind = 3 → (Gram.Rf.wordE T f (Gram.tk T s.i) s).isSome = true → Calls Tryz.prog 185 #[.pointer (some ⟨b, 0, none⟩), tokV (Gram.tk T s.i)] w fun e w' => rePost w b g cap T (Gram.Rf.wordE T f (Gram.tk T s.i) s) e w'
theorem Rp.setX {w W : World} {b g cap : Nat} {T : List Lex.Tk} {s0 s : Gram.Rf.St} (h0 : Rp w b g cap T s0) (hg : w.grownBy W (some b)) (hP : Rp W b g cap T s) {xb : Nat} (hx : w.heap.size ≤ xb) (j : Nat) (v : Value) : Rp (W.setCell ⟨xb, j, none⟩ v) b g cap T s ∧ w.grownBy (W.setCell ⟨xb, j, none⟩ v) (some b) := by
 have hg' := gset hg (a := ⟨xb, j, none⟩) (.inl hx) v
 have hb := h0.bl
 exact ⟨h0.to hg' (hP.st.kept (gset (World.grownBy.refl W (some xb)) (a := ⟨xb, j, none⟩) (.inr rfl) v) (by simp; omega)) hP.lt, hg'⟩
theorem size_set (w : World) (a : Addr) (v : Value) : (w.setCell a v).heap.size = w.heap.size := by simp [World.setCell]
section
variable (b g cap : Nat) (T : List Lex.Tk)
theorem rprim_step (f : Nat) (hW : CWd b g cap T f) (hC : ∀ f', f' ≤ f → CRex b g cap T 166 (Gram.Rf.exp T f')) : CRex b g cap T 182 (Gram.Rf.prim T (f + 1)) := by
 intro s w h hf
 have hP0 := h.alloc exp0
 have hbw := h.bl
 have hm := h.toks.most
 have hlt := h.lt
 have HH := ld h
 have hn := rtok_any b g cap T s (w.alloc exp0) hP0
 have hnx := fun hk => h.next hk
 rw [Gram.Rf.prim] at hf ⊢
 have hWd := hW s
 obtain ⟨y, hy⟩ : ∃ y, y = Gram.tk T s.i := ⟨_, rfl⟩
 rw [← hy] at hf hn hnx hWd ⊢
 clear h hy
 obtain ⟨yk, yt, yn, yu, ya⟩ := y
 simp only [tokV] at hn hWd
 simp only at hf hnx hWd ⊢
 by_cases he : s.e = 0
 ·rw [if_pos he] at hf ⊢
  have b0 : (s.e != 0) = false := bne_t (by rw [beq_iff_eq]; exact he)
  by_cases k1 : yk = 1
  ·rw [if_pos k1] at hf ⊢
   have q1 : (yk == 1) = true := by rw [beq_iff_eq]; exact k1
   have hi := hnx (.inl (by rw [k1]; decide))
   clear k1
   cases hq : Gram.Rf.is T [40] (Gram.Rf.adv s) with
   | false =>
    rw [if_neg (by decide)]
    clear hf
    go_enter Tryz.func182, Tryz.ntmps182
    go_wp2_with (go_at_call 62; refine hn.mono ?_; rintro e w1 ⟨rfl, hg1⟩; refine Hid.out ?_)
    have hP1 := hP0.kept hg1
    have hgw1 : (w.alloc exp0).grownBy w1 (some b) := grown_some hg1 b
    have p1 := hP1.st.c1
    have p2 := hP1.st.c2
    have fr1 := hP1.st.fr 1
    have hb1 := hP1.bl
    have n1 : ¬ b = w1.heap.size := by omega
    have n2 : ¬ b = w1.heap.size + 1 := by omega
    have hs1 := hgw1.size
    rw [World.size_alloc] at hs1
    have hA := radv_w hP1 hi
    have hPx : Rp (((w1.setCell ⟨b, 1, none⟩ (.int .i64 ((s.i : Int) + 1))).alloc (tO yk yt yn yu ya)).alloc (.cells #[.int .i64 2, .int .i64 0, .string ⟨yt.toArray⟩, .int .i64 0, .int .i64 0, .int .i64 0, .int .i64 0, .slice none 0 0, .int .i64 (ya : Int)] 85)) b g cap T (Gram.Rf.adv s) := (hA.1.alloc _).alloc _
    have hgx0 : (w.alloc exp0).grownBy (((w1.setCell ⟨b, 1, none⟩ (.int .i64 ((s.i : Int) + 1))).alloc (tO yk yt yn yu ya)).alloc (.cells #[.int .i64 2, .int .i64 0, .string ⟨yt.toArray⟩, .int .i64 0, .int .i64 0, .int .i64 0, .int .i64 0, .slice none 0 0, .int .i64 (ya : Int)] 85)) (some b) := galloc (galloc (hgw1.trans hA.2) _) _
    have hx0 : (((w1.setCell ⟨b, 1, none⟩ (.int .i64 ((s.i : Int) + 1))).alloc (tO yk yt yn yu ya)).alloc (.cells #[.int .i64 2, .int .i64 0, .string ⟨yt.toArray⟩, .int .i64 0, .int .i64 0, .int .i64 0, .int .i64 0, .slice none 0 0, .int .i64 (ya : Int)] 85)).heap[w1.heap.size + 1]? = some (.cells #[.int .i64 2, .int .i64 0, .string ⟨yt.toArray⟩, .int .i64 0, .int .i64 0, .int .i64 0, .int .i64 0, .slice none 0 0, .int .i64 (ya : Int)] 85 (0, 0)) := by
     have := heap_alloc2_new (w1.setCell ⟨b, 1, none⟩ (.int .i64 ((s.i : Int) + 1))) (tO yk yt yn yu ya) (.cells #[.int .i64 2, .int .i64 0, .string ⟨yt.toArray⟩, .int .i64 0, .int .i64 0, .int .i64 0, .int .i64 0, .slice none 0 0, .int .i64 (ya : Int)] 85)
     rw [size_set] at this
     exact this
    have hsx : (((w1.setCell ⟨b, 1, none⟩ (.int .i64 ((s.i : Int) + 1))).alloc (tO yk yt yn yu ya)).alloc (.cells #[.int .i64 2, .int .i64 0, .string ⟨yt.toArray⟩, .int .i64 0, .int .i64 0, .int .i64 0, .int .i64 0, .slice none 0 0, .int .i64 (ya : Int)] 85)).heap.size = w1.heap.size + 1 + 1 := by simp [World.size_alloc, size_set]
    clear hA
    have hI := ris_any b g cap T _ ⟨#[40]⟩ _ hPx
    rw [show ((⟨#[40]⟩ : ByteArray)).data.toList = [40] from rfl, hq] at hI
    refine ld ?_
    go_wp2_with (go_at_call 63; refine hI.mono ?_; rintro e w5 ⟨rfl, hg5⟩; refine Hid.out ?_)
    obtain ⟨c0, c1, c2, c3, c4, c5, c6, c7, c8, cf⟩ := Nc.of ((hg5.block (w1.heap.size + 1) (by rw [hsx]; omega) (by simp)).trans hx0)
    have hgx := hgx0.trans (grown_some hg5 b)
    have hP5 := hPx.kept hg5
    refine ld ?_
    go_wp2_with (with_reducible refine hold_st 2 ?_)
    refine sg ((hgx : (w.alloc exp0).grownBy _ (some b)).block w.heap.size (by simp) (by simp; omega) |>.trans (heap_alloc_new w exp0)) ?_
    intro w9 hh9 hg9
    go_wp2
    (try simp only [Exit.inBlock, Exit.then])
    refine br hh9 Tryz.underlying85 ?_
    have hG : w.grownBy w9 (some b) := ((grown_some (ga w exp0 none) b).trans hgx).andThen hg9 (fun j e => .inl (by cases e; exact Nat.le_refl _))
    exact ⟨_, rfl, Kids.nil _ _, HH.out.to hG (hP5.st.kept hg9 (by simp; omega)) hP5.lt, hG⟩
   | true =>
    rw [hq] at hf
    rw [if_pos rfl] at hf ⊢
    cases hr : Gram.Rf.call T f (Gram.Rf.adv s) with
    | none => rw [hr] at hf; cases hf
    | some r =>
     obtain ⟨l, s2⟩ := r
     simp only [Gram.Rf.bindS]
     have hcl : ∀ wx, Rp wx b g cap T (Gram.Rf.adv s) → Calls Tryz.prog 183 #[.pointer (some ⟨b, 0, none⟩)] wx fun e w' => rxPost wx b g cap T (some (l, s2)) e w' := fun wx hx => by
      cases f with
      | zero => rw [Gram.Rf.call] at hr; cases hr
      | succ f0 =>
       have := rcall_step b g cap T f0 (fun f' hf' => hC f' (by omega)) (Gram.Rf.adv s) wx hx (by rw [hr]; rfl)
       rw [hr] at this
       exact this
     simp only [rxPost] at hcl
     clear hf hr
     go_enter Tryz.func182, Tryz.ntmps182
     go_wp2_with (go_at_call 62; refine hn.mono ?_; rintro e w1 ⟨rfl, hg1⟩; refine Hid.out ?_)
     have hP1 := hP0.kept hg1
     have hgw1 : (w.alloc exp0).grownBy w1 (some b) := grown_some hg1 b
     have p1 := hP1.st.c1
     have p2 := hP1.st.c2
     have fr1 := hP1.st.fr 1
     have hb1 := hP1.bl
     have n1 : ¬ b = w1.heap.size := by omega
     have n2 : ¬ b = w1.heap.size + 1 := by omega
     have hs1 := hgw1.size
     rw [World.size_alloc] at hs1
     have hA := radv_w hP1 hi
     have hPx : Rp (((w1.setCell ⟨b, 1, none⟩ (.int .i64 ((s.i : Int) + 1))).alloc (tO yk yt yn yu ya)).alloc (.cells #[.int .i64 2, .int .i64 0, .string ⟨yt.toArray⟩, .int .i64 0, .int .i64 0, .int .i64 0, .int .i64 0, .slice none 0 0, .int .i64 (ya : Int)] 85)) b g cap T (Gram.Rf.adv s) := (hA.1.alloc _).alloc _
     have hgx0 : (w.alloc exp0).grownBy (((w1.setCell ⟨b, 1, none⟩ (.int .i64 ((s.i : Int) + 1))).alloc (tO yk yt yn yu ya)).alloc (.cells #[.int .i64 2, .int .i64 0, .string ⟨yt.toArray⟩, .int .i64 0, .int .i64 0, .int .i64 0, .int .i64 0, .slice none 0 0, .int .i64 (ya : Int)] 85)) (some b) := galloc (galloc (hgw1.trans hA.2) _) _
     have hx0 : (((w1.setCell ⟨b, 1, none⟩ (.int .i64 ((s.i : Int) + 1))).alloc (tO yk yt yn yu ya)).alloc (.cells #[.int .i64 2, .int .i64 0, .string ⟨yt.toArray⟩, .int .i64 0, .int .i64 0, .int .i64 0, .int .i64 0, .slice none 0 0, .int .i64 (ya : Int)] 85)).heap[w1.heap.size + 1]? = some (.cells #[.int .i64 2, .int .i64 0, .string ⟨yt.toArray⟩, .int .i64 0, .int .i64 0, .int .i64 0, .int .i64 0, .slice none 0 0, .int .i64 (ya : Int)] 85 (0, 0)) := by
      have := heap_alloc2_new (w1.setCell ⟨b, 1, none⟩ (.int .i64 ((s.i : Int) + 1))) (tO yk yt yn yu ya) (.cells #[.int .i64 2, .int .i64 0, .string ⟨yt.toArray⟩, .int .i64 0, .int .i64 0, .int .i64 0, .int .i64 0, .slice none 0 0, .int .i64 (ya : Int)] 85)
      rw [size_set] at this
      exact this
     have hsx : (((w1.setCell ⟨b, 1, none⟩ (.int .i64 ((s.i : Int) + 1))).alloc (tO yk yt yn yu ya)).alloc (.cells #[.int .i64 2, .int .i64 0, .string ⟨yt.toArray⟩, .int .i64 0, .int .i64 0, .int .i64 0, .int .i64 0, .slice none 0 0, .int .i64 (ya : Int)] 85)).heap.size = w1.heap.size + 1 + 1 := by simp [World.size_alloc, size_set]
     clear hA
     have hI := ris_any b g cap T _ ⟨#[40]⟩ _ hPx
     rw [show ((⟨#[40]⟩ : ByteArray)).data.toList = [40] from rfl, hq] at hI
     refine ld ?_
     go_wp2_with (go_at_call 63; refine hI.mono ?_; rintro e w5 ⟨rfl, hg5⟩; refine Hid.out ?_)
     have hx5 := (hg5.block (w1.heap.size + 1) (by rw [hsx]; omega) (by simp)).trans hx0
     obtain ⟨c0, c1, c2, c3, c4, c5, c6, c7, c8, cf⟩ := Nc.of hx5
     have hgx5 := hgx0.trans (grown_some hg5 b)
     have hs5 := hg5.size
     rw [hsx] at hs5
     have h6 := Rp.setX hP0 hgx5 (hPx.kept hg5) (xb := w1.heap.size + 1) (by rw [World.size_alloc]; omega) 0 (.int .i64 13)
     have hx6 := heap_setCell_same _ (w1.heap.size + 1) 0 _ _ (.int .i64 13) hx5
     have hc6 := hcl _ h6.1
     have H6 := ld h6
     have HX6 := ld hx6
     clear h6 hx6 hcl
     refine ld ?_
     go_wp2_with (go_at_call 183; refine hc6.mono ?_; rintro e w7 ⟨v, rfl, hk7, hP7, hg7⟩; refine Hid.out ?_)
     rw [size_set] at hk7
     have hx7 := (hg7.block (w1.heap.size + 1) (by rw [size_set]; omega) (by simp; omega)).trans HX6.out
     have hx7 : w7.heap[w1.heap.size + 1]? = some (.cells #[.int .i64 13, .int .i64 0, .string ⟨yt.toArray⟩, .int .i64 0, .int .i64 0, .int .i64 0, .int .i64 0, .slice none 0 0, .int .i64 (ya : Int)] 85 (0, 0)) := by simpa using hx7
     have hgx7 := H6.out.2.trans hg7
     have hs7 := hg7.size
     rw [size_set] at hs7
     obtain ⟨ka, kn, kc, rfl⟩ := hk7.form
     obtain ⟨d0, d1, d2, d3, d4, d5, d6, d7, d8, df⟩ := Nc.of hx7
     have hs9 := Rp.setX hP0 hgx7 hP7 (xb := w1.heap.size + 1) (by rw [World.size_alloc]; omega) 7 (.slice ka kn kc)
     have hx9 := heap_setCell_same _ (w1.heap.size + 1) 7 _ _ (.slice ka kn kc) hx7
     have hkk := hk7.kept (gset (World.grownBy.refl w7 (some (w1.heap.size + 1))) (a := ⟨w1.heap.size + 1, 7, none⟩) (.inr rfl) (.slice ka kn kc)) (fun k e => by cases e; omega)
     obtain ⟨e0, e1, e2, e3, e4, e5, e6, e7, e8, ef⟩ := Nc.of (by simpa using hx9)
     have Hs9 := ld hs9
     have HKK := ld hkk
     clear hs9 hx9 hkk
     refine ld ?_
     go_wp2_with (with_reducible refine hold_st 2 ?_)
     refine sg ((Hs9.out.2 : (w.alloc exp0).grownBy _ (some b)).block w.heap.size (by simp) (by simp; omega) |>.trans (heap_alloc_new w exp0)) ?_
     intro w9 hh9 hg9
     go_wp2
     (try simp only [Exit.inBlock, Exit.then])
     refine br hh9 Tryz.underlying85 ?_
     have hG : w.grownBy w9 (some b) := ((grown_some (ga w exp0 none) b).trans Hs9.out.2).andThen hg9 (fun j e => .inl (by cases e; exact Nat.le_refl _))
     exact ⟨_, rfl, RepC.mono (by omega) (RepC.kept hg9 (fun k e => by cases e; omega) HKK.out.kids), HH.out.to hG (Hs9.out.1.st.kept hg9 (by simp; omega)) Hs9.out.1.lt, hG⟩
  ·rw [if_neg k1] at hf ⊢
   have q1 : (yk == 1) = false := by rw [beq_eq_false_iff_ne]; exact k1
   by_cases k2 : yk = 2
   ·rw [if_pos k2] at hf ⊢
    have q2 : (yk == 2) = true := by rw [beq_iff_eq]; exact k2
    have hi := hnx (.inl (by rw [k2]; decide))
    have hSg := fun W => rsigned_any yu W
    clear k1 k2
    by_cases hsgn : 2 ≤ yu ∧ yu ≤ 5
    ·have hd : decide (2 ≤ yu ∧ yu ≤ 5) = true := by rw [decide_eq_true_iff]; exact hsgn
     rw [hd] at hSg
     have z0 : (yu == 0) = false := by rw [beq_eq_false_iff_ne]; omega
     by_cases hneg : yn < 0
     ·rw [if_pos (.inr ⟨hsgn.1, hsgn.2, hneg⟩)]
      have z1 : decide (yn < 0) = true := by rw [decide_eq_true_iff]; exact hneg
      clear hf hsgn hneg hd
      go_enter Tryz.func182, Tryz.ntmps182
      go_wp2_with (go_at_call 62; refine hn.mono ?_; rintro e w1 ⟨rfl, hg1⟩; refine Hid.out ?_)
      have hP1 := hP0.kept hg1
      have hgw1 : (w.alloc exp0).grownBy w1 (some b) := grown_some hg1 b
      have p1 := hP1.st.c1
      have p2 := hP1.st.c2
      have fr1 := hP1.st.fr 1
      have hb1 := hP1.bl
      have n1 : ¬ b = w1.heap.size := by omega
      have n2 : ¬ b = w1.heap.size + 1 := by omega
      have hs1 := hgw1.size
      rw [World.size_alloc] at hs1
      have hPx := (hP1.alloc (tO yk yt yn yu ya)).alloc (.cells #[.int .i64 0, .int .i64 0, .string ⟨#[]⟩, .int .i64 0, .int .i64 0, .int .i64 0, .int .i64 0, .slice none 0 0, .int .i64 (ya : Int)] 85)
      have hF := rfail_any b g cap T s 12 _ hPx
      have hgx0 : (w.alloc exp0).grownBy ((w1.alloc (tO yk yt yn yu ya)).alloc (.cells #[.int .i64 0, .int .i64 0, .string ⟨#[]⟩, .int .i64 0, .int .i64 0, .int .i64 0, .int .i64 0, .slice none 0 0, .int .i64 (ya : Int)] 85)) (some b) := galloc (galloc hgw1 _) _
      have hx0 : ((w1.alloc (tO yk yt yn yu ya)).alloc (.cells #[.int .i64 0, .int .i64 0, .string ⟨#[]⟩, .int .i64 0, .int .i64 0, .int .i64 0, .int .i64 0, .slice none 0 0, .int .i64 (ya : Int)] 85)).heap[w1.heap.size + 1]? = some (.cells #[.int .i64 0, .int .i64 0, .string ⟨#[]⟩, .int .i64 0, .int .i64 0, .int .i64 0, .int .i64 0, .slice none 0 0, .int .i64 (ya : Int)] 85 (0, 0)) := heap_alloc2_new w1 _ _
      refine ld ?_
      go_wp2_with (first | (go_at_call 130; refine (hSg _).mono ?_; rintro e w' ⟨rfl, rfl⟩) | (go_at_call 64; refine hF.mono ?_; rintro e w5 ⟨rfl, hP5, hg5⟩; refine Hid.out ?_))
      obtain ⟨c0, c1, c2, c3, c4, c5, c6, c7, c8, cf⟩ := Nc.of ((hg5.block (w1.heap.size + 1) (by simp) (by simp; omega)).trans hx0)
      have hgx := hgx0.trans hg5
      refine ld ?_
      go_wp2_with (with_reducible refine hold_st 2 ?_)
      refine sg ((hgx : (w.alloc exp0).grownBy _ (some b)).block w.heap.size (by simp) (by simp; omega) |>.trans (heap_alloc_new w exp0)) ?_
      intro w9 hh9 hg9
      go_wp2
      (try simp only [Exit.inBlock, Exit.then])
      refine br hh9 Tryz.underlying85 ?_
      have hG : w.grownBy w9 (some b) := ((grown_some (ga w exp0 none) b).trans hgx).andThen hg9 (fun j e => .inl (by cases e; exact Nat.le_refl _))
      exact ⟨_, rfl, Kids.nil _ _, HH.out.to hG (hP5.st.kept hg9 (by simp; omega)) hP5.lt, hG⟩
     ·rw [if_neg (by omega)]
      have z1 : decide (yn < 0) = false := by rw [decide_eq_false_iff_not]; exact hneg
      clear hf hsgn hneg hd
      go_enter Tryz.func182, Tryz.ntmps182
      go_wp2_with (go_at_call 62; refine hn.mono ?_; rintro e w1 ⟨rfl, hg1⟩; refine Hid.out ?_)
      have hP1 := hP0.kept hg1
      have hgw1 : (w.alloc exp0).grownBy w1 (some b) := grown_some hg1 b
      have p1 := hP1.st.c1
      have p2 := hP1.st.c2
      have fr1 := hP1.st.fr 1
      have hb1 := hP1.bl
      have n1 : ¬ b = w1.heap.size := by omega
      have n2 : ¬ b = w1.heap.size + 1 := by omega
      have hs1 := hgw1.size
      rw [World.size_alloc] at hs1
      have hA := radv_w hP1 hi
      have hPx : Rp (((w1.setCell ⟨b, 1, none⟩ (.int .i64 ((s.i : Int) + 1))).alloc (tO yk yt yn yu ya)).alloc (.cells #[.int .i64 1, .int .i64 0, .string ⟨#[]⟩, .int .i64 yu, .int .i64 0, .int .i64 yn, .int .i64 0, .slice none 0 0, .int .i64 (ya : Int)] 85)) b g cap T (Gram.Rf.adv s) := (hA.1.alloc _).alloc _
      have hgx0 : (w.alloc exp0).grownBy (((w1.setCell ⟨b, 1, none⟩ (.int .i64 ((s.i : Int) + 1))).alloc (tO yk yt yn yu ya)).alloc (.cells #[.int .i64 1, .int .i64 0, .string ⟨#[]⟩, .int .i64 yu, .int .i64 0, .int .i64 yn, .int .i64 0, .slice none 0 0, .int .i64 (ya : Int)] 85)) (some b) := galloc (galloc (hgw1.trans hA.2) _) _
      have hx0 : (((w1.setCell ⟨b, 1, none⟩ (.int .i64 ((s.i : Int) + 1))).alloc (tO yk yt yn yu ya)).alloc (.cells #[.int .i64 1, .int .i64 0, .string ⟨#[]⟩, .int .i64 yu, .int .i64 0, .int .i64 yn, .int .i64 0, .slice none 0 0, .int .i64 (ya : Int)] 85)).heap[w1.heap.size + 1]? = some (.cells #[.int .i64 1, .int .i64 0, .string ⟨#[]⟩, .int .i64 yu, .int .i64 0, .int .i64 yn, .int .i64 0, .slice none 0 0, .int .i64 (ya : Int)] 85 (0, 0)) := by
       have := heap_alloc2_new (w1.setCell ⟨b, 1, none⟩ (.int .i64 ((s.i : Int) + 1))) (tO yk yt yn yu ya) (.cells #[.int .i64 1, .int .i64 0, .string ⟨#[]⟩, .int .i64 yu, .int .i64 0, .int .i64 yn, .int .i64 0, .slice none 0 0, .int .i64 (ya : Int)] 85)
       rw [size_set] at this
       exact this
      have hsx : (((w1.setCell ⟨b, 1, none⟩ (.int .i64 ((s.i : Int) + 1))).alloc (tO yk yt yn yu ya)).alloc (.cells #[.int .i64 1, .int .i64 0, .string ⟨#[]⟩, .int .i64 yu, .int .i64 0, .int .i64 yn, .int .i64 0, .slice none 0 0, .int .i64 (ya : Int)] 85)).heap.size = w1.heap.size + 1 + 1 := by simp [World.size_alloc, size_set]
      clear hA
      refine ld ?_
      go_wp2_with (first | (go_at_call 130; refine (hSg _).mono ?_; rintro e w' ⟨rfl, rfl⟩) | (with_reducible refine hold_st 2 ?_))
      refine sg ((hgx0 : (w.alloc exp0).grownBy _ (some b)).block w.heap.size (by simp) (by simp; omega) |>.trans (heap_alloc_new w exp0)) ?_
      intro w9 hh9 hg9
      go_wp2
      (try simp only [Exit.inBlock, Exit.then])
      refine br hh9 Tryz.underlying85 ?_
      have hG : w.grownBy w9 (some b) := ((grown_some (ga w exp0 none) b).trans hgx0).andThen hg9 (fun j e => .inl (by cases e; exact Nat.le_refl _))
      exact ⟨_, rfl, Kids.nil _ _, HH.out.to hG (hPx.st.kept hg9 (by simp; omega)) hPx.lt, hG⟩
    ·have hd : decide (2 ≤ yu ∧ yu ≤ 5) = false := by rw [decide_eq_false_iff_not]; exact hsgn
     rw [hd] at hSg
     by_cases hz : yu = 0
     ·rw [if_pos (.inl hz)]
      have z0 : (yu == 0) = true := by rw [beq_iff_eq]; exact hz
      clear hf hsgn hz hd
      go_enter Tryz.func182, Tryz.ntmps182
      go_wp2_with (go_at_call 62; refine hn.mono ?_; rintro e w1 ⟨rfl, hg1⟩; refine Hid.out ?_)
      have hP1 := hP0.kept hg1
      have hgw1 : (w.alloc exp0).grownBy w1 (some b) := grown_some hg1 b
      have p1 := hP1.st.c1
      have p2 := hP1.st.c2
      have fr1 := hP1.st.fr 1
      have hb1 := hP1.bl
      have n1 : ¬ b = w1.heap.size := by omega
      have n2 : ¬ b = w1.heap.size + 1 := by omega
      have hs1 := hgw1.size
      rw [World.size_alloc] at hs1
      have hPx := (hP1.alloc (tO yk yt yn yu ya)).alloc (.cells #[.int .i64 0, .int .i64 0, .string ⟨#[]⟩, .int .i64 0, .int .i64 0, .int .i64 0, .int .i64 0, .slice none 0 0, .int .i64 (ya : Int)] 85)
      have hF := rfail_any b g cap T s 12 _ hPx
      have hgx0 : (w.alloc exp0).grownBy ((w1.alloc (tO yk yt yn yu ya)).alloc (.cells #[.int .i64 0, .int .i64 0, .string ⟨#[]⟩, .int .i64 0, .int .i64 0, .int .i64 0, .int .i64 0, .slice none 0 0, .int .i64 (ya : Int)] 85)) (some b) := galloc (galloc hgw1 _) _
      have hx0 : ((w1.alloc (tO yk yt yn yu ya)).alloc (.cells #[.int .i64 0, .int .i64 0, .string ⟨#[]⟩, .int .i64 0, .int .i64 0, .int .i64 0, .int .i64 0, .slice none 0 0, .int .i64 (ya : Int)] 85)).heap[w1.heap.size + 1]? = some (.cells #[.int .i64 0, .int .i64 0, .string ⟨#[]⟩, .int .i64 0, .int .i64 0, .int .i64 0, .int .i64 0, .slice none 0 0, .int .i64 (ya : Int)] 85 (0, 0)) := heap_alloc2_new w1 _ _
      refine ld ?_
      go_wp2_with (first | (go_at_call 130; refine (hSg _).mono ?_; rintro e w' ⟨rfl, rfl⟩) | (go_at_call 64; refine hF.mono ?_; rintro e w5 ⟨rfl, hP5, hg5⟩; refine Hid.out ?_))
      obtain ⟨c0, c1, c2, c3, c4, c5, c6, c7, c8, cf⟩ := Nc.of ((hg5.block (w1.heap.size + 1) (by simp) (by simp; omega)).trans hx0)
      have hgx := hgx0.trans hg5
      refine ld ?_
      go_wp2_with (with_reducible refine hold_st 2 ?_)
      refine sg ((hgx : (w.alloc exp0).grownBy _ (some b)).block w.heap.size (by simp) (by simp; omega) |>.trans (heap_alloc_new w exp0)) ?_
      intro w9 hh9 hg9
      go_wp2
      (try simp only [Exit.inBlock, Exit.then])
      refine br hh9 Tryz.underlying85 ?_
      have hG : w.grownBy w9 (some b) := ((grown_some (ga w exp0 none) b).trans hgx).andThen hg9 (fun j e => .inl (by cases e; exact Nat.le_refl _))
      exact ⟨_, rfl, Kids.nil _ _, HH.out.to hG (hP5.st.kept hg9 (by simp; omega)) hP5.lt, hG⟩
     ·rw [if_neg (by rintro (e | e); exact hz e; exact hsgn ⟨e.1, e.2.1⟩)]
      have z0 : (yu == 0) = false := by rw [beq_eq_false_iff_ne]; exact hz
      clear hf hsgn hz hd
      go_enter Tryz.func182, Tryz.ntmps182
      go_wp2_with (go_at_call 62; refine hn.mono ?_; rintro e w1 ⟨rfl, hg1⟩; refine Hid.out ?_)
      have hP1 := hP0.kept hg1
      have hgw1 : (w.alloc exp0).grownBy w1 (some b) := grown_some hg1 b
      have p1 := hP1.st.c1
      have p2 := hP1.st.c2
      have fr1 := hP1.st.fr 1
      have hb1 := hP1.bl
      have n1 : ¬ b = w1.heap.size := by omega
      have n2 : ¬ b = w1.heap.size + 1 := by omega
      have hs1 := hgw1.size
      rw [World.size_alloc] at hs1
      have hA := radv_w hP1 hi
      have hPx : Rp (((w1.setCell ⟨b, 1, none⟩ (.int .i64 ((s.i : Int) + 1))).alloc (tO yk yt yn yu ya)).alloc (.cells #[.int .i64 1, .int .i64 0, .string ⟨#[]⟩, .int .i64 yu, .int .i64 0, .int .i64 yn, .int .i64 0, .slice none 0 0, .int .i64 (ya : Int)] 85)) b g cap T (Gram.Rf.adv s) := (hA.1.alloc _).alloc _
      have hgx0 : (w.alloc exp0).grownBy (((w1.setCell ⟨b, 1, none⟩ (.int .i64 ((s.i : Int) + 1))).alloc (tO yk yt yn yu ya)).alloc (.cells #[.int .i64 1, .int .i64 0, .string ⟨#[]⟩, .int .i64 yu, .int .i64 0, .int .i64 yn, .int .i64 0, .slice none 0 0, .int .i64 (ya : Int)] 85)) (some b) := galloc (galloc (hgw1.trans hA.2) _) _
      have hx0 : (((w1.setCell ⟨b, 1, none⟩ (.int .i64 ((s.i : Int) + 1))).alloc (tO yk yt yn yu ya)).alloc (.cells #[.int .i64 1, .int .i64 0, .string ⟨#[]⟩, .int .i64 yu, .int .i64 0, .int .i64 yn, .int .i64 0, .slice none 0 0, .int .i64 (ya : Int)] 85)).heap[w1.heap.size + 1]? = some (.cells #[.int .i64 1, .int .i64 0, .string ⟨#[]⟩, .int .i64 yu, .int .i64 0, .int .i64 yn, .int .i64 0, .slice none 0 0, .int .i64 (ya : Int)] 85 (0, 0)) := by
       have := heap_alloc2_new (w1.setCell ⟨b, 1, none⟩ (.int .i64 ((s.i : Int) + 1))) (tO yk yt yn yu ya) (.cells #[.int .i64 1, .int .i64 0, .string ⟨#[]⟩, .int .i64 yu, .int .i64 0, .int .i64 yn, .int .i64 0, .slice none 0 0, .int .i64 (ya : Int)] 85)
       rw [size_set] at this
       exact this
      have hsx : (((w1.setCell ⟨b, 1, none⟩ (.int .i64 ((s.i : Int) + 1))).alloc (tO yk yt yn yu ya)).alloc (.cells #[.int .i64 1, .int .i64 0, .string ⟨#[]⟩, .int .i64 yu, .int .i64 0, .int .i64 yn, .int .i64 0, .slice none 0 0, .int .i64 (ya : Int)] 85)).heap.size = w1.heap.size + 1 + 1 := by simp [World.size_alloc, size_set]
      clear hA
      refine ld ?_
      go_wp2_with (first | (go_at_call 130; refine (hSg _).mono ?_; rintro e w' ⟨rfl, rfl⟩) | (with_reducible refine hold_st 2 ?_))
      refine sg ((hgx0 : (w.alloc exp0).grownBy _ (some b)).block w.heap.size (by simp) (by simp; omega) |>.trans (heap_alloc_new w exp0)) ?_
      intro w9 hh9 hg9
      go_wp2
      (try simp only [Exit.inBlock, Exit.then])
      refine br hh9 Tryz.underlying85 ?_
      have hG : w.grownBy w9 (some b) := ((grown_some (ga w exp0 none) b).trans hgx0).andThen hg9 (fun j e => .inl (by cases e; exact Nat.le_refl _))
      exact ⟨_, rfl, Kids.nil _ _, HH.out.to hG (hPx.st.kept hg9 (by simp; omega)) hPx.lt, hG⟩
   ·rw [if_neg k2] at hf ⊢
    have q2 : (yk == 2) = false := by rw [beq_eq_false_iff_ne]; exact k2
    by_cases k4 : yk = 4
    ·rw [if_pos k4] at hf ⊢
     have q4 : (yk == 4) = true := by rw [beq_iff_eq]; exact k4
     have hi := hnx (.inl (by rw [k4]; decide))
     clear k1 k2 k4
     by_cases t40 : yt = [40]
     ·rw [if_pos t40] at hf ⊢
      cases hr : Gram.Rf.exp T f (Gram.Rf.adv s) with
      | none => rw [hr] at hf; cases hf
      | some r =>
       obtain ⟨x, s2⟩ := r
       simp only [Gram.Rf.bindS]
       cases x with
       | mk f1 s1' nm1 tk1 tl1 n1' m1 ks1 a1 =>
       have hce : ∀ wx, Rp wx b g cap T (Gram.Rf.adv s) → Calls Tryz.prog 166 #[.pointer (some ⟨b, 0, none⟩)] wx fun e w' => rePost wx b g cap T (some (.mk f1 s1' nm1 tk1 tl1 n1' m1 ks1 a1, s2)) e w' := fun wx hx => by
        have := hC f (Nat.le_refl _) (Gram.Rf.adv s) wx hx
        rw [hr] at this
        exact this rfl
       simp only [rePost, expV] at hce
       have e40 : (yt == [40]) = true := by rw [beq_iff_eq]; exact t40
       clear hf hr t40
       go_enter Tryz.func182, Tryz.ntmps182
       go_wp2_with (go_at_call 62; refine hn.mono ?_; rintro e w1 ⟨rfl, hg1⟩; refine Hid.out ?_)
       have hP1 := hP0.kept hg1
       have hgw1 : (w.alloc exp0).grownBy w1 (some b) := grown_some hg1 b
       have p1 := hP1.st.c1
       have p2 := hP1.st.c2
       have fr1 := hP1.st.fr 1
       have hb1 := hP1.bl
       have n1 : ¬ b = w1.heap.size := by omega
       have n2 : ¬ b = w1.heap.size + 1 := by omega
       have hs1 := hgw1.size
       rw [World.size_alloc] at hs1
       have hA := radv_w hP1 hi
       have hPx : Rp (((w1.setCell ⟨b, 1, none⟩ (.int .i64 ((s.i : Int) + 1))).alloc (tO yk yt yn yu ya)).alloc (.cells #[.int .i64 0, .int .i64 0, .string ⟨#[]⟩, .int .i64 0, .int .i64 0, .int .i64 0, .int .i64 0, .slice none 0 0, .int .i64 (ya : Int)] 85)) b g cap T (Gram.Rf.adv s) := (hA.1.alloc _).alloc _
       have hgx0 : (w.alloc exp0).grownBy (((w1.setCell ⟨b, 1, none⟩ (.int .i64 ((s.i : Int) + 1))).alloc (tO yk yt yn yu ya)).alloc (.cells #[.int .i64 0, .int .i64 0, .string ⟨#[]⟩, .int .i64 0, .int .i64 0, .int .i64 0, .int .i64 0, .slice none 0 0, .int .i64 (ya : Int)] 85)) (some b) := galloc (galloc (hgw1.trans hA.2) _) _
       have hx0 : (((w1.setCell ⟨b, 1, none⟩ (.int .i64 ((s.i : Int) + 1))).alloc (tO yk yt yn yu ya)).alloc (.cells #[.int .i64 0, .int .i64 0, .string ⟨#[]⟩, .int .i64 0, .int .i64 0, .int .i64 0, .int .i64 0, .slice none 0 0, .int .i64 (ya : Int)] 85)).heap[w1.heap.size + 1]? = some (.cells #[.int .i64 0, .int .i64 0, .string ⟨#[]⟩, .int .i64 0, .int .i64 0, .int .i64 0, .int .i64 0, .slice none 0 0, .int .i64 (ya : Int)] 85 (0, 0)) := by
        have := heap_alloc2_new (w1.setCell ⟨b, 1, none⟩ (.int .i64 ((s.i : Int) + 1))) (tO yk yt yn yu ya) (.cells #[.int .i64 0, .int .i64 0, .string ⟨#[]⟩, .int .i64 0, .int .i64 0, .int .i64 0, .int .i64 0, .slice none 0 0, .int .i64 (ya : Int)] 85)
        rw [size_set] at this
        exact this
       have hsx : (((w1.setCell ⟨b, 1, none⟩ (.int .i64 ((s.i : Int) + 1))).alloc (tO yk yt yn yu ya)).alloc (.cells #[.int .i64 0, .int .i64 0, .string ⟨#[]⟩, .int .i64 0, .int .i64 0, .int .i64 0, .int .i64 0, .slice none 0 0, .int .i64 (ya : Int)] 85)).heap.size = w1.heap.size + 1 + 1 := by simp [World.size_alloc, size_set]
       clear hA
       have hc5 := hce _ hPx
       clear hce
       refine ld ?_
       go_wp2_with (go_at_call 166; refine hc5.mono ?_; rintro e w5 ⟨k5, rfl, hk5, hP5, hg5⟩; refine Hid.out ?_)
       obtain ⟨ka, kn, kc, rfl⟩ := hk5.form
       have hs5 := hg5.size
       rw [hsx] at hs5 hk5
       have hPy := hP5.alloc (.cells #[.int .i64 f1, .int .i64 s1', .string ⟨nm1.toArray⟩, .int .i64 tk1, .int .i64 tl1, .int .i64 n1', .int .i64 m1, .slice ka kn kc, .int .i64 a1] 85)
       have hTk := rtake_any b g cap T s2 ⟨#[41]⟩ _ hPy
       rw [show ((⟨#[41]⟩ : ByteArray)).data.toList = [41] from rfl] at hTk
       refine ld ?_
       go_wp2_with (go_at_call 99; refine hTk.mono ?_; rintro e w8 ⟨rfl, hP8, hg8⟩; refine Hid.out ?_)
       obtain ⟨c0, c1, c2, c3, c4, c5, c6, c7, c8, cf⟩ := Nc.of ((hg8.block w5.heap.size (by simp) (by simp; omega)).trans (heap_alloc_new w5 _))
       have hgx := (galloc (hgx0.trans hg5) _).trans hg8
       refine ld ?_
       go_wp2_with (with_reducible refine hold_st 2 ?_)
       refine sg ((hgx : (w.alloc exp0).grownBy _ (some b)).block w.heap.size (by simp) (by simp; omega) |>.trans (heap_alloc_new w exp0)) ?_
       intro w9 hh9 hg9
       go_wp2
       (try simp only [Exit.inBlock, Exit.then])
       refine br hh9 Tryz.underlying85 ?_
       have hG : w.grownBy w9 (some b) := ((grown_some (ga w exp0 none) b).trans hgx).andThen hg9 (fun j e => .inl (by cases e; exact Nat.le_refl _))
       exact ⟨_, rfl, RepC.mono (by omega) (RepC.kept hg9 (fun k e => by cases e; omega) (RepC.kept hg8 (fun k e => by cases e; omega) (RepC.kept (ga w5 _ none) (fun k e => by cases e) hk5))), HH.out.to hG (hP8.st.kept hg9 (by simp; omega)) hP8.lt, hG⟩
     ·rw [if_neg t40] at hf ⊢
      by_cases t91 : yt = [91]
      ·rw [if_pos t91] at hf ⊢
       cases hr : Gram.Rf.exps T f [] (Gram.Rf.adv s) with
       | none => rw [hr] at hf; cases hf
       | some r =>
        obtain ⟨l, s2⟩ := r
        simp only [Gram.Rf.bindS]
        have hce : ∀ wx, Rp wx b g cap T (Gram.Rf.adv s) → Calls Tryz.prog 184 #[.pointer (some ⟨b, 0, none⟩), .int .i64 0] wx fun e w' => rxPost wx b g cap T (some (l, s2)) e w' := fun wx hx => by
         have := rexps_any b g cap T f (fun f' hf' => hC f' (by omega)) (Gram.Rf.adv s) wx hx (by rw [hr]; rfl)
         rw [hr] at this
         exact this
        simp only [rxPost] at hce
        have e40 : (yt == [40]) = false := by rw [beq_eq_false_iff_ne]; exact t40
        have e91 : (yt == [91]) = true := by rw [beq_iff_eq]; exact t91
        clear hf hr t40 t91
        go_enter Tryz.func182, Tryz.ntmps182
        go_wp2_with (go_at_call 62; refine hn.mono ?_; rintro e w1 ⟨rfl, hg1⟩; refine Hid.out ?_)
        have hP1 := hP0.kept hg1
        have hgw1 : (w.alloc exp0).grownBy w1 (some b) := grown_some hg1 b
        have p1 := hP1.st.c1
        have p2 := hP1.st.c2
        have fr1 := hP1.st.fr 1
        have hb1 := hP1.bl
        have n1 : ¬ b = w1.heap.size := by omega
        have n2 : ¬ b = w1.heap.size + 1 := by omega
        have hs1 := hgw1.size
        rw [World.size_alloc] at hs1
        have hA := radv_w hP1 hi
        have hPx : Rp (((w1.setCell ⟨b, 1, none⟩ (.int .i64 ((s.i : Int) + 1))).alloc (tO yk yt yn yu ya)).alloc (.cells #[.int .i64 15, .int .i64 0, .string ⟨#[]⟩, .int .i64 0, .int .i64 0, .int .i64 0, .int .i64 0, .slice none 0 0, .int .i64 (ya : Int)] 85)) b g cap T (Gram.Rf.adv s) := (hA.1.alloc _).alloc _
        have hgx0 : (w.alloc exp0).grownBy (((w1.setCell ⟨b, 1, none⟩ (.int .i64 ((s.i : Int) + 1))).alloc (tO yk yt yn yu ya)).alloc (.cells #[.int .i64 15, .int .i64 0, .string ⟨#[]⟩, .int .i64 0, .int .i64 0, .int .i64 0, .int .i64 0, .slice none 0 0, .int .i64 (ya : Int)] 85)) (some b) := galloc (galloc (hgw1.trans hA.2) _) _
        have hx0 : (((w1.setCell ⟨b, 1, none⟩ (.int .i64 ((s.i : Int) + 1))).alloc (tO yk yt yn yu ya)).alloc (.cells #[.int .i64 15, .int .i64 0, .string ⟨#[]⟩, .int .i64 0, .int .i64 0, .int .i64 0, .int .i64 0, .slice none 0 0, .int .i64 (ya : Int)] 85)).heap[w1.heap.size + 1]? = some (.cells #[.int .i64 15, .int .i64 0, .string ⟨#[]⟩, .int .i64 0, .int .i64 0, .int .i64 0, .int .i64 0, .slice none 0 0, .int .i64 (ya : Int)] 85 (0, 0)) := by
         have := heap_alloc2_new (w1.setCell ⟨b, 1, none⟩ (.int .i64 ((s.i : Int) + 1))) (tO yk yt yn yu ya) (.cells #[.int .i64 15, .int .i64 0, .string ⟨#[]⟩, .int .i64 0, .int .i64 0, .int .i64 0, .int .i64 0, .slice none 0 0, .int .i64 (ya : Int)] 85)
         rw [size_set] at this
         exact this
        have hsx : (((w1.setCell ⟨b, 1, none⟩ (.int .i64 ((s.i : Int) + 1))).alloc (tO yk yt yn yu ya)).alloc (.cells #[.int .i64 15, .int .i64 0, .string ⟨#[]⟩, .int .i64 0, .int .i64 0, .int .i64 0, .int .i64 0, .slice none 0 0, .int .i64 (ya : Int)] 85)).heap.size = w1.heap.size + 1 + 1 := by simp [World.size_alloc, size_set]
        clear hA
        have hc5 := hce _ hPx
        clear hce
        refine ld ?_
        go_wp2_with (go_at_call 184; refine hc5.mono ?_; rintro e w7 ⟨v, rfl, hk7, hP7, hg7⟩; refine Hid.out ?_)
        rw [hsx] at hk7
        have hx7 := (hg7.block (w1.heap.size + 1) (by rw [hsx]; omega) (by simp; omega)).trans hx0
        have hgx7 := hgx0.trans hg7
        have hs7 := hg7.size
        rw [hsx] at hs7
        obtain ⟨ka, kn, kc, rfl⟩ := hk7.form
        obtain ⟨d0, d1, d2, d3, d4, d5, d6, d7, d8, df⟩ := Nc.of hx7
        have hs9 := Rp.setX hP0 hgx7 hP7 (xb := w1.heap.size + 1) (by rw [World.size_alloc]; omega) 7 (.slice ka kn kc)
        have hx9 := heap_setCell_same _ (w1.heap.size + 1) 7 _ _ (.slice ka kn kc) hx7
        have hkk := hk7.kept (gset (World.grownBy.refl w7 (some (w1.heap.size + 1))) (a := ⟨w1.heap.size + 1, 7, none⟩) (.inr rfl) (.slice ka kn kc)) (fun k e => by cases e; omega)
        have hTk := rtake_any b g cap T _ ⟨#[93]⟩ _ hs9.1
        rw [show ((⟨#[93]⟩ : ByteArray)).data.toList = [93] from rfl] at hTk
        have Hs9 := ld hs9
        have HX9 := ld hx9
        have HKK := ld hkk
        clear hs9 hx9 hkk
        refine ld ?_
        go_wp2_with (go_at_call 99; refine hTk.mono ?_; rintro e w8 ⟨rfl, hP8, hg8⟩; refine Hid.out ?_)
        have hx8 := (hg8.block (w1.heap.size + 1) (by rw [size_set]; omega) (by simp; omega)).trans HX9.out
        obtain ⟨e0, e1, e2, e3, e4, e5, e6, e7, e8, ef⟩ := Nc.of (by simpa using hx8)
        have hgx := Hs9.out.2.trans hg8
        refine ld ?_
        go_wp2_with (with_reducible refine hold_st 2 ?_)
        refine sg ((hgx : (w.alloc exp0).grownBy _ (some b)).block w.heap.size (by simp) (by simp; omega) |>.trans (heap_alloc_new w exp0)) ?_
        intro w9 hh9 hg9
        go_wp2
        (try simp only [Exit.inBlock, Exit.then])
        refine br hh9 Tryz.underlying85 ?_
        have hG : w.grownBy w9 (some b) := ((grown_some (ga w exp0 none) b).trans hgx).andThen hg9 (fun j e => .inl (by cases e; exact Nat.le_refl _))
        exact ⟨_, rfl, RepC.mono (by omega) (RepC.kept hg9 (fun k e => by cases e; omega) (HKK.out.kids.kept hg8 (by omega))), HH.out.to hG (hP8.st.kept hg9 (by simp; omega)) hP8.lt, hG⟩
      ·rw [if_neg t91]
       have e40 : (yt == [40]) = false := by rw [beq_eq_false_iff_ne]; exact t40
       have e91 : (yt == [91]) = false := by rw [beq_eq_false_iff_ne]; exact t91
       clear hf t40 t91
       go_enter Tryz.func182, Tryz.ntmps182
       go_wp2_with (go_at_call 62; refine hn.mono ?_; rintro e w1 ⟨rfl, hg1⟩; refine Hid.out ?_)
       have hP1 := hP0.kept hg1
       have hgw1 : (w.alloc exp0).grownBy w1 (some b) := grown_some hg1 b
       have p1 := hP1.st.c1
       have p2 := hP1.st.c2
       have fr1 := hP1.st.fr 1
       have hb1 := hP1.bl
       have n1 : ¬ b = w1.heap.size := by omega
       have n2 : ¬ b = w1.heap.size + 1 := by omega
       have hs1 := hgw1.size
       rw [World.size_alloc] at hs1
       have hPx := (hP1.alloc (tO yk yt yn yu ya)).alloc (.cells #[.int .i64 0, .int .i64 0, .string ⟨#[]⟩, .int .i64 0, .int .i64 0, .int .i64 0, .int .i64 0, .slice none 0 0, .int .i64 (ya : Int)] 85)
       have hF := rfail_any b g cap T s 12 _ hPx
       have hgx0 : (w.alloc exp0).grownBy ((w1.alloc (tO yk yt yn yu ya)).alloc (.cells #[.int .i64 0, .int .i64 0, .string ⟨#[]⟩, .int .i64 0, .int .i64 0, .int .i64 0, .int .i64 0, .slice none 0 0, .int .i64 (ya : Int)] 85)) (some b) := galloc (galloc hgw1 _) _
       have hx0 : ((w1.alloc (tO yk yt yn yu ya)).alloc (.cells #[.int .i64 0, .int .i64 0, .string ⟨#[]⟩, .int .i64 0, .int .i64 0, .int .i64 0, .int .i64 0, .slice none 0 0, .int .i64 (ya : Int)] 85)).heap[w1.heap.size + 1]? = some (.cells #[.int .i64 0, .int .i64 0, .string ⟨#[]⟩, .int .i64 0, .int .i64 0, .int .i64 0, .int .i64 0, .slice none 0 0, .int .i64 (ya : Int)] 85 (0, 0)) := heap_alloc2_new w1 _ _
       refine ld ?_
       go_wp2_with (first | (go_at_call 64; refine hF.mono ?_; rintro e w5 ⟨rfl, hP5, hg5⟩; refine Hid.out ?_))
       obtain ⟨c0, c1, c2, c3, c4, c5, c6, c7, c8, cf⟩ := Nc.of ((hg5.block (w1.heap.size + 1) (by simp) (by simp; omega)).trans hx0)
       have hgx := hgx0.trans hg5
       refine ld ?_
       go_wp2_with (with_reducible refine hold_st 2 ?_)
       refine sg ((hgx : (w.alloc exp0).grownBy _ (some b)).block w.heap.size (by simp) (by simp; omega) |>.trans (heap_alloc_new w exp0)) ?_
       intro w9 hh9 hg9
       go_wp2
       (try simp only [Exit.inBlock, Exit.then])
       refine br hh9 Tryz.underlying85 ?_
       have hG : w.grownBy w9 (some b) := ((grown_some (ga w exp0 none) b).trans hgx).andThen hg9 (fun j e => .inl (by cases e; exact Nat.le_refl _))
       exact ⟨_, rfl, Kids.nil _ _, HH.out.to hG (hP5.st.kept hg9 (by simp; omega)) hP5.lt, hG⟩
    ·rw [if_neg k4] at hf ⊢
     have q4 : (yk == 4) = false := by rw [beq_eq_false_iff_ne]; exact k4
     by_cases k3 : yk = 3
     ·rw [if_pos k3] at hf ⊢
      have q3 : (yk == 3) = true := by rw [beq_iff_eq]; exact k3
      have hWd2 : ∀ wx, Rp wx b g cap T s → _ := fun wx hx => hWd wx hx he k3 hf
      clear hWd
      cases hr : Gram.Rf.wordE T f ⟨yk, yt, yn, yu, ya⟩ s with
      | none => rw [hr] at hf; cases hf
      | some r =>
       obtain ⟨x, s2⟩ := r
       rw [hr] at hWd2
       cases x with
       | mk f1 s1' nm1 tk1 tl1 n1' m1 ks1 a1 =>
       simp only [rePost, expV] at hWd2
       clear hf hr k1 k2 k3 k4
       go_enter Tryz.func182, Tryz.ntmps182
       go_wp2_with (go_at_call 62; refine hn.mono ?_; rintro e w1 ⟨rfl, hg1⟩; refine Hid.out ?_)
       have hP1 := hP0.kept hg1
       have hgw1 : (w.alloc exp0).grownBy w1 (some b) := grown_some hg1 b
       have p1 := hP1.st.c1
       have p2 := hP1.st.c2
       have fr1 := hP1.st.fr 1
       have hb1 := hP1.bl
       have n1 : ¬ b = w1.heap.size := by omega
       have n2 : ¬ b = w1.heap.size + 1 := by omega
       have hs1 := hgw1.size
       rw [World.size_alloc] at hs1
       have hPx := (hP1.alloc (tO yk yt yn yu ya)).alloc (.cells #[.int .i64 0, .int .i64 0, .string ⟨#[]⟩, .int .i64 0, .int .i64 0, .int .i64 0, .int .i64 0, .slice none 0 0, .int .i64 (ya : Int)] 85)
       have hgx0 : (w.alloc exp0).grownBy ((w1.alloc (tO yk yt yn yu ya)).alloc (.cells #[.int .i64 0, .int .i64 0, .string ⟨#[]⟩, .int .i64 0, .int .i64 0, .int .i64 0, .int .i64 0, .slice none 0 0, .int .i64 (ya : Int)] 85)) (some b) := galloc (galloc hgw1 _) _
       have hc5 := hWd2 _ hPx
       clear hWd2
       refine ld ?_
       go_wp2_with (go_at_call 185; refine hc5.mono ?_; rintro e w5 ⟨k5, rfl, hk5, hP5, hg5⟩; refine Hid.out ?_)
       obtain ⟨ka, kn, kc, rfl⟩ := hk5.form
       have hgx := hgx0.trans hg5
       simp only [World.size_alloc] at hk5
       refine ld ?_
       go_wp2_with (with_reducible refine hold_st 2 ?_)
       refine sg ((hgx : (w.alloc exp0).grownBy _ (some b)).block w.heap.size (by simp) (by simp; omega) |>.trans (heap_alloc_new w exp0)) ?_
       intro w9 hh9 hg9
       go_wp2
       (try simp only [Exit.inBlock, Exit.then])
       refine br hh9 Tryz.underlying85 ?_
       have hG : w.grownBy w9 (some b) := ((grown_some (ga w exp0 none) b).trans hgx).andThen hg9 (fun j e => .inl (by cases e; exact Nat.le_refl _))
       exact ⟨_, rfl, RepC.mono (by omega) (RepC.kept hg9 (fun k e => by cases e; omega) hk5), HH.out.to hG (hP5.st.kept hg9 (by simp; omega)) hP5.lt, hG⟩
     ·rw [if_neg k3]
      have q3 : (yk == 3) = false := by rw [beq_eq_false_iff_ne]; exact k3
      clear k1 k2 k3 k4 hf
      go_enter Tryz.func182, Tryz.ntmps182
      go_wp2_with (go_at_call 62; refine hn.mono ?_; rintro e w1 ⟨rfl, hg1⟩; refine Hid.out ?_)
      have hP1 := hP0.kept hg1
      have hgw1 : (w.alloc exp0).grownBy w1 (some b) := grown_some hg1 b
      have p1 := hP1.st.c1
      have p2 := hP1.st.c2
      have fr1 := hP1.st.fr 1
      have hb1 := hP1.bl
      have n1 : ¬ b = w1.heap.size := by omega
      have n2 : ¬ b = w1.heap.size + 1 := by omega
      have hs1 := hgw1.size
      rw [World.size_alloc] at hs1
      have hPx := (hP1.alloc (tO yk yt yn yu ya)).alloc (.cells #[.int .i64 0, .int .i64 0, .string ⟨#[]⟩, .int .i64 0, .int .i64 0, .int .i64 0, .int .i64 0, .slice none 0 0, .int .i64 (ya : Int)] 85)
      have hF := rfail_any b g cap T s 12 _ hPx
      have hgx0 : (w.alloc exp0).grownBy ((w1.alloc (tO yk yt yn yu ya)).alloc (.cells #[.int .i64 0, .int .i64 0, .string ⟨#[]⟩, .int .i64 0, .int .i64 0, .int .i64 0, .int .i64 0, .slice none 0 0, .int .i64 (ya : Int)] 85)) (some b) := galloc (galloc hgw1 _) _
      have hx0 : ((w1.alloc (tO yk yt yn yu ya)).alloc (.cells #[.int .i64 0, .int .i64 0, .string ⟨#[]⟩, .int .i64 0, .int .i64 0, .int .i64 0, .int .i64 0, .slice none 0 0, .int .i64 (ya : Int)] 85)).heap[w1.heap.size + 1]? = some (.cells #[.int .i64 0, .int .i64 0, .string ⟨#[]⟩, .int .i64 0, .int .i64 0, .int .i64 0, .int .i64 0, .slice none 0 0, .int .i64 (ya : Int)] 85 (0, 0)) := heap_alloc2_new w1 _ _
      refine ld ?_
      go_wp2_with (first | (go_at_call 64; refine hF.mono ?_; rintro e w5 ⟨rfl, hP5, hg5⟩; refine Hid.out ?_))
      obtain ⟨c0, c1, c2, c3, c4, c5, c6, c7, c8, cf⟩ := Nc.of ((hg5.block (w1.heap.size + 1) (by simp) (by simp; omega)).trans hx0)
      have hgx := hgx0.trans hg5
      refine ld ?_
      go_wp2_with (with_reducible refine hold_st 2 ?_)
      refine sg ((hgx : (w.alloc exp0).grownBy _ (some b)).block w.heap.size (by simp) (by simp; omega) |>.trans (heap_alloc_new w exp0)) ?_
      intro w9 hh9 hg9
      go_wp2
      (try simp only [Exit.inBlock, Exit.then])
      refine br hh9 Tryz.underlying85 ?_
      have hG : w.grownBy w9 (some b) := ((grown_some (ga w exp0 none) b).trans hgx).andThen hg9 (fun j e => .inl (by cases e; exact Nat.le_refl _))
      exact ⟨_, rfl, Kids.nil _ _, HH.out.to hG (hP5.st.kept hg9 (by simp; omega)) hP5.lt, hG⟩
 ·rw [if_neg he]
  have b0 : (s.e != 0) = true := bne_f (by rw [beq_eq_false_iff_ne]; exact he)
  clear he hf
  go_enter Tryz.func182, Tryz.ntmps182
  go_wp2_with (go_at_call 62; refine hn.mono ?_; rintro e w1 ⟨rfl, hg1⟩; refine Hid.out ?_)
  have hP1 := hP0.kept hg1
  have hgw1 : (w.alloc exp0).grownBy w1 (some b) := grown_some hg1 b
  have p1 := hP1.st.c1
  have p2 := hP1.st.c2
  have fr1 := hP1.st.fr 1
  have hb1 := hP1.bl
  have n1 : ¬ b = w1.heap.size := by omega
  have n2 : ¬ b = w1.heap.size + 1 := by omega
  have hs1 := hgw1.size
  rw [World.size_alloc] at hs1
  have hPx := (hP1.alloc (tO yk yt yn yu ya)).alloc (.cells #[.int .i64 0, .int .i64 0, .string ⟨#[]⟩, .int .i64 0, .int .i64 0, .int .i64 0, .int .i64 0, .slice none 0 0, .int .i64 (ya : Int)] 85)
  have hgx0 : (w.alloc exp0).grownBy ((w1.alloc (tO yk yt yn yu ya)).alloc (.cells #[.int .i64 0, .int .i64 0, .string ⟨#[]⟩, .int .i64 0, .int .i64 0, .int .i64 0, .int .i64 0, .slice none 0 0, .int .i64 (ya : Int)] 85)) (some b) := galloc (galloc hgw1 _) _
  refine ld ?_
  go_wp2_with (with_reducible refine hold_st 2 ?_)
  refine sg ((hgx0 : (w.alloc exp0).grownBy _ (some b)).block w.heap.size (by simp) (by simp; omega) |>.trans (heap_alloc_new w exp0)) ?_
  intro w9 hh9 hg9
  go_wp2
  (try simp only [Exit.inBlock, Exit.then])
  refine br hh9 Tryz.underlying85 ?_
  have hG : w.grownBy w9 (some b) := ((grown_some (ga w exp0 none) b).trans hgx0).andThen hg9 (fun j e => .inl (by cases e; exact Nat.le_refl _))
  exact ⟨_, rfl, Kids.nil _ _, HH.out.to hG (hPx.st.kept hg9 (by simp; omega)) hPx.lt, hG⟩
end
end Go.Proofs.YtbbamgjdnibldaaGreat
