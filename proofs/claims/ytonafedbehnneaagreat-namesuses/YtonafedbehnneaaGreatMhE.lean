/- My texts RpLb RpLc RpLd RpLe RpLf RpLg, joined. -/
import Derived.Test.YtonafedbehnneaaGreatMhD
set_option linter.unusedVariables false
set_option linter.unusedSimpArgs false
set_option linter.unnecessarySimpa false
set_option linter.unusedSectionVars false
set_option maxHeartbeats 12800000
set_option maxRecDepth 20000
namespace Go.Proofs.YtonafedbehnneaaGreat
open Go.RowKit Go.Maps Go.WideMaps
section
variable (b g cap : Nat) (T : List Lex.Tk)
theorem rword_when (f : Nat) (hC : ∀ f', f' ≤ f → CRex b g cap T 88 (Gram.Rf.exp T f')) (s : Gram.Rf.St) (w : World) (h : Rp w b g cap T s) (yk yn yu : Int) (yt : List UInt8) (ya : Nat) (hw : yt = [119, 104, 101, 110]) (hi : s.i + 1 < T.length) (hf : (Gram.Rf.wordE T (f + 1) ⟨yk, yt, yn, yu, ya⟩ s).isSome = true) :
  Calls Tryz.prog 119 #[.pointer (some ⟨b, 0, none⟩), .agg #[.int .i64 yk, .string ⟨yt.toArray⟩, .int .i64 yn, .int .i64 yu, .int .i64 0, .int .i64 (ya : Int)]] w fun e w' => rePost w b g cap T (Gram.Rf.wordE T (f + 1) ⟨yk, yt, yn, yu, ya⟩ s) e w' := by
 have hbw := h.bl
 have hm := h.toks.most
 have HH := ld h
 have p1 := h.st.c1
 have fr1 := h.st.fr 1
 have nb0 : ¬ b = w.heap.size := by omega
 have nb1 : ¬ b = w.heap.size + 1 := by omega
 have nb2 : ¬ b = w.heap.size + 1 + 1 := by omega
 have nb3 : ¬ b = w.heap.size + 1 + 1 := by omega
 rw [Gram.Rf.wordE] at hf ⊢
 simp only at hf ⊢
 rw [if_neg (show ¬ yt = [116, 114, 117, 101] by rw [hw]; decide)] at hf ⊢
 rw [if_neg (show ¬ yt = [102, 97, 108, 115, 101] by rw [hw]; decide)] at hf ⊢
 rw [if_neg (show ¬ yt = [105, 102] by rw [hw]; decide)] at hf ⊢
 rw [if_pos (show yt = [119, 104, 101, 110] from hw)] at hf ⊢
 have e_true : (yt == [116, 114, 117, 101]) = false := by rw [hw]; rfl
 have e_false : (yt == [102, 97, 108, 115, 101]) = false := by rw [hw]; rfl
 have e_if : (yt == [105, 102]) = false := by rw [hw]; rfl
 have e_when : (yt == [119, 104, 101, 110]) = true := by rw [hw]; rfl
 have e_merge : (yt == [109, 101, 114, 103, 101]) = false := by rw [hw]; rfl
 have e_cast : (yt == [99, 97, 115, 116]) = false := by rw [hw]; rfl
 have e_tick : (yt == [116, 105, 99, 107]) = false := by rw [hw]; rfl
 have e_reset : (yt == [114, 101, 115, 101, 116]) = false := by rw [hw]; rfl
 have e_rep : (yt == [114, 101, 112]) = false := by rw [hw]; rfl
 have e_map : (yt == [109, 97, 112]) = false := by rw [hw]; rfl
 have e_fold : (yt == [102, 111, 108, 100]) = false := by rw [hw]; rfl
 cases hr2 : Gram.Rf.exp T f (Gram.Rf.take T [40] (Gram.Rf.adv s)) with
 | none => rw [hr2] at hf; cases hf
 | some r2 =>
 obtain ⟨x2, t2⟩ := r2
 rw [hr2] at hf
 simp only [Gram.Rf.bindS] at hf ⊢
 cases x2 with
 | mk f2 s2' nm2 tk2 tl2 n2' m2 ks2 a2 =>
 have hce2 : ∀ wx, Rp wx b g cap T (Gram.Rf.take T [40] (Gram.Rf.adv s)) → Calls Tryz.prog 88 #[.pointer (some ⟨b, 0, none⟩)] wx fun e w' => rePost wx b g cap T (some ((Gram.Exp.mk f2 s2' nm2 tk2 tl2 n2' m2 ks2 a2), t2)) e w' := fun wx hx => by
  have := hC f (Nat.le_refl _) (Gram.Rf.take T [40] (Gram.Rf.adv s)) wx hx
  rw [hr2] at this
  exact this rfl
 simp only [rePost, expV] at hce2
 clear hr2
 have hce3 := fun wx hx => redge_any b g cap T (Gram.Rf.take T [44] t2) wx hx
 generalize Gram.Rf.edge T (Gram.Rf.take T [44] t2) = r3 at *
 obtain ⟨⟨gn, go⟩, t3⟩ := r3
 simp only at hce3 ⊢
 clear hf hw
 cases go with
 | true =>
  have H : Wd w ((((w.alloc (tO yk yt yn yu ya)).alloc exp0).alloc (.cells #[.int .i64 0, .int .i64 0, .string ⟨#[]⟩, .int .i64 0, .int .i64 0, .int .i64 0, .int .i64 0, .slice none 0 0, .int .i64 (ya : Int)] 37))) b g cap T (s) (tO yk yt yn yu ya) #[.int .i64 0, .int .i64 0, .string ⟨#[]⟩, .int .i64 0, .int .i64 0, .int .i64 0, .int .i64 0, .slice none 0 0, .int .i64 (ya : Int)] := ⟨((h.alloc _).alloc _).alloc _, galloc (galloc (galloc (World.grownBy.refl w (some b)) _) _) _, heap3_0 w _ _ _, heap3_1 w _ _ _, heap3_2 w _ _ _, hbw⟩
  have q1 := H.p.st.c1
  have qf := H.p.st.fr 1
  unfold exp0 at q1 qf
  have H : Wd w (((((w.alloc (tO yk yt yn yu ya)).alloc exp0).alloc (.cells #[.int .i64 0, .int .i64 0, .string ⟨#[]⟩, .int .i64 0, .int .i64 0, .int .i64 0, .int .i64 0, .slice none 0 0, .int .i64 (ya : Int)] 37))).setCell ⟨b, 1, none⟩ (.int .i64 ((s.i : Int) + 1))) b g cap T (Gram.Rf.adv s) (tO yk yt yn yu ya) #[.int .i64 0, .int .i64 0, .string ⟨#[]⟩, .int .i64 0, .int .i64 0, .int .i64 0, .int .i64 0, .slice none 0 0, .int .i64 (ya : Int)] := H.adv hi
  go_enter Tryz.func119, Tryz.ntmps119
  refine Hid.out ?_
  have hcc := rtake_any b g cap T (Gram.Rf.adv s) ⟨#[40]⟩ _ H.p
  have hzp1 := Wd.sz H
  rw [show ((⟨#[40]⟩ : ByteArray)).data.toList = [40] from rfl] at hcc
  have HHH := ld H
  clear H
  refine ld ?_
  go_wp2_with (go_at_call 64; refine hcc.mono ?_; rintro e w11 ⟨rfl, hpz, hgz⟩; refine Hid.out ?_)
  have H := HHH.out
  clear HHH hcc
  have hsz1 := hgz.size
  have H : Wd w (w11) b g cap T (Gram.Rf.take T [40] (Gram.Rf.adv s)) (tO yk yt yn yu ya) #[.int .i64 0, .int .i64 0, .string ⟨#[]⟩, .int .i64 0, .int .i64 0, .int .i64 0, .int .i64 0, .slice none 0 0, .int .i64 (ya : Int)] := H.step hgz hpz
  have hzq1 := Wd.sz H
  have hgk := hgz
  clear hgz hpz
  obtain ⟨c0, c1, c2, c3, c4, c5, c6, c7, c8, cf⟩ := Nc.of H.x'
  have ct := Wd.text H
  have H : Wd w ((w11).setCell ⟨w.heap.size + 1 + 1, 0, none⟩ (.int .i64 9)) b g cap T (Gram.Rf.take T [40] (Gram.Rf.adv s)) (tO yk yt yn yu ya) #[.int .i64 9, .int .i64 0, .string ⟨#[]⟩, .int .i64 0, .int .i64 0, .int .i64 0, .int .i64 0, .slice none 0 0, .int .i64 (ya : Int)] := Wd.set h H 0 (.int .i64 9)
  have hcc := hce2 _ H.p
  have hzp2 := Wd.sz H
  have HHH := ld H
  clear H
  refine ld ?_
  go_wp2_with (go_at_call 88; refine hcc.mono ?_; rintro e w12 ⟨k2, rfl, hk2, hpz, hgz⟩; refine Hid.out ?_)
  clear c0 c1 c2 c3 c4 c5 c6 c7 c8 cf ct
  have H := HHH.out
  clear HHH hcc
  have hsz2 := hgz.size
  have H : Wd w (w12) b g cap T (t2) (tO yk yt yn yu ya) #[.int .i64 9, .int .i64 0, .string ⟨#[]⟩, .int .i64 0, .int .i64 0, .int .i64 0, .int .i64 0, .slice none 0 0, .int .i64 (ya : Int)] := H.step hgz hpz
  have hzq2 := Wd.sz H
  have hgk := hgz
  clear hgz hpz
  obtain ⟨c0, c1, c2, c3, c4, c5, c6, c7, c8, cf⟩ := Nc.of H.x'
  have ct := Wd.text H
  obtain ⟨ka2, kn2, kc2, rfl⟩ := hk2.form
  have hkset := RepC.kept (gset (World.grownBy.refl w12 (some (w.heap.size + 1 + 1))) (a := ⟨w.heap.size + 1 + 1, 7, none⟩) (.inr rfl) (.slice (some ⟨w12.heap.size, 0, none⟩) 1 1)) (fun k e => by cases e; omega) (show RepC _ _ [] _ _ from hk2)
  have H : Wd w ((w12).setCell ⟨w.heap.size + 1 + 1, 7, none⟩ (.slice (some ⟨w12.heap.size, 0, none⟩) 1 1)) b g cap T (t2) (tO yk yt yn yu ya) #[.int .i64 9, .int .i64 0, .string ⟨#[]⟩, .int .i64 0, .int .i64 0, .int .i64 0, .int .i64 0, .slice (some ⟨w12.heap.size, 0, none⟩) 1 1, .int .i64 (ya : Int)] := Wd.set h H 7 (.slice (some ⟨w12.heap.size, 0, none⟩) 1 1)
  have H : Wd w (((w12).setCell ⟨w.heap.size + 1 + 1, 7, none⟩ (.slice (some ⟨w12.heap.size, 0, none⟩) 1 1)).alloc (.cells #[.int .i64 f2, .int .i64 s2', .string ⟨nm2.toArray⟩, .int .i64 tk2, .int .i64 tl2, .int .i64 n2', .int .i64 m2, .slice ka2 kn2 kc2, .int .i64 a2] 37)) b g cap T (t2) (tO yk yt yn yu ya) #[.int .i64 9, .int .i64 0, .string ⟨#[]⟩, .int .i64 0, .int .i64 0, .int .i64 0, .int .i64 0, .slice (some ⟨w12.heap.size, 0, none⟩) 1 1, .int .i64 (ya : Int)] := Wd.alloc H (.cells #[.int .i64 f2, .int .i64 s2', .string ⟨nm2.toArray⟩, .int .i64 tk2, .int .i64 tl2, .int .i64 n2', .int .i64 m2, .slice ka2 kn2 kc2, .int .i64 a2] 37)
  have hKL : Kids (((w12).setCell ⟨w.heap.size + 1 + 1, 7, none⟩ (.slice (some ⟨w12.heap.size, 0, none⟩) 1 1)).alloc (.cells #[.int .i64 f2, .int .i64 s2', .string ⟨nm2.toArray⟩, .int .i64 tk2, .int .i64 tl2, .int .i64 n2', .int .i64 m2, .slice ka2 kn2 kc2, .int .i64 a2] 37)) (w.heap.size + 3) [(Gram.Exp.mk f2 s2' nm2 tk2 tl2 n2' m2 ks2 a2)] (.slice (some ⟨w12.heap.size, 0, none⟩) 1 1) := by
   have ho := owns_new (w := w12.setCell ⟨w.heap.size + 1 + 1, 7, none⟩ (.slice (some ⟨w12.heap.size, 0, none⟩) 1 1)) (B := w.heap.size + 3) 37 9 1 (expCells (Gram.Exp.mk f2 s2' nm2 tk2 tl2 n2' m2 ks2 a2) (.slice ka2 kn2 kc2)) (by rw [size_set]; omega) rfl (by unfold maxLen; omega)
   rw [size_set] at ho
   exact KidsX.one' ho (fun k e => by cases e) (RepC.kept (ga _ _ none) (fun k e => by cases e) (RepC.mono (by omega) hkset))
  clear hkset hk2
  have hcc := rtake_any b g cap T (t2) ⟨#[44]⟩ _ H.p
  have hzp3 := Wd.sz H
  rw [show ((⟨#[44]⟩ : ByteArray)).data.toList = [44] from rfl] at hcc
  have HHH := ld H
  clear H
  refine ld ?_
  go_wp2_with (go_at_call 64; refine hcc.mono ?_; rintro e w13 ⟨rfl, hpz, hgz⟩; refine Hid.out ?_)
  clear c0 c1 c2 c3 c4 c5 c6 c7 c8 cf ct
  have H := HHH.out
  clear HHH hcc
  have hsz3 := hgz.size
  have H : Wd w (w13) b g cap T (Gram.Rf.take T [44] (t2)) (tO yk yt yn yu ya) #[.int .i64 9, .int .i64 0, .string ⟨#[]⟩, .int .i64 0, .int .i64 0, .int .i64 0, .int .i64 0, .slice (some ⟨w12.heap.size, 0, none⟩) 1 1, .int .i64 (ya : Int)] := H.step hgz hpz
  have hzq3 := Wd.sz H
  have hgk := hgz
  clear hgz hpz
  obtain ⟨c0, c1, c2, c3, c4, c5, c6, c7, c8, cf⟩ := Nc.of H.x'
  have ct := Wd.text H
  have hKL := Kids.kept hKL hgk (by omega)
  have hcc := hce3 _ H.p
  have hzp4 := Wd.sz H
  have HHH := ld H
  clear H
  refine ld ?_
  go_wp2_with (go_at_call 86; refine hcc.mono ?_; rintro e w14 ⟨rfl, hpz, hgz⟩; refine Hid.out ?_)
  clear c0 c1 c2 c3 c4 c5 c6 c7 c8 cf ct
  have H := HHH.out
  clear HHH hcc
  have hsz4 := hgz.size
  have H : Wd w (w14) b g cap T (t3) (tO yk yt yn yu ya) #[.int .i64 9, .int .i64 0, .string ⟨#[]⟩, .int .i64 0, .int .i64 0, .int .i64 0, .int .i64 0, .slice (some ⟨w12.heap.size, 0, none⟩) 1 1, .int .i64 (ya : Int)] := H.step hgz hpz
  have hzq4 := Wd.sz H
  have hgk := hgz
  clear hgz hpz
  obtain ⟨c0, c1, c2, c3, c4, c5, c6, c7, c8, cf⟩ := Nc.of H.x'
  have ct := Wd.text H
  have hKL := Kids.kept hKL hgk (by omega)
  have H : Wd w ((w14).setCell ⟨w.heap.size + 1 + 1, 2, none⟩ (.string ⟨gn.toArray⟩)) b g cap T (t3) (tO yk yt yn yu ya) #[.int .i64 9, .int .i64 0, .string ⟨gn.toArray⟩, .int .i64 0, .int .i64 0, .int .i64 0, .int .i64 0, .slice (some ⟨w12.heap.size, 0, none⟩) 1 1, .int .i64 (ya : Int)] := Wd.set h H 2 (.string ⟨gn.toArray⟩)
  have hKL := Kids.setX (w := w) (by omega) 2 (.string ⟨gn.toArray⟩) hKL
  have H : Wd w (((w14).setCell ⟨w.heap.size + 1 + 1, 2, none⟩ (.string ⟨gn.toArray⟩)).setCell ⟨w.heap.size + 1 + 1, 5, none⟩ (.int .i64 1)) b g cap T (t3) (tO yk yt yn yu ya) #[.int .i64 9, .int .i64 0, .string ⟨gn.toArray⟩, .int .i64 0, .int .i64 0, .int .i64 1, .int .i64 0, .slice (some ⟨w12.heap.size, 0, none⟩) 1 1, .int .i64 (ya : Int)] := Wd.set h H 5 (.int .i64 1)
  have hKL := Kids.setX (w := w) (by omega) 5 (.int .i64 1) hKL
  have H : Wd w ((((w14).setCell ⟨w.heap.size + 1 + 1, 2, none⟩ (.string ⟨gn.toArray⟩)).setCell ⟨w.heap.size + 1 + 1, 5, none⟩ (.int .i64 1)).alloc (.cells #[.string ⟨gn.toArray⟩, .bool true] 126)) b g cap T (t3) (tO yk yt yn yu ya) #[.int .i64 9, .int .i64 0, .string ⟨gn.toArray⟩, .int .i64 0, .int .i64 0, .int .i64 1, .int .i64 0, .slice (some ⟨w12.heap.size, 0, none⟩) 1 1, .int .i64 (ya : Int)] := Wd.alloc H (.cells #[.string ⟨gn.toArray⟩, .bool true] 126)
  have hKL := Kids.kept0 hKL (ga _ (.cells #[.string ⟨gn.toArray⟩, .bool true] 126) none)
  have hcc := rtake_any b g cap T (t3) ⟨#[41]⟩ _ H.p
  have hzp5 := Wd.sz H
  rw [show ((⟨#[41]⟩ : ByteArray)).data.toList = [41] from rfl] at hcc
  have HHH := ld H
  clear H
  refine ld ?_
  go_wp2_with (go_at_call 64; refine hcc.mono ?_; rintro e w15 ⟨rfl, hpz, hgz⟩; refine Hid.out ?_)
  clear c0 c1 c2 c3 c4 c5 c6 c7 c8 cf ct
  have H := HHH.out
  clear HHH hcc
  have hsz5 := hgz.size
  have H : Wd w (w15) b g cap T (Gram.Rf.take T [41] (t3)) (tO yk yt yn yu ya) #[.int .i64 9, .int .i64 0, .string ⟨gn.toArray⟩, .int .i64 0, .int .i64 0, .int .i64 1, .int .i64 0, .slice (some ⟨w12.heap.size, 0, none⟩) 1 1, .int .i64 (ya : Int)] := H.step hgz hpz
  have hzq5 := Wd.sz H
  have hgk := hgz
  clear hgz hpz
  obtain ⟨c0, c1, c2, c3, c4, c5, c6, c7, c8, cf⟩ := Nc.of H.x'
  have ct := Wd.text H
  have hKL := Kids.kept hKL hgk (by omega)
  have HF := ld H
  have hr1 := H.r
  have hgx := H.g'
  clear H
  refine ld ?_
  go_wp2_with (with_reducible refine hold_st 4 ?_)
  refine wpList_store_gen rfl _ _ _ rfl (w.heap.size + 1) #[.int .i64 9, .int .i64 0, .string ⟨gn.toArray⟩, .int .i64 0, .int .i64 0, .int .i64 1, .int .i64 0, .slice (some ⟨w12.heap.size, 0, none⟩) 1 1, .int .i64 (ya : Int)] rfl rfl 37 _ hr1 (by kernel_rfl) rfl (by simp [Value.oneCell']) ?_
  intro w9 hh9 hg9
  go_wp2
  (try simp only [Exit.inBlock, Exit.then])
  refine br hh9 Tryz.underlying37 ?_
  have hG : w.grownBy w9 (some b) := hgx.andThen hg9 (fun j e => .inl (by cases e; omega))
  exact ⟨_, rfl, RepC.mono (by omega) (RepC.kept hg9 (fun k e => by cases e; omega) hKL), HH.out.to hG (HF.out.p.st.kept hg9 (by simp; omega)) HF.out.p.lt, hG⟩
 | false =>
  have H : Wd w ((((w.alloc (tO yk yt yn yu ya)).alloc exp0).alloc (.cells #[.int .i64 0, .int .i64 0, .string ⟨#[]⟩, .int .i64 0, .int .i64 0, .int .i64 0, .int .i64 0, .slice none 0 0, .int .i64 (ya : Int)] 37))) b g cap T (s) (tO yk yt yn yu ya) #[.int .i64 0, .int .i64 0, .string ⟨#[]⟩, .int .i64 0, .int .i64 0, .int .i64 0, .int .i64 0, .slice none 0 0, .int .i64 (ya : Int)] := ⟨((h.alloc _).alloc _).alloc _, galloc (galloc (galloc (World.grownBy.refl w (some b)) _) _) _, heap3_0 w _ _ _, heap3_1 w _ _ _, heap3_2 w _ _ _, hbw⟩
  have q1 := H.p.st.c1
  have qf := H.p.st.fr 1
  unfold exp0 at q1 qf
  have H : Wd w (((((w.alloc (tO yk yt yn yu ya)).alloc exp0).alloc (.cells #[.int .i64 0, .int .i64 0, .string ⟨#[]⟩, .int .i64 0, .int .i64 0, .int .i64 0, .int .i64 0, .slice none 0 0, .int .i64 (ya : Int)] 37))).setCell ⟨b, 1, none⟩ (.int .i64 ((s.i : Int) + 1))) b g cap T (Gram.Rf.adv s) (tO yk yt yn yu ya) #[.int .i64 0, .int .i64 0, .string ⟨#[]⟩, .int .i64 0, .int .i64 0, .int .i64 0, .int .i64 0, .slice none 0 0, .int .i64 (ya : Int)] := H.adv hi
  go_enter Tryz.func119, Tryz.ntmps119
  refine Hid.out ?_
  have hcc := rtake_any b g cap T (Gram.Rf.adv s) ⟨#[40]⟩ _ H.p
  have hzp1 := Wd.sz H
  rw [show ((⟨#[40]⟩ : ByteArray)).data.toList = [40] from rfl] at hcc
  have HHH := ld H
  clear H
  refine ld ?_
  go_wp2_with (go_at_call 64; refine hcc.mono ?_; rintro e w11 ⟨rfl, hpz, hgz⟩; refine Hid.out ?_)
  have H := HHH.out
  clear HHH hcc
  have hsz1 := hgz.size
  have H : Wd w (w11) b g cap T (Gram.Rf.take T [40] (Gram.Rf.adv s)) (tO yk yt yn yu ya) #[.int .i64 0, .int .i64 0, .string ⟨#[]⟩, .int .i64 0, .int .i64 0, .int .i64 0, .int .i64 0, .slice none 0 0, .int .i64 (ya : Int)] := H.step hgz hpz
  have hzq1 := Wd.sz H
  have hgk := hgz
  clear hgz hpz
  obtain ⟨c0, c1, c2, c3, c4, c5, c6, c7, c8, cf⟩ := Nc.of H.x'
  have ct := Wd.text H
  have H : Wd w ((w11).setCell ⟨w.heap.size + 1 + 1, 0, none⟩ (.int .i64 9)) b g cap T (Gram.Rf.take T [40] (Gram.Rf.adv s)) (tO yk yt yn yu ya) #[.int .i64 9, .int .i64 0, .string ⟨#[]⟩, .int .i64 0, .int .i64 0, .int .i64 0, .int .i64 0, .slice none 0 0, .int .i64 (ya : Int)] := Wd.set h H 0 (.int .i64 9)
  have hcc := hce2 _ H.p
  have hzp2 := Wd.sz H
  have HHH := ld H
  clear H
  refine ld ?_
  go_wp2_with (go_at_call 88; refine hcc.mono ?_; rintro e w12 ⟨k2, rfl, hk2, hpz, hgz⟩; refine Hid.out ?_)
  clear c0 c1 c2 c3 c4 c5 c6 c7 c8 cf ct
  have H := HHH.out
  clear HHH hcc
  have hsz2 := hgz.size
  have H : Wd w (w12) b g cap T (t2) (tO yk yt yn yu ya) #[.int .i64 9, .int .i64 0, .string ⟨#[]⟩, .int .i64 0, .int .i64 0, .int .i64 0, .int .i64 0, .slice none 0 0, .int .i64 (ya : Int)] := H.step hgz hpz
  have hzq2 := Wd.sz H
  have hgk := hgz
  clear hgz hpz
  obtain ⟨c0, c1, c2, c3, c4, c5, c6, c7, c8, cf⟩ := Nc.of H.x'
  have ct := Wd.text H
  obtain ⟨ka2, kn2, kc2, rfl⟩ := hk2.form
  have hkset := RepC.kept (gset (World.grownBy.refl w12 (some (w.heap.size + 1 + 1))) (a := ⟨w.heap.size + 1 + 1, 7, none⟩) (.inr rfl) (.slice (some ⟨w12.heap.size, 0, none⟩) 1 1)) (fun k e => by cases e; omega) (show RepC _ _ [] _ _ from hk2)
  have H : Wd w ((w12).setCell ⟨w.heap.size + 1 + 1, 7, none⟩ (.slice (some ⟨w12.heap.size, 0, none⟩) 1 1)) b g cap T (t2) (tO yk yt yn yu ya) #[.int .i64 9, .int .i64 0, .string ⟨#[]⟩, .int .i64 0, .int .i64 0, .int .i64 0, .int .i64 0, .slice (some ⟨w12.heap.size, 0, none⟩) 1 1, .int .i64 (ya : Int)] := Wd.set h H 7 (.slice (some ⟨w12.heap.size, 0, none⟩) 1 1)
  have H : Wd w (((w12).setCell ⟨w.heap.size + 1 + 1, 7, none⟩ (.slice (some ⟨w12.heap.size, 0, none⟩) 1 1)).alloc (.cells #[.int .i64 f2, .int .i64 s2', .string ⟨nm2.toArray⟩, .int .i64 tk2, .int .i64 tl2, .int .i64 n2', .int .i64 m2, .slice ka2 kn2 kc2, .int .i64 a2] 37)) b g cap T (t2) (tO yk yt yn yu ya) #[.int .i64 9, .int .i64 0, .string ⟨#[]⟩, .int .i64 0, .int .i64 0, .int .i64 0, .int .i64 0, .slice (some ⟨w12.heap.size, 0, none⟩) 1 1, .int .i64 (ya : Int)] := Wd.alloc H (.cells #[.int .i64 f2, .int .i64 s2', .string ⟨nm2.toArray⟩, .int .i64 tk2, .int .i64 tl2, .int .i64 n2', .int .i64 m2, .slice ka2 kn2 kc2, .int .i64 a2] 37)
  have hKL : Kids (((w12).setCell ⟨w.heap.size + 1 + 1, 7, none⟩ (.slice (some ⟨w12.heap.size, 0, none⟩) 1 1)).alloc (.cells #[.int .i64 f2, .int .i64 s2', .string ⟨nm2.toArray⟩, .int .i64 tk2, .int .i64 tl2, .int .i64 n2', .int .i64 m2, .slice ka2 kn2 kc2, .int .i64 a2] 37)) (w.heap.size + 3) [(Gram.Exp.mk f2 s2' nm2 tk2 tl2 n2' m2 ks2 a2)] (.slice (some ⟨w12.heap.size, 0, none⟩) 1 1) := by
   have ho := owns_new (w := w12.setCell ⟨w.heap.size + 1 + 1, 7, none⟩ (.slice (some ⟨w12.heap.size, 0, none⟩) 1 1)) (B := w.heap.size + 3) 37 9 1 (expCells (Gram.Exp.mk f2 s2' nm2 tk2 tl2 n2' m2 ks2 a2) (.slice ka2 kn2 kc2)) (by rw [size_set]; omega) rfl (by unfold maxLen; omega)
   rw [size_set] at ho
   exact KidsX.one' ho (fun k e => by cases e) (RepC.kept (ga _ _ none) (fun k e => by cases e) (RepC.mono (by omega) hkset))
  clear hkset hk2
  have hcc := rtake_any b g cap T (t2) ⟨#[44]⟩ _ H.p
  have hzp3 := Wd.sz H
  rw [show ((⟨#[44]⟩ : ByteArray)).data.toList = [44] from rfl] at hcc
  have HHH := ld H
  clear H
  refine ld ?_
  go_wp2_with (go_at_call 64; refine hcc.mono ?_; rintro e w13 ⟨rfl, hpz, hgz⟩; refine Hid.out ?_)
  clear c0 c1 c2 c3 c4 c5 c6 c7 c8 cf ct
  have H := HHH.out
  clear HHH hcc
  have hsz3 := hgz.size
  have H : Wd w (w13) b g cap T (Gram.Rf.take T [44] (t2)) (tO yk yt yn yu ya) #[.int .i64 9, .int .i64 0, .string ⟨#[]⟩, .int .i64 0, .int .i64 0, .int .i64 0, .int .i64 0, .slice (some ⟨w12.heap.size, 0, none⟩) 1 1, .int .i64 (ya : Int)] := H.step hgz hpz
  have hzq3 := Wd.sz H
  have hgk := hgz
  clear hgz hpz
  obtain ⟨c0, c1, c2, c3, c4, c5, c6, c7, c8, cf⟩ := Nc.of H.x'
  have ct := Wd.text H
  have hKL := Kids.kept hKL hgk (by omega)
  have hcc := hce3 _ H.p
  have hzp4 := Wd.sz H
  have HHH := ld H
  clear H
  refine ld ?_
  go_wp2_with (go_at_call 86; refine hcc.mono ?_; rintro e w14 ⟨rfl, hpz, hgz⟩; refine Hid.out ?_)
  clear c0 c1 c2 c3 c4 c5 c6 c7 c8 cf ct
  have H := HHH.out
  clear HHH hcc
  have hsz4 := hgz.size
  have H : Wd w (w14) b g cap T (t3) (tO yk yt yn yu ya) #[.int .i64 9, .int .i64 0, .string ⟨#[]⟩, .int .i64 0, .int .i64 0, .int .i64 0, .int .i64 0, .slice (some ⟨w12.heap.size, 0, none⟩) 1 1, .int .i64 (ya : Int)] := H.step hgz hpz
  have hzq4 := Wd.sz H
  have hgk := hgz
  clear hgz hpz
  obtain ⟨c0, c1, c2, c3, c4, c5, c6, c7, c8, cf⟩ := Nc.of H.x'
  have ct := Wd.text H
  have hKL := Kids.kept hKL hgk (by omega)
  have H : Wd w ((w14).setCell ⟨w.heap.size + 1 + 1, 2, none⟩ (.string ⟨gn.toArray⟩)) b g cap T (t3) (tO yk yt yn yu ya) #[.int .i64 9, .int .i64 0, .string ⟨gn.toArray⟩, .int .i64 0, .int .i64 0, .int .i64 0, .int .i64 0, .slice (some ⟨w12.heap.size, 0, none⟩) 1 1, .int .i64 (ya : Int)] := Wd.set h H 2 (.string ⟨gn.toArray⟩)
  have hKL := Kids.setX (w := w) (by omega) 2 (.string ⟨gn.toArray⟩) hKL
  have H : Wd w (((w14).setCell ⟨w.heap.size + 1 + 1, 2, none⟩ (.string ⟨gn.toArray⟩)).alloc (.cells #[.string ⟨gn.toArray⟩, .bool false] 126)) b g cap T (t3) (tO yk yt yn yu ya) #[.int .i64 9, .int .i64 0, .string ⟨gn.toArray⟩, .int .i64 0, .int .i64 0, .int .i64 0, .int .i64 0, .slice (some ⟨w12.heap.size, 0, none⟩) 1 1, .int .i64 (ya : Int)] := Wd.alloc H (.cells #[.string ⟨gn.toArray⟩, .bool false] 126)
  have hKL := Kids.kept0 hKL (ga _ (.cells #[.string ⟨gn.toArray⟩, .bool false] 126) none)
  have hcc := rtake_any b g cap T (t3) ⟨#[41]⟩ _ H.p
  have hzp5 := Wd.sz H
  rw [show ((⟨#[41]⟩ : ByteArray)).data.toList = [41] from rfl] at hcc
  have HHH := ld H
  clear H
  refine ld ?_
  go_wp2_with (go_at_call 64; refine hcc.mono ?_; rintro e w15 ⟨rfl, hpz, hgz⟩; refine Hid.out ?_)
  clear c0 c1 c2 c3 c4 c5 c6 c7 c8 cf ct
  have H := HHH.out
  clear HHH hcc
  have hsz5 := hgz.size
  have H : Wd w (w15) b g cap T (Gram.Rf.take T [41] (t3)) (tO yk yt yn yu ya) #[.int .i64 9, .int .i64 0, .string ⟨gn.toArray⟩, .int .i64 0, .int .i64 0, .int .i64 0, .int .i64 0, .slice (some ⟨w12.heap.size, 0, none⟩) 1 1, .int .i64 (ya : Int)] := H.step hgz hpz
  have hzq5 := Wd.sz H
  have hgk := hgz
  clear hgz hpz
  obtain ⟨c0, c1, c2, c3, c4, c5, c6, c7, c8, cf⟩ := Nc.of H.x'
  have ct := Wd.text H
  have hKL := Kids.kept hKL hgk (by omega)
  have HF := ld H
  have hr1 := H.r
  have hgx := H.g'
  clear H
  refine ld ?_
  go_wp2_with (with_reducible refine hold_st 4 ?_)
  refine wpList_store_gen rfl _ _ _ rfl (w.heap.size + 1) #[.int .i64 9, .int .i64 0, .string ⟨gn.toArray⟩, .int .i64 0, .int .i64 0, .int .i64 0, .int .i64 0, .slice (some ⟨w12.heap.size, 0, none⟩) 1 1, .int .i64 (ya : Int)] rfl rfl 37 _ hr1 (by kernel_rfl) rfl (by simp [Value.oneCell']) ?_
  intro w9 hh9 hg9
  go_wp2
  (try simp only [Exit.inBlock, Exit.then])
  refine br hh9 Tryz.underlying37 ?_
  have hG : w.grownBy w9 (some b) := hgx.andThen hg9 (fun j e => .inl (by cases e; omega))
  exact ⟨_, rfl, RepC.mono (by omega) (RepC.kept hg9 (fun k e => by cases e; omega) hKL), HH.out.to hG (HF.out.p.st.kept hg9 (by simp; omega)) HF.out.p.lt, hG⟩
end
open Go.RowKit Go.Maps Go.WideMaps
section
variable (b g cap : Nat) (T : List Lex.Tk)
theorem rword_tick (f : Nat) (hC : ∀ f', f' ≤ f → CRex b g cap T 88 (Gram.Rf.exp T f')) (s : Gram.Rf.St) (w : World) (h : Rp w b g cap T s) (yk yn yu : Int) (yt : List UInt8) (ya : Nat) (hw : yt = [116, 105, 99, 107]) (hi : s.i + 1 < T.length) (hf : (Gram.Rf.wordE T (f + 1) ⟨yk, yt, yn, yu, ya⟩ s).isSome = true) :
  Calls Tryz.prog 119 #[.pointer (some ⟨b, 0, none⟩), .agg #[.int .i64 yk, .string ⟨yt.toArray⟩, .int .i64 yn, .int .i64 yu, .int .i64 0, .int .i64 (ya : Int)]] w fun e w' => rePost w b g cap T (Gram.Rf.wordE T (f + 1) ⟨yk, yt, yn, yu, ya⟩ s) e w' := by
 have hbw := h.bl
 have hm := h.toks.most
 have HH := ld h
 have p1 := h.st.c1
 have fr1 := h.st.fr 1
 have nb0 : ¬ b = w.heap.size := by omega
 have nb1 : ¬ b = w.heap.size + 1 := by omega
 have nb2 : ¬ b = w.heap.size + 1 + 1 := by omega
 have nb3 : ¬ b = w.heap.size + 1 + 1 := by omega
 rw [Gram.Rf.wordE] at hf ⊢
 simp only at hf ⊢
 rw [if_neg (show ¬ yt = [116, 114, 117, 101] by rw [hw]; decide)] at hf ⊢
 rw [if_neg (show ¬ yt = [102, 97, 108, 115, 101] by rw [hw]; decide)] at hf ⊢
 rw [if_neg (show ¬ yt = [105, 102] by rw [hw]; decide)] at hf ⊢
 rw [if_neg (show ¬ yt = [119, 104, 101, 110] by rw [hw]; decide)] at hf ⊢
 rw [if_neg (show ¬ yt = [109, 101, 114, 103, 101] by rw [hw]; decide)] at hf ⊢
 rw [if_neg (show ¬ yt = [99, 97, 115, 116] by rw [hw]; decide)] at hf ⊢
 rw [if_pos (show yt = [116, 105, 99, 107] from hw)] at hf ⊢
 have e_true : (yt == [116, 114, 117, 101]) = false := by rw [hw]; rfl
 have e_false : (yt == [102, 97, 108, 115, 101]) = false := by rw [hw]; rfl
 have e_if : (yt == [105, 102]) = false := by rw [hw]; rfl
 have e_when : (yt == [119, 104, 101, 110]) = false := by rw [hw]; rfl
 have e_merge : (yt == [109, 101, 114, 103, 101]) = false := by rw [hw]; rfl
 have e_cast : (yt == [99, 97, 115, 116]) = false := by rw [hw]; rfl
 have e_tick : (yt == [116, 105, 99, 107]) = true := by rw [hw]; rfl
 have e_reset : (yt == [114, 101, 115, 101, 116]) = false := by rw [hw]; rfl
 have e_rep : (yt == [114, 101, 112]) = false := by rw [hw]; rfl
 have e_map : (yt == [109, 97, 112]) = false := by rw [hw]; rfl
 have e_fold : (yt == [102, 111, 108, 100]) = false := by rw [hw]; rfl
 clear hf
 clear hw
 have H : Wd w ((((w.alloc (tO yk yt yn yu ya)).alloc exp0).alloc (.cells #[.int .i64 0, .int .i64 0, .string ⟨#[]⟩, .int .i64 0, .int .i64 0, .int .i64 0, .int .i64 0, .slice none 0 0, .int .i64 (ya : Int)] 37))) b g cap T (s) (tO yk yt yn yu ya) #[.int .i64 0, .int .i64 0, .string ⟨#[]⟩, .int .i64 0, .int .i64 0, .int .i64 0, .int .i64 0, .slice none 0 0, .int .i64 (ya : Int)] := ⟨((h.alloc _).alloc _).alloc _, galloc (galloc (galloc (World.grownBy.refl w (some b)) _) _) _, heap3_0 w _ _ _, heap3_1 w _ _ _, heap3_2 w _ _ _, hbw⟩
 have q1 := H.p.st.c1
 have qf := H.p.st.fr 1
 unfold exp0 at q1 qf
 have H : Wd w (((((w.alloc (tO yk yt yn yu ya)).alloc exp0).alloc (.cells #[.int .i64 0, .int .i64 0, .string ⟨#[]⟩, .int .i64 0, .int .i64 0, .int .i64 0, .int .i64 0, .slice none 0 0, .int .i64 (ya : Int)] 37))).setCell ⟨b, 1, none⟩ (.int .i64 ((s.i : Int) + 1))) b g cap T (Gram.Rf.adv s) (tO yk yt yn yu ya) #[.int .i64 0, .int .i64 0, .string ⟨#[]⟩, .int .i64 0, .int .i64 0, .int .i64 0, .int .i64 0, .slice none 0 0, .int .i64 (ya : Int)] := H.adv hi
 go_enter Tryz.func119, Tryz.ntmps119
 refine Hid.out ?_
 have hcc := rtake_any b g cap T (Gram.Rf.adv s) ⟨#[40]⟩ _ H.p
 have hzp1 := Wd.sz H
 rw [show ((⟨#[40]⟩ : ByteArray)).data.toList = [40] from rfl] at hcc
 have HHH := ld H
 clear H
 refine ld ?_
 go_wp2_with (go_at_call 64; refine hcc.mono ?_; rintro e w11 ⟨rfl, hpz, hgz⟩; refine Hid.out ?_)
 have H := HHH.out
 clear HHH hcc
 have hsz1 := hgz.size
 have H : Wd w (w11) b g cap T (Gram.Rf.take T [40] (Gram.Rf.adv s)) (tO yk yt yn yu ya) #[.int .i64 0, .int .i64 0, .string ⟨#[]⟩, .int .i64 0, .int .i64 0, .int .i64 0, .int .i64 0, .slice none 0 0, .int .i64 (ya : Int)] := H.step hgz hpz
 have hzq1 := Wd.sz H
 have hgk := hgz
 clear hgz hpz
 obtain ⟨c0, c1, c2, c3, c4, c5, c6, c7, c8, cf⟩ := Nc.of H.x'
 have ct := Wd.text H
 have H : Wd w ((w11).setCell ⟨w.heap.size + 1 + 1, 0, none⟩ (.int .i64 12)) b g cap T (Gram.Rf.take T [40] (Gram.Rf.adv s)) (tO yk yt yn yu ya) #[.int .i64 12, .int .i64 0, .string ⟨#[]⟩, .int .i64 0, .int .i64 0, .int .i64 0, .int .i64 0, .slice none 0 0, .int .i64 (ya : Int)] := Wd.set h H 0 (.int .i64 12)
 have hcc := rsize_any b g cap T (Gram.Rf.take T [40] (Gram.Rf.adv s)) _ H.p
 have hzp2 := Wd.sz H
 have HHH := ld H
 clear H
 refine ld ?_
 go_wp2_with (go_at_call 85; refine hcc.mono ?_; rintro e w12 ⟨rfl, hpz, hgz⟩; refine Hid.out ?_)
 clear c0 c1 c2 c3 c4 c5 c6 c7 c8 cf ct
 have H := HHH.out
 clear HHH hcc
 have hsz2 := hgz.size
 have H : Wd w (w12) b g cap T ((Gram.Rf.size T (Gram.Rf.take T [40] (Gram.Rf.adv s))).2) (tO yk yt yn yu ya) #[.int .i64 12, .int .i64 0, .string ⟨#[]⟩, .int .i64 0, .int .i64 0, .int .i64 0, .int .i64 0, .slice none 0 0, .int .i64 (ya : Int)] := H.step hgz hpz
 have hzq2 := Wd.sz H
 have hgk := hgz
 clear hgz hpz
 obtain ⟨c0, c1, c2, c3, c4, c5, c6, c7, c8, cf⟩ := Nc.of H.x'
 have ct := Wd.text H
 have H : Wd w ((w12).setCell ⟨w.heap.size + 1 + 1, 5, none⟩ (.int .i64 (Gram.Rf.size T (Gram.Rf.take T [40] (Gram.Rf.adv s))).1)) b g cap T ((Gram.Rf.size T (Gram.Rf.take T [40] (Gram.Rf.adv s))).2) (tO yk yt yn yu ya) #[.int .i64 12, .int .i64 0, .string ⟨#[]⟩, .int .i64 0, .int .i64 0, .int .i64 (Gram.Rf.size T (Gram.Rf.take T [40] (Gram.Rf.adv s))).1, .int .i64 0, .slice none 0 0, .int .i64 (ya : Int)] := Wd.set h H 5 (.int .i64 (Gram.Rf.size T (Gram.Rf.take T [40] (Gram.Rf.adv s))).1)
 have hcc := rtake_any b g cap T ((Gram.Rf.size T (Gram.Rf.take T [40] (Gram.Rf.adv s))).2) ⟨#[44]⟩ _ H.p
 have hzp3 := Wd.sz H
 rw [show ((⟨#[44]⟩ : ByteArray)).data.toList = [44] from rfl] at hcc
 have HHH := ld H
 clear H
 refine ld ?_
 go_wp2_with (go_at_call 64; refine hcc.mono ?_; rintro e w13 ⟨rfl, hpz, hgz⟩; refine Hid.out ?_)
 clear c0 c1 c2 c3 c4 c5 c6 c7 c8 cf ct
 have H := HHH.out
 clear HHH hcc
 have hsz3 := hgz.size
 have H : Wd w (w13) b g cap T (Gram.Rf.take T [44] ((Gram.Rf.size T (Gram.Rf.take T [40] (Gram.Rf.adv s))).2)) (tO yk yt yn yu ya) #[.int .i64 12, .int .i64 0, .string ⟨#[]⟩, .int .i64 0, .int .i64 0, .int .i64 (Gram.Rf.size T (Gram.Rf.take T [40] (Gram.Rf.adv s))).1, .int .i64 0, .slice none 0 0, .int .i64 (ya : Int)] := H.step hgz hpz
 have hzq3 := Wd.sz H
 have hgk := hgz
 clear hgz hpz
 obtain ⟨c0, c1, c2, c3, c4, c5, c6, c7, c8, cf⟩ := Nc.of H.x'
 have ct := Wd.text H
 have hcc := rsize_any b g cap T (Gram.Rf.take T [44] ((Gram.Rf.size T (Gram.Rf.take T [40] (Gram.Rf.adv s))).2)) _ H.p
 have hzp4 := Wd.sz H
 have HHH := ld H
 clear H
 refine ld ?_
 go_wp2_with (go_at_call 85; refine hcc.mono ?_; rintro e w14 ⟨rfl, hpz, hgz⟩; refine Hid.out ?_)
 clear c0 c1 c2 c3 c4 c5 c6 c7 c8 cf ct
 have H := HHH.out
 clear HHH hcc
 have hsz4 := hgz.size
 have H : Wd w (w14) b g cap T ((Gram.Rf.size T (Gram.Rf.take T [44] ((Gram.Rf.size T (Gram.Rf.take T [40] (Gram.Rf.adv s))).2))).2) (tO yk yt yn yu ya) #[.int .i64 12, .int .i64 0, .string ⟨#[]⟩, .int .i64 0, .int .i64 0, .int .i64 (Gram.Rf.size T (Gram.Rf.take T [40] (Gram.Rf.adv s))).1, .int .i64 0, .slice none 0 0, .int .i64 (ya : Int)] := H.step hgz hpz
 have hzq4 := Wd.sz H
 have hgk := hgz
 clear hgz hpz
 obtain ⟨c0, c1, c2, c3, c4, c5, c6, c7, c8, cf⟩ := Nc.of H.x'
 have ct := Wd.text H
 have H : Wd w ((w14).setCell ⟨w.heap.size + 1 + 1, 6, none⟩ (.int .i64 (Gram.Rf.size T (Gram.Rf.take T [44] ((Gram.Rf.size T (Gram.Rf.take T [40] (Gram.Rf.adv s))).2))).1)) b g cap T ((Gram.Rf.size T (Gram.Rf.take T [44] ((Gram.Rf.size T (Gram.Rf.take T [40] (Gram.Rf.adv s))).2))).2) (tO yk yt yn yu ya) #[.int .i64 12, .int .i64 0, .string ⟨#[]⟩, .int .i64 0, .int .i64 0, .int .i64 (Gram.Rf.size T (Gram.Rf.take T [40] (Gram.Rf.adv s))).1, .int .i64 (Gram.Rf.size T (Gram.Rf.take T [44] ((Gram.Rf.size T (Gram.Rf.take T [40] (Gram.Rf.adv s))).2))).1, .slice none 0 0, .int .i64 (ya : Int)] := Wd.set h H 6 (.int .i64 (Gram.Rf.size T (Gram.Rf.take T [44] ((Gram.Rf.size T (Gram.Rf.take T [40] (Gram.Rf.adv s))).2))).1)
 have hcc := rtake_any b g cap T ((Gram.Rf.size T (Gram.Rf.take T [44] ((Gram.Rf.size T (Gram.Rf.take T [40] (Gram.Rf.adv s))).2))).2) ⟨#[41]⟩ _ H.p
 have hzp5 := Wd.sz H
 rw [show ((⟨#[41]⟩ : ByteArray)).data.toList = [41] from rfl] at hcc
 have HHH := ld H
 clear H
 refine ld ?_
 go_wp2_with (go_at_call 64; refine hcc.mono ?_; rintro e w15 ⟨rfl, hpz, hgz⟩; refine Hid.out ?_)
 clear c0 c1 c2 c3 c4 c5 c6 c7 c8 cf ct
 have H := HHH.out
 clear HHH hcc
 have hsz5 := hgz.size
 have H : Wd w (w15) b g cap T (Gram.Rf.take T [41] ((Gram.Rf.size T (Gram.Rf.take T [44] ((Gram.Rf.size T (Gram.Rf.take T [40] (Gram.Rf.adv s))).2))).2)) (tO yk yt yn yu ya) #[.int .i64 12, .int .i64 0, .string ⟨#[]⟩, .int .i64 0, .int .i64 0, .int .i64 (Gram.Rf.size T (Gram.Rf.take T [40] (Gram.Rf.adv s))).1, .int .i64 (Gram.Rf.size T (Gram.Rf.take T [44] ((Gram.Rf.size T (Gram.Rf.take T [40] (Gram.Rf.adv s))).2))).1, .slice none 0 0, .int .i64 (ya : Int)] := H.step hgz hpz
 have hzq5 := Wd.sz H
 have hgk := hgz
 clear hgz hpz
 obtain ⟨c0, c1, c2, c3, c4, c5, c6, c7, c8, cf⟩ := Nc.of H.x'
 have ct := Wd.text H
 have HF := ld H
 have hr1 := H.r
 have hgx := H.g'
 clear H
 refine ld ?_
 go_wp2_with (with_reducible refine hold_st 4 ?_)
 refine wpList_store_gen rfl _ _ _ rfl (w.heap.size + 1) #[.int .i64 12, .int .i64 0, .string ⟨#[]⟩, .int .i64 0, .int .i64 0, .int .i64 (Gram.Rf.size T (Gram.Rf.take T [40] (Gram.Rf.adv s))).1, .int .i64 (Gram.Rf.size T (Gram.Rf.take T [44] ((Gram.Rf.size T (Gram.Rf.take T [40] (Gram.Rf.adv s))).2))).1, .slice none 0 0, .int .i64 (ya : Int)] rfl rfl 37 _ hr1 (by kernel_rfl) rfl (by simp [Value.oneCell']) ?_
 intro w9 hh9 hg9
 go_wp2
 (try simp only [Exit.inBlock, Exit.then])
 refine br hh9 Tryz.underlying37 ?_
 have hG : w.grownBy w9 (some b) := hgx.andThen hg9 (fun j e => .inl (by cases e; omega))
 exact ⟨_, rfl, Kids.nil _ _, HH.out.to hG (HF.out.p.st.kept hg9 (by simp; omega)) HF.out.p.lt, hG⟩
end
open Go.RowKit Go.Maps Go.WideMaps
section
variable (b g cap : Nat) (T : List Lex.Tk)
theorem rword_rep (f : Nat) (hC : ∀ f', f' ≤ f → CRex b g cap T 88 (Gram.Rf.exp T f')) (s : Gram.Rf.St) (w : World) (h : Rp w b g cap T s) (yk yn yu : Int) (yt : List UInt8) (ya : Nat) (hw : yt = [114, 101, 112]) (hi : s.i + 1 < T.length) (hf : (Gram.Rf.wordE T (f + 1) ⟨yk, yt, yn, yu, ya⟩ s).isSome = true) :
  Calls Tryz.prog 119 #[.pointer (some ⟨b, 0, none⟩), .agg #[.int .i64 yk, .string ⟨yt.toArray⟩, .int .i64 yn, .int .i64 yu, .int .i64 0, .int .i64 (ya : Int)]] w fun e w' => rePost w b g cap T (Gram.Rf.wordE T (f + 1) ⟨yk, yt, yn, yu, ya⟩ s) e w' := by
 have hbw := h.bl
 have hm := h.toks.most
 have HH := ld h
 have p1 := h.st.c1
 have fr1 := h.st.fr 1
 have nb0 : ¬ b = w.heap.size := by omega
 have nb1 : ¬ b = w.heap.size + 1 := by omega
 have nb2 : ¬ b = w.heap.size + 1 + 1 := by omega
 have nb3 : ¬ b = w.heap.size + 1 + 1 := by omega
 rw [Gram.Rf.wordE] at hf ⊢
 simp only at hf ⊢
 rw [if_neg (show ¬ yt = [116, 114, 117, 101] by rw [hw]; decide)] at hf ⊢
 rw [if_neg (show ¬ yt = [102, 97, 108, 115, 101] by rw [hw]; decide)] at hf ⊢
 rw [if_neg (show ¬ yt = [105, 102] by rw [hw]; decide)] at hf ⊢
 rw [if_neg (show ¬ yt = [119, 104, 101, 110] by rw [hw]; decide)] at hf ⊢
 rw [if_neg (show ¬ yt = [109, 101, 114, 103, 101] by rw [hw]; decide)] at hf ⊢
 rw [if_neg (show ¬ yt = [99, 97, 115, 116] by rw [hw]; decide)] at hf ⊢
 rw [if_neg (show ¬ yt = [116, 105, 99, 107] by rw [hw]; decide)] at hf ⊢
 rw [if_neg (show ¬ yt = [114, 101, 115, 101, 116] by rw [hw]; decide)] at hf ⊢
 rw [if_pos (show yt = [114, 101, 112] from hw)] at hf ⊢
 have e_true : (yt == [116, 114, 117, 101]) = false := by rw [hw]; rfl
 have e_false : (yt == [102, 97, 108, 115, 101]) = false := by rw [hw]; rfl
 have e_if : (yt == [105, 102]) = false := by rw [hw]; rfl
 have e_when : (yt == [119, 104, 101, 110]) = false := by rw [hw]; rfl
 have e_merge : (yt == [109, 101, 114, 103, 101]) = false := by rw [hw]; rfl
 have e_cast : (yt == [99, 97, 115, 116]) = false := by rw [hw]; rfl
 have e_tick : (yt == [116, 105, 99, 107]) = false := by rw [hw]; rfl
 have e_reset : (yt == [114, 101, 115, 101, 116]) = false := by rw [hw]; rfl
 have e_rep : (yt == [114, 101, 112]) = true := by rw [hw]; rfl
 have e_map : (yt == [109, 97, 112]) = false := by rw [hw]; rfl
 have e_fold : (yt == [102, 111, 108, 100]) = false := by rw [hw]; rfl
 cases hr2 : Gram.Rf.exp T f (Gram.Rf.take T [40] (Gram.Rf.adv s)) with
 | none => rw [hr2] at hf; cases hf
 | some r2 =>
 obtain ⟨x2, t2⟩ := r2
 rw [hr2] at hf
 simp only [Gram.Rf.bindS] at hf ⊢
 cases x2 with
 | mk f2 s2' nm2 tk2 tl2 n2' m2 ks2 a2 =>
 have hce2 : ∀ wx, Rp wx b g cap T (Gram.Rf.take T [40] (Gram.Rf.adv s)) → Calls Tryz.prog 88 #[.pointer (some ⟨b, 0, none⟩)] wx fun e w' => rePost wx b g cap T (some ((Gram.Exp.mk f2 s2' nm2 tk2 tl2 n2' m2 ks2 a2), t2)) e w' := fun wx hx => by
  have := hC f (Nat.le_refl _) (Gram.Rf.take T [40] (Gram.Rf.adv s)) wx hx
  rw [hr2] at this
  exact this rfl
 simp only [rePost, expV] at hce2
 clear hr2
 clear hf
 clear hw
 have H : Wd w ((((w.alloc (tO yk yt yn yu ya)).alloc exp0).alloc (.cells #[.int .i64 0, .int .i64 0, .string ⟨#[]⟩, .int .i64 0, .int .i64 0, .int .i64 0, .int .i64 0, .slice none 0 0, .int .i64 (ya : Int)] 37))) b g cap T (s) (tO yk yt yn yu ya) #[.int .i64 0, .int .i64 0, .string ⟨#[]⟩, .int .i64 0, .int .i64 0, .int .i64 0, .int .i64 0, .slice none 0 0, .int .i64 (ya : Int)] := ⟨((h.alloc _).alloc _).alloc _, galloc (galloc (galloc (World.grownBy.refl w (some b)) _) _) _, heap3_0 w _ _ _, heap3_1 w _ _ _, heap3_2 w _ _ _, hbw⟩
 have q1 := H.p.st.c1
 have qf := H.p.st.fr 1
 unfold exp0 at q1 qf
 have H : Wd w (((((w.alloc (tO yk yt yn yu ya)).alloc exp0).alloc (.cells #[.int .i64 0, .int .i64 0, .string ⟨#[]⟩, .int .i64 0, .int .i64 0, .int .i64 0, .int .i64 0, .slice none 0 0, .int .i64 (ya : Int)] 37))).setCell ⟨b, 1, none⟩ (.int .i64 ((s.i : Int) + 1))) b g cap T (Gram.Rf.adv s) (tO yk yt yn yu ya) #[.int .i64 0, .int .i64 0, .string ⟨#[]⟩, .int .i64 0, .int .i64 0, .int .i64 0, .int .i64 0, .slice none 0 0, .int .i64 (ya : Int)] := H.adv hi
 go_enter Tryz.func119, Tryz.ntmps119
 refine Hid.out ?_
 have hcc := rtake_any b g cap T (Gram.Rf.adv s) ⟨#[40]⟩ _ H.p
 have hzp1 := Wd.sz H
 rw [show ((⟨#[40]⟩ : ByteArray)).data.toList = [40] from rfl] at hcc
 have HHH := ld H
 clear H
 refine ld ?_
 go_wp2_with (go_at_call 64; refine hcc.mono ?_; rintro e w11 ⟨rfl, hpz, hgz⟩; refine Hid.out ?_)
 have H := HHH.out
 clear HHH hcc
 have hsz1 := hgz.size
 have H : Wd w (w11) b g cap T (Gram.Rf.take T [40] (Gram.Rf.adv s)) (tO yk yt yn yu ya) #[.int .i64 0, .int .i64 0, .string ⟨#[]⟩, .int .i64 0, .int .i64 0, .int .i64 0, .int .i64 0, .slice none 0 0, .int .i64 (ya : Int)] := H.step hgz hpz
 have hzq1 := Wd.sz H
 have hgk := hgz
 clear hgz hpz
 obtain ⟨c0, c1, c2, c3, c4, c5, c6, c7, c8, cf⟩ := Nc.of H.x'
 have ct := Wd.text H
 have H : Wd w ((w11).setCell ⟨w.heap.size + 1 + 1, 0, none⟩ (.int .i64 17)) b g cap T (Gram.Rf.take T [40] (Gram.Rf.adv s)) (tO yk yt yn yu ya) #[.int .i64 17, .int .i64 0, .string ⟨#[]⟩, .int .i64 0, .int .i64 0, .int .i64 0, .int .i64 0, .slice none 0 0, .int .i64 (ya : Int)] := Wd.set h H 0 (.int .i64 17)
 have hcc := hce2 _ H.p
 have hzp2 := Wd.sz H
 have HHH := ld H
 clear H
 refine ld ?_
 go_wp2_with (go_at_call 88; refine hcc.mono ?_; rintro e w12 ⟨k2, rfl, hk2, hpz, hgz⟩; refine Hid.out ?_)
 clear c0 c1 c2 c3 c4 c5 c6 c7 c8 cf ct
 have H := HHH.out
 clear HHH hcc
 have hsz2 := hgz.size
 have H : Wd w (w12) b g cap T (t2) (tO yk yt yn yu ya) #[.int .i64 17, .int .i64 0, .string ⟨#[]⟩, .int .i64 0, .int .i64 0, .int .i64 0, .int .i64 0, .slice none 0 0, .int .i64 (ya : Int)] := H.step hgz hpz
 have hzq2 := Wd.sz H
 have hgk := hgz
 clear hgz hpz
 obtain ⟨c0, c1, c2, c3, c4, c5, c6, c7, c8, cf⟩ := Nc.of H.x'
 have ct := Wd.text H
 obtain ⟨ka2, kn2, kc2, rfl⟩ := hk2.form
 have hkset := RepC.kept (gset (World.grownBy.refl w12 (some (w.heap.size + 1 + 1))) (a := ⟨w.heap.size + 1 + 1, 7, none⟩) (.inr rfl) (.slice (some ⟨w12.heap.size, 0, none⟩) 1 1)) (fun k e => by cases e; omega) (show RepC _ _ [] _ _ from hk2)
 have H : Wd w ((w12).setCell ⟨w.heap.size + 1 + 1, 7, none⟩ (.slice (some ⟨w12.heap.size, 0, none⟩) 1 1)) b g cap T (t2) (tO yk yt yn yu ya) #[.int .i64 17, .int .i64 0, .string ⟨#[]⟩, .int .i64 0, .int .i64 0, .int .i64 0, .int .i64 0, .slice (some ⟨w12.heap.size, 0, none⟩) 1 1, .int .i64 (ya : Int)] := Wd.set h H 7 (.slice (some ⟨w12.heap.size, 0, none⟩) 1 1)
 have H : Wd w (((w12).setCell ⟨w.heap.size + 1 + 1, 7, none⟩ (.slice (some ⟨w12.heap.size, 0, none⟩) 1 1)).alloc (.cells #[.int .i64 f2, .int .i64 s2', .string ⟨nm2.toArray⟩, .int .i64 tk2, .int .i64 tl2, .int .i64 n2', .int .i64 m2, .slice ka2 kn2 kc2, .int .i64 a2] 37)) b g cap T (t2) (tO yk yt yn yu ya) #[.int .i64 17, .int .i64 0, .string ⟨#[]⟩, .int .i64 0, .int .i64 0, .int .i64 0, .int .i64 0, .slice (some ⟨w12.heap.size, 0, none⟩) 1 1, .int .i64 (ya : Int)] := Wd.alloc H (.cells #[.int .i64 f2, .int .i64 s2', .string ⟨nm2.toArray⟩, .int .i64 tk2, .int .i64 tl2, .int .i64 n2', .int .i64 m2, .slice ka2 kn2 kc2, .int .i64 a2] 37)
 have hKL : Kids (((w12).setCell ⟨w.heap.size + 1 + 1, 7, none⟩ (.slice (some ⟨w12.heap.size, 0, none⟩) 1 1)).alloc (.cells #[.int .i64 f2, .int .i64 s2', .string ⟨nm2.toArray⟩, .int .i64 tk2, .int .i64 tl2, .int .i64 n2', .int .i64 m2, .slice ka2 kn2 kc2, .int .i64 a2] 37)) (w.heap.size + 3) [(Gram.Exp.mk f2 s2' nm2 tk2 tl2 n2' m2 ks2 a2)] (.slice (some ⟨w12.heap.size, 0, none⟩) 1 1) := by
  have ho := owns_new (w := w12.setCell ⟨w.heap.size + 1 + 1, 7, none⟩ (.slice (some ⟨w12.heap.size, 0, none⟩) 1 1)) (B := w.heap.size + 3) 37 9 1 (expCells (Gram.Exp.mk f2 s2' nm2 tk2 tl2 n2' m2 ks2 a2) (.slice ka2 kn2 kc2)) (by rw [size_set]; omega) rfl (by unfold maxLen; omega)
  rw [size_set] at ho
  exact KidsX.one' ho (fun k e => by cases e) (RepC.kept (ga _ _ none) (fun k e => by cases e) (RepC.mono (by omega) hkset))
 clear hkset hk2
 have hcc := rtake_any b g cap T (t2) ⟨#[44]⟩ _ H.p
 have hzp3 := Wd.sz H
 rw [show ((⟨#[44]⟩ : ByteArray)).data.toList = [44] from rfl] at hcc
 have HHH := ld H
 clear H
 refine ld ?_
 go_wp2_with (go_at_call 64; refine hcc.mono ?_; rintro e w13 ⟨rfl, hpz, hgz⟩; refine Hid.out ?_)
 clear c0 c1 c2 c3 c4 c5 c6 c7 c8 cf ct
 have H := HHH.out
 clear HHH hcc
 have hsz3 := hgz.size
 have H : Wd w (w13) b g cap T (Gram.Rf.take T [44] (t2)) (tO yk yt yn yu ya) #[.int .i64 17, .int .i64 0, .string ⟨#[]⟩, .int .i64 0, .int .i64 0, .int .i64 0, .int .i64 0, .slice (some ⟨w12.heap.size, 0, none⟩) 1 1, .int .i64 (ya : Int)] := H.step hgz hpz
 have hzq3 := Wd.sz H
 have hgk := hgz
 clear hgz hpz
 obtain ⟨c0, c1, c2, c3, c4, c5, c6, c7, c8, cf⟩ := Nc.of H.x'
 have ct := Wd.text H
 have hKL := Kids.kept hKL hgk (by omega)
 have hcc := rsize_any b g cap T (Gram.Rf.take T [44] (t2)) _ H.p
 have hzp4 := Wd.sz H
 have HHH := ld H
 clear H
 refine ld ?_
 go_wp2_with (go_at_call 85; refine hcc.mono ?_; rintro e w14 ⟨rfl, hpz, hgz⟩; refine Hid.out ?_)
 clear c0 c1 c2 c3 c4 c5 c6 c7 c8 cf ct
 have H := HHH.out
 clear HHH hcc
 have hsz4 := hgz.size
 have H : Wd w (w14) b g cap T ((Gram.Rf.size T (Gram.Rf.take T [44] (t2))).2) (tO yk yt yn yu ya) #[.int .i64 17, .int .i64 0, .string ⟨#[]⟩, .int .i64 0, .int .i64 0, .int .i64 0, .int .i64 0, .slice (some ⟨w12.heap.size, 0, none⟩) 1 1, .int .i64 (ya : Int)] := H.step hgz hpz
 have hzq4 := Wd.sz H
 have hgk := hgz
 clear hgz hpz
 obtain ⟨c0, c1, c2, c3, c4, c5, c6, c7, c8, cf⟩ := Nc.of H.x'
 have ct := Wd.text H
 have hKL := Kids.kept hKL hgk (by omega)
 have H : Wd w ((w14).setCell ⟨w.heap.size + 1 + 1, 5, none⟩ (.int .i64 (Gram.Rf.size T (Gram.Rf.take T [44] (t2))).1)) b g cap T ((Gram.Rf.size T (Gram.Rf.take T [44] (t2))).2) (tO yk yt yn yu ya) #[.int .i64 17, .int .i64 0, .string ⟨#[]⟩, .int .i64 0, .int .i64 0, .int .i64 (Gram.Rf.size T (Gram.Rf.take T [44] (t2))).1, .int .i64 0, .slice (some ⟨w12.heap.size, 0, none⟩) 1 1, .int .i64 (ya : Int)] := Wd.set h H 5 (.int .i64 (Gram.Rf.size T (Gram.Rf.take T [44] (t2))).1)
 have hKL := Kids.setX (w := w) (by omega) 5 (.int .i64 (Gram.Rf.size T (Gram.Rf.take T [44] (t2))).1) hKL
 have hcc := rtake_any b g cap T ((Gram.Rf.size T (Gram.Rf.take T [44] (t2))).2) ⟨#[41]⟩ _ H.p
 have hzp5 := Wd.sz H
 rw [show ((⟨#[41]⟩ : ByteArray)).data.toList = [41] from rfl] at hcc
 have HHH := ld H
 clear H
 refine ld ?_
 go_wp2_with (go_at_call 64; refine hcc.mono ?_; rintro e w15 ⟨rfl, hpz, hgz⟩; refine Hid.out ?_)
 clear c0 c1 c2 c3 c4 c5 c6 c7 c8 cf ct
 have H := HHH.out
 clear HHH hcc
 have hsz5 := hgz.size
 have H : Wd w (w15) b g cap T (Gram.Rf.take T [41] ((Gram.Rf.size T (Gram.Rf.take T [44] (t2))).2)) (tO yk yt yn yu ya) #[.int .i64 17, .int .i64 0, .string ⟨#[]⟩, .int .i64 0, .int .i64 0, .int .i64 (Gram.Rf.size T (Gram.Rf.take T [44] (t2))).1, .int .i64 0, .slice (some ⟨w12.heap.size, 0, none⟩) 1 1, .int .i64 (ya : Int)] := H.step hgz hpz
 have hzq5 := Wd.sz H
 have hgk := hgz
 clear hgz hpz
 obtain ⟨c0, c1, c2, c3, c4, c5, c6, c7, c8, cf⟩ := Nc.of H.x'
 have ct := Wd.text H
 have hKL := Kids.kept hKL hgk (by omega)
 have HF := ld H
 have hr1 := H.r
 have hgx := H.g'
 clear H
 refine ld ?_
 go_wp2_with (with_reducible refine hold_st 4 ?_)
 refine wpList_store_gen rfl _ _ _ rfl (w.heap.size + 1) #[.int .i64 17, .int .i64 0, .string ⟨#[]⟩, .int .i64 0, .int .i64 0, .int .i64 (Gram.Rf.size T (Gram.Rf.take T [44] (t2))).1, .int .i64 0, .slice (some ⟨w12.heap.size, 0, none⟩) 1 1, .int .i64 (ya : Int)] rfl rfl 37 _ hr1 (by kernel_rfl) rfl (by simp [Value.oneCell']) ?_
 intro w9 hh9 hg9
 go_wp2
 (try simp only [Exit.inBlock, Exit.then])
 refine br hh9 Tryz.underlying37 ?_
 have hG : w.grownBy w9 (some b) := hgx.andThen hg9 (fun j e => .inl (by cases e; omega))
 exact ⟨_, rfl, RepC.mono (by omega) (RepC.kept hg9 (fun k e => by cases e; omega) hKL), HH.out.to hG (HF.out.p.st.kept hg9 (by simp; omega)) HF.out.p.lt, hG⟩
end
open Go.RowKit Go.Maps Go.WideMaps
section
variable (b g cap : Nat) (T : List Lex.Tk)
theorem rword_cast (f : Nat) (hC : ∀ f', f' ≤ f → CRex b g cap T 88 (Gram.Rf.exp T f')) (s : Gram.Rf.St) (w : World) (h : Rp w b g cap T s) (yk yn yu : Int) (yt : List UInt8) (ya : Nat) (hw : yt = [99, 97, 115, 116]) (hi : s.i + 1 < T.length) (hf : (Gram.Rf.wordE T (f + 1) ⟨yk, yt, yn, yu, ya⟩ s).isSome = true) :
  Calls Tryz.prog 119 #[.pointer (some ⟨b, 0, none⟩), .agg #[.int .i64 yk, .string ⟨yt.toArray⟩, .int .i64 yn, .int .i64 yu, .int .i64 0, .int .i64 (ya : Int)]] w fun e w' => rePost w b g cap T (Gram.Rf.wordE T (f + 1) ⟨yk, yt, yn, yu, ya⟩ s) e w' := by
 have hbw := h.bl
 have hm := h.toks.most
 have HH := ld h
 have p1 := h.st.c1
 have fr1 := h.st.fr 1
 have nb0 : ¬ b = w.heap.size := by omega
 have nb1 : ¬ b = w.heap.size + 1 := by omega
 have nb2 : ¬ b = w.heap.size + 1 + 1 := by omega
 have nb3 : ¬ b = w.heap.size + 1 + 1 := by omega
 rw [Gram.Rf.wordE] at hf ⊢
 simp only at hf ⊢
 rw [if_neg (show ¬ yt = [116, 114, 117, 101] by rw [hw]; decide)] at hf ⊢
 rw [if_neg (show ¬ yt = [102, 97, 108, 115, 101] by rw [hw]; decide)] at hf ⊢
 rw [if_neg (show ¬ yt = [105, 102] by rw [hw]; decide)] at hf ⊢
 rw [if_neg (show ¬ yt = [119, 104, 101, 110] by rw [hw]; decide)] at hf ⊢
 rw [if_neg (show ¬ yt = [109, 101, 114, 103, 101] by rw [hw]; decide)] at hf ⊢
 rw [if_pos (show yt = [99, 97, 115, 116] from hw)] at hf ⊢
 have e_true : (yt == [116, 114, 117, 101]) = false := by rw [hw]; rfl
 have e_false : (yt == [102, 97, 108, 115, 101]) = false := by rw [hw]; rfl
 have e_if : (yt == [105, 102]) = false := by rw [hw]; rfl
 have e_when : (yt == [119, 104, 101, 110]) = false := by rw [hw]; rfl
 have e_merge : (yt == [109, 101, 114, 103, 101]) = false := by rw [hw]; rfl
 have e_cast : (yt == [99, 97, 115, 116]) = true := by rw [hw]; rfl
 have e_tick : (yt == [116, 105, 99, 107]) = false := by rw [hw]; rfl
 have e_reset : (yt == [114, 101, 115, 101, 116]) = false := by rw [hw]; rfl
 have e_rep : (yt == [114, 101, 112]) = false := by rw [hw]; rfl
 have e_map : (yt == [109, 97, 112]) = false := by rw [hw]; rfl
 have e_fold : (yt == [102, 111, 108, 100]) = false := by rw [hw]; rfl
 cases hr2 : Gram.Rf.exp T f (Gram.Rf.take T [44] (Gram.Rf.kind T (Gram.Rf.take T [40] (Gram.Rf.adv s))).2) with
 | none => rw [hr2] at hf; cases hf
 | some r2 =>
 obtain ⟨x2, t2⟩ := r2
 rw [hr2] at hf
 simp only [Gram.Rf.bindS] at hf ⊢
 cases x2 with
 | mk f2 s2' nm2 tk2 tl2 n2' m2 ks2 a2 =>
 have hce2 : ∀ wx, Rp wx b g cap T (Gram.Rf.take T [44] (Gram.Rf.kind T (Gram.Rf.take T [40] (Gram.Rf.adv s))).2) → Calls Tryz.prog 88 #[.pointer (some ⟨b, 0, none⟩)] wx fun e w' => rePost wx b g cap T (some ((Gram.Exp.mk f2 s2' nm2 tk2 tl2 n2' m2 ks2 a2), t2)) e w' := fun wx hx => by
  have := hC f (Nat.le_refl _) (Gram.Rf.take T [44] (Gram.Rf.kind T (Gram.Rf.take T [40] (Gram.Rf.adv s))).2) wx hx
  rw [hr2] at this
  exact this rfl
 simp only [rePost, expV] at hce2
 clear hr2
 clear hf
 clear hw
 have H : Wd w ((((w.alloc (tO yk yt yn yu ya)).alloc exp0).alloc (.cells #[.int .i64 0, .int .i64 0, .string ⟨#[]⟩, .int .i64 0, .int .i64 0, .int .i64 0, .int .i64 0, .slice none 0 0, .int .i64 (ya : Int)] 37))) b g cap T (s) (tO yk yt yn yu ya) #[.int .i64 0, .int .i64 0, .string ⟨#[]⟩, .int .i64 0, .int .i64 0, .int .i64 0, .int .i64 0, .slice none 0 0, .int .i64 (ya : Int)] := ⟨((h.alloc _).alloc _).alloc _, galloc (galloc (galloc (World.grownBy.refl w (some b)) _) _) _, heap3_0 w _ _ _, heap3_1 w _ _ _, heap3_2 w _ _ _, hbw⟩
 have q1 := H.p.st.c1
 have qf := H.p.st.fr 1
 unfold exp0 at q1 qf
 have H : Wd w (((((w.alloc (tO yk yt yn yu ya)).alloc exp0).alloc (.cells #[.int .i64 0, .int .i64 0, .string ⟨#[]⟩, .int .i64 0, .int .i64 0, .int .i64 0, .int .i64 0, .slice none 0 0, .int .i64 (ya : Int)] 37))).setCell ⟨b, 1, none⟩ (.int .i64 ((s.i : Int) + 1))) b g cap T (Gram.Rf.adv s) (tO yk yt yn yu ya) #[.int .i64 0, .int .i64 0, .string ⟨#[]⟩, .int .i64 0, .int .i64 0, .int .i64 0, .int .i64 0, .slice none 0 0, .int .i64 (ya : Int)] := H.adv hi
 go_enter Tryz.func119, Tryz.ntmps119
 refine Hid.out ?_
 have hcc := rtake_any b g cap T (Gram.Rf.adv s) ⟨#[40]⟩ _ H.p
 have hzp1 := Wd.sz H
 rw [show ((⟨#[40]⟩ : ByteArray)).data.toList = [40] from rfl] at hcc
 have HHH := ld H
 clear H
 refine ld ?_
 go_wp2_with (go_at_call 64; refine hcc.mono ?_; rintro e w11 ⟨rfl, hpz, hgz⟩; refine Hid.out ?_)
 have H := HHH.out
 clear HHH hcc
 have hsz1 := hgz.size
 have H : Wd w (w11) b g cap T (Gram.Rf.take T [40] (Gram.Rf.adv s)) (tO yk yt yn yu ya) #[.int .i64 0, .int .i64 0, .string ⟨#[]⟩, .int .i64 0, .int .i64 0, .int .i64 0, .int .i64 0, .slice none 0 0, .int .i64 (ya : Int)] := H.step hgz hpz
 have hzq1 := Wd.sz H
 have hgk := hgz
 clear hgz hpz
 obtain ⟨c0, c1, c2, c3, c4, c5, c6, c7, c8, cf⟩ := Nc.of H.x'
 have ct := Wd.text H
 have H : Wd w ((w11).setCell ⟨w.heap.size + 1 + 1, 0, none⟩ (.int .i64 11)) b g cap T (Gram.Rf.take T [40] (Gram.Rf.adv s)) (tO yk yt yn yu ya) #[.int .i64 11, .int .i64 0, .string ⟨#[]⟩, .int .i64 0, .int .i64 0, .int .i64 0, .int .i64 0, .slice none 0 0, .int .i64 (ya : Int)] := Wd.set h H 0 (.int .i64 11)
 have hcc := rkindm_any b g cap T (Gram.Rf.take T [40] (Gram.Rf.adv s)) _ H.p
 have hzp2 := Wd.sz H
 have HHH := ld H
 clear H
 refine ld ?_
 go_wp2_with (go_at_call 84; refine hcc.mono ?_; rintro e w12 ⟨rfl, hpz, hgz⟩; refine Hid.out ?_)
 clear c0 c1 c2 c3 c4 c5 c6 c7 c8 cf ct
 have H := HHH.out
 clear HHH hcc
 have hsz2 := hgz.size
 have H : Wd w (w12) b g cap T ((Gram.Rf.kind T (Gram.Rf.take T [40] (Gram.Rf.adv s))).2) (tO yk yt yn yu ya) #[.int .i64 11, .int .i64 0, .string ⟨#[]⟩, .int .i64 0, .int .i64 0, .int .i64 0, .int .i64 0, .slice none 0 0, .int .i64 (ya : Int)] := H.step hgz hpz
 have hzq2 := Wd.sz H
 have hgk := hgz
 clear hgz hpz
 obtain ⟨c0, c1, c2, c3, c4, c5, c6, c7, c8, cf⟩ := Nc.of H.x'
 have ct := Wd.text H
 have H : Wd w ((w12).setCell ⟨w.heap.size + 1 + 1, 3, none⟩ (.int .i64 (Gram.Rf.kind T (Gram.Rf.take T [40] (Gram.Rf.adv s))).1)) b g cap T ((Gram.Rf.kind T (Gram.Rf.take T [40] (Gram.Rf.adv s))).2) (tO yk yt yn yu ya) #[.int .i64 11, .int .i64 0, .string ⟨#[]⟩, .int .i64 (Gram.Rf.kind T (Gram.Rf.take T [40] (Gram.Rf.adv s))).1, .int .i64 0, .int .i64 0, .int .i64 0, .slice none 0 0, .int .i64 (ya : Int)] := Wd.set h H 3 (.int .i64 (Gram.Rf.kind T (Gram.Rf.take T [40] (Gram.Rf.adv s))).1)
 have H : Wd w (((w12).setCell ⟨w.heap.size + 1 + 1, 3, none⟩ (.int .i64 (Gram.Rf.kind T (Gram.Rf.take T [40] (Gram.Rf.adv s))).1)).setCell ⟨w.heap.size + 1 + 1, 4, none⟩ (.int .i64 0)) b g cap T ((Gram.Rf.kind T (Gram.Rf.take T [40] (Gram.Rf.adv s))).2) (tO yk yt yn yu ya) #[.int .i64 11, .int .i64 0, .string ⟨#[]⟩, .int .i64 (Gram.Rf.kind T (Gram.Rf.take T [40] (Gram.Rf.adv s))).1, .int .i64 0, .int .i64 0, .int .i64 0, .slice none 0 0, .int .i64 (ya : Int)] := Wd.set h H 4 (.int .i64 0)
 have hcc := rtake_any b g cap T ((Gram.Rf.kind T (Gram.Rf.take T [40] (Gram.Rf.adv s))).2) ⟨#[44]⟩ _ H.p
 have hzp3 := Wd.sz H
 rw [show ((⟨#[44]⟩ : ByteArray)).data.toList = [44] from rfl] at hcc
 have HHH := ld H
 clear H
 refine ld ?_
 go_wp2_with (go_at_call 64; refine hcc.mono ?_; rintro e w13 ⟨rfl, hpz, hgz⟩; refine Hid.out ?_)
 clear c0 c1 c2 c3 c4 c5 c6 c7 c8 cf ct
 have H := HHH.out
 clear HHH hcc
 have hsz3 := hgz.size
 have H : Wd w (w13) b g cap T (Gram.Rf.take T [44] ((Gram.Rf.kind T (Gram.Rf.take T [40] (Gram.Rf.adv s))).2)) (tO yk yt yn yu ya) #[.int .i64 11, .int .i64 0, .string ⟨#[]⟩, .int .i64 (Gram.Rf.kind T (Gram.Rf.take T [40] (Gram.Rf.adv s))).1, .int .i64 0, .int .i64 0, .int .i64 0, .slice none 0 0, .int .i64 (ya : Int)] := H.step hgz hpz
 have hzq3 := Wd.sz H
 have hgk := hgz
 clear hgz hpz
 obtain ⟨c0, c1, c2, c3, c4, c5, c6, c7, c8, cf⟩ := Nc.of H.x'
 have ct := Wd.text H
 have hcc := hce2 _ H.p
 have hzp4 := Wd.sz H
 have HHH := ld H
 clear H
 refine ld ?_
 go_wp2_with (go_at_call 88; refine hcc.mono ?_; rintro e w14 ⟨k2, rfl, hk2, hpz, hgz⟩; refine Hid.out ?_)
 clear c0 c1 c2 c3 c4 c5 c6 c7 c8 cf ct
 have H := HHH.out
 clear HHH hcc
 have hsz4 := hgz.size
 have H : Wd w (w14) b g cap T (t2) (tO yk yt yn yu ya) #[.int .i64 11, .int .i64 0, .string ⟨#[]⟩, .int .i64 (Gram.Rf.kind T (Gram.Rf.take T [40] (Gram.Rf.adv s))).1, .int .i64 0, .int .i64 0, .int .i64 0, .slice none 0 0, .int .i64 (ya : Int)] := H.step hgz hpz
 have hzq4 := Wd.sz H
 have hgk := hgz
 clear hgz hpz
 obtain ⟨c0, c1, c2, c3, c4, c5, c6, c7, c8, cf⟩ := Nc.of H.x'
 have ct := Wd.text H
 obtain ⟨ka2, kn2, kc2, rfl⟩ := hk2.form
 have hkset := RepC.kept (gset (World.grownBy.refl w14 (some (w.heap.size + 1 + 1))) (a := ⟨w.heap.size + 1 + 1, 7, none⟩) (.inr rfl) (.slice (some ⟨w14.heap.size, 0, none⟩) 1 1)) (fun k e => by cases e; omega) (show RepC _ _ [] _ _ from hk2)
 have H : Wd w ((w14).setCell ⟨w.heap.size + 1 + 1, 7, none⟩ (.slice (some ⟨w14.heap.size, 0, none⟩) 1 1)) b g cap T (t2) (tO yk yt yn yu ya) #[.int .i64 11, .int .i64 0, .string ⟨#[]⟩, .int .i64 (Gram.Rf.kind T (Gram.Rf.take T [40] (Gram.Rf.adv s))).1, .int .i64 0, .int .i64 0, .int .i64 0, .slice (some ⟨w14.heap.size, 0, none⟩) 1 1, .int .i64 (ya : Int)] := Wd.set h H 7 (.slice (some ⟨w14.heap.size, 0, none⟩) 1 1)
 have H : Wd w (((w14).setCell ⟨w.heap.size + 1 + 1, 7, none⟩ (.slice (some ⟨w14.heap.size, 0, none⟩) 1 1)).alloc (.cells #[.int .i64 f2, .int .i64 s2', .string ⟨nm2.toArray⟩, .int .i64 tk2, .int .i64 tl2, .int .i64 n2', .int .i64 m2, .slice ka2 kn2 kc2, .int .i64 a2] 37)) b g cap T (t2) (tO yk yt yn yu ya) #[.int .i64 11, .int .i64 0, .string ⟨#[]⟩, .int .i64 (Gram.Rf.kind T (Gram.Rf.take T [40] (Gram.Rf.adv s))).1, .int .i64 0, .int .i64 0, .int .i64 0, .slice (some ⟨w14.heap.size, 0, none⟩) 1 1, .int .i64 (ya : Int)] := Wd.alloc H (.cells #[.int .i64 f2, .int .i64 s2', .string ⟨nm2.toArray⟩, .int .i64 tk2, .int .i64 tl2, .int .i64 n2', .int .i64 m2, .slice ka2 kn2 kc2, .int .i64 a2] 37)
 have hKL : Kids (((w14).setCell ⟨w.heap.size + 1 + 1, 7, none⟩ (.slice (some ⟨w14.heap.size, 0, none⟩) 1 1)).alloc (.cells #[.int .i64 f2, .int .i64 s2', .string ⟨nm2.toArray⟩, .int .i64 tk2, .int .i64 tl2, .int .i64 n2', .int .i64 m2, .slice ka2 kn2 kc2, .int .i64 a2] 37)) (w.heap.size + 3) [(Gram.Exp.mk f2 s2' nm2 tk2 tl2 n2' m2 ks2 a2)] (.slice (some ⟨w14.heap.size, 0, none⟩) 1 1) := by
  have ho := owns_new (w := w14.setCell ⟨w.heap.size + 1 + 1, 7, none⟩ (.slice (some ⟨w14.heap.size, 0, none⟩) 1 1)) (B := w.heap.size + 3) 37 9 1 (expCells (Gram.Exp.mk f2 s2' nm2 tk2 tl2 n2' m2 ks2 a2) (.slice ka2 kn2 kc2)) (by rw [size_set]; omega) rfl (by unfold maxLen; omega)
  rw [size_set] at ho
  exact KidsX.one' ho (fun k e => by cases e) (RepC.kept (ga _ _ none) (fun k e => by cases e) (RepC.mono (by omega) hkset))
 clear hkset hk2
 have hcc := rtake_any b g cap T (t2) ⟨#[41]⟩ _ H.p
 have hzp5 := Wd.sz H
 rw [show ((⟨#[41]⟩ : ByteArray)).data.toList = [41] from rfl] at hcc
 have HHH := ld H
 clear H
 refine ld ?_
 go_wp2_with (go_at_call 64; refine hcc.mono ?_; rintro e w15 ⟨rfl, hpz, hgz⟩; refine Hid.out ?_)
 clear c0 c1 c2 c3 c4 c5 c6 c7 c8 cf ct
 have H := HHH.out
 clear HHH hcc
 have hsz5 := hgz.size
 have H : Wd w (w15) b g cap T (Gram.Rf.take T [41] (t2)) (tO yk yt yn yu ya) #[.int .i64 11, .int .i64 0, .string ⟨#[]⟩, .int .i64 (Gram.Rf.kind T (Gram.Rf.take T [40] (Gram.Rf.adv s))).1, .int .i64 0, .int .i64 0, .int .i64 0, .slice (some ⟨w14.heap.size, 0, none⟩) 1 1, .int .i64 (ya : Int)] := H.step hgz hpz
 have hzq5 := Wd.sz H
 have hgk := hgz
 clear hgz hpz
 obtain ⟨c0, c1, c2, c3, c4, c5, c6, c7, c8, cf⟩ := Nc.of H.x'
 have ct := Wd.text H
 have hKL := Kids.kept hKL hgk (by omega)
 have HF := ld H
 have hr1 := H.r
 have hgx := H.g'
 clear H
 refine ld ?_
 go_wp2_with (with_reducible refine hold_st 4 ?_)
 refine wpList_store_gen rfl _ _ _ rfl (w.heap.size + 1) #[.int .i64 11, .int .i64 0, .string ⟨#[]⟩, .int .i64 (Gram.Rf.kind T (Gram.Rf.take T [40] (Gram.Rf.adv s))).1, .int .i64 0, .int .i64 0, .int .i64 0, .slice (some ⟨w14.heap.size, 0, none⟩) 1 1, .int .i64 (ya : Int)] rfl rfl 37 _ hr1 (by kernel_rfl) rfl (by simp [Value.oneCell']) ?_
 intro w9 hh9 hg9
 go_wp2
 (try simp only [Exit.inBlock, Exit.then])
 refine br hh9 Tryz.underlying37 ?_
 have hG : w.grownBy w9 (some b) := hgx.andThen hg9 (fun j e => .inl (by cases e; omega))
 exact ⟨_, rfl, RepC.mono (by omega) (RepC.kept hg9 (fun k e => by cases e; omega) hKL), HH.out.to hG (HF.out.p.st.kept hg9 (by simp; omega)) HF.out.p.lt, hG⟩
end
open Go.RowKit Go.Maps Go.WideMaps
section
variable (b g cap : Nat) (T : List Lex.Tk)
theorem rword_map (f : Nat) (hC : ∀ f', f' ≤ f → CRex b g cap T 88 (Gram.Rf.exp T f')) (s : Gram.Rf.St) (w : World) (h : Rp w b g cap T s) (yk yn yu : Int) (yt : List UInt8) (ya : Nat) (hw : yt = [109, 97, 112]) (hi : s.i + 1 < T.length) (hf : (Gram.Rf.wordE T (f + 1) ⟨yk, yt, yn, yu, ya⟩ s).isSome = true) :
  Calls Tryz.prog 119 #[.pointer (some ⟨b, 0, none⟩), .agg #[.int .i64 yk, .string ⟨yt.toArray⟩, .int .i64 yn, .int .i64 yu, .int .i64 0, .int .i64 (ya : Int)]] w fun e w' => rePost w b g cap T (Gram.Rf.wordE T (f + 1) ⟨yk, yt, yn, yu, ya⟩ s) e w' := by
 have hbw := h.bl
 have hm := h.toks.most
 have HH := ld h
 have p1 := h.st.c1
 have fr1 := h.st.fr 1
 have nb0 : ¬ b = w.heap.size := by omega
 have nb1 : ¬ b = w.heap.size + 1 := by omega
 have nb2 : ¬ b = w.heap.size + 1 + 1 := by omega
 have nb3 : ¬ b = w.heap.size + 1 + 1 := by omega
 rw [Gram.Rf.wordE] at hf ⊢
 simp only at hf ⊢
 rw [if_neg (show ¬ yt = [116, 114, 117, 101] by rw [hw]; decide)] at hf ⊢
 rw [if_neg (show ¬ yt = [102, 97, 108, 115, 101] by rw [hw]; decide)] at hf ⊢
 rw [if_neg (show ¬ yt = [105, 102] by rw [hw]; decide)] at hf ⊢
 rw [if_neg (show ¬ yt = [119, 104, 101, 110] by rw [hw]; decide)] at hf ⊢
 rw [if_neg (show ¬ yt = [109, 101, 114, 103, 101] by rw [hw]; decide)] at hf ⊢
 rw [if_neg (show ¬ yt = [99, 97, 115, 116] by rw [hw]; decide)] at hf ⊢
 rw [if_neg (show ¬ yt = [116, 105, 99, 107] by rw [hw]; decide)] at hf ⊢
 rw [if_neg (show ¬ yt = [114, 101, 115, 101, 116] by rw [hw]; decide)] at hf ⊢
 rw [if_neg (show ¬ yt = [114, 101, 112] by rw [hw]; decide)] at hf ⊢
 rw [if_pos (show yt = [109, 97, 112] from hw)] at hf ⊢
 have e_true : (yt == [116, 114, 117, 101]) = false := by rw [hw]; rfl
 have e_false : (yt == [102, 97, 108, 115, 101]) = false := by rw [hw]; rfl
 have e_if : (yt == [105, 102]) = false := by rw [hw]; rfl
 have e_when : (yt == [119, 104, 101, 110]) = false := by rw [hw]; rfl
 have e_merge : (yt == [109, 101, 114, 103, 101]) = false := by rw [hw]; rfl
 have e_cast : (yt == [99, 97, 115, 116]) = false := by rw [hw]; rfl
 have e_tick : (yt == [116, 105, 99, 107]) = false := by rw [hw]; rfl
 have e_reset : (yt == [114, 101, 115, 101, 116]) = false := by rw [hw]; rfl
 have e_rep : (yt == [114, 101, 112]) = false := by rw [hw]; rfl
 have e_map : (yt == [109, 97, 112]) = true := by rw [hw]; rfl
 have e_fold : (yt == [102, 111, 108, 100]) = false := by rw [hw]; rfl
 cases hr2 : Gram.Rf.exps T f [] (Gram.Rf.take T [44] ((Gram.Rf.name T (Gram.Rf.take T [40] (Gram.Rf.adv s))).2)) with
 | none => rw [hr2] at hf; cases hf
 | some r2 =>
 obtain ⟨l2, t2⟩ := r2
 rw [hr2] at hf
 simp only [Gram.Rf.bindS] at hf ⊢
 have hce2 : ∀ wx, Rp wx b g cap T (Gram.Rf.take T [44] ((Gram.Rf.name T (Gram.Rf.take T [40] (Gram.Rf.adv s))).2)) → Calls Tryz.prog 118 #[.pointer (some ⟨b, 0, none⟩), .int .i64 0] wx fun e w' => rxPost wx b g cap T (some (l2, t2)) e w' := fun wx hx => by
  have := rexps_any b g cap T f (fun f' hf' => hC f' (by omega)) (Gram.Rf.take T [44] ((Gram.Rf.name T (Gram.Rf.take T [40] (Gram.Rf.adv s))).2)) wx hx (by rw [hr2]; rfl)
  rw [hr2] at this
  exact this
 simp only [rxPost] at hce2
 clear hr2 hf
 clear hw
 have H : Wd w ((((w.alloc (tO yk yt yn yu ya)).alloc exp0).alloc (.cells #[.int .i64 0, .int .i64 0, .string ⟨#[]⟩, .int .i64 0, .int .i64 0, .int .i64 0, .int .i64 0, .slice none 0 0, .int .i64 (ya : Int)] 37))) b g cap T (s) (tO yk yt yn yu ya) #[.int .i64 0, .int .i64 0, .string ⟨#[]⟩, .int .i64 0, .int .i64 0, .int .i64 0, .int .i64 0, .slice none 0 0, .int .i64 (ya : Int)] := ⟨((h.alloc _).alloc _).alloc _, galloc (galloc (galloc (World.grownBy.refl w (some b)) _) _) _, heap3_0 w _ _ _, heap3_1 w _ _ _, heap3_2 w _ _ _, hbw⟩
 have q1 := H.p.st.c1
 have qf := H.p.st.fr 1
 unfold exp0 at q1 qf
 have H : Wd w (((((w.alloc (tO yk yt yn yu ya)).alloc exp0).alloc (.cells #[.int .i64 0, .int .i64 0, .string ⟨#[]⟩, .int .i64 0, .int .i64 0, .int .i64 0, .int .i64 0, .slice none 0 0, .int .i64 (ya : Int)] 37))).setCell ⟨b, 1, none⟩ (.int .i64 ((s.i : Int) + 1))) b g cap T (Gram.Rf.adv s) (tO yk yt yn yu ya) #[.int .i64 0, .int .i64 0, .string ⟨#[]⟩, .int .i64 0, .int .i64 0, .int .i64 0, .int .i64 0, .slice none 0 0, .int .i64 (ya : Int)] := H.adv hi
 go_enter Tryz.func119, Tryz.ntmps119
 refine Hid.out ?_
 have hcc := rtake_any b g cap T (Gram.Rf.adv s) ⟨#[40]⟩ _ H.p
 have hzp1 := Wd.sz H
 rw [show ((⟨#[40]⟩ : ByteArray)).data.toList = [40] from rfl] at hcc
 have HHH := ld H
 clear H
 refine ld ?_
 go_wp2_with (go_at_call 64; refine hcc.mono ?_; rintro e w11 ⟨rfl, hpz, hgz⟩; refine Hid.out ?_)
 have H := HHH.out
 clear HHH hcc
 have hsz1 := hgz.size
 have H : Wd w (w11) b g cap T (Gram.Rf.take T [40] (Gram.Rf.adv s)) (tO yk yt yn yu ya) #[.int .i64 0, .int .i64 0, .string ⟨#[]⟩, .int .i64 0, .int .i64 0, .int .i64 0, .int .i64 0, .slice none 0 0, .int .i64 (ya : Int)] := H.step hgz hpz
 have hzq1 := Wd.sz H
 have hgk := hgz
 clear hgz hpz
 obtain ⟨c0, c1, c2, c3, c4, c5, c6, c7, c8, cf⟩ := Nc.of H.x'
 have ct := Wd.text H
 have H : Wd w ((w11).setCell ⟨w.heap.size + 1 + 1, 0, none⟩ (.int .i64 18)) b g cap T (Gram.Rf.take T [40] (Gram.Rf.adv s)) (tO yk yt yn yu ya) #[.int .i64 18, .int .i64 0, .string ⟨#[]⟩, .int .i64 0, .int .i64 0, .int .i64 0, .int .i64 0, .slice none 0 0, .int .i64 (ya : Int)] := Wd.set h H 0 (.int .i64 18)
 have hcc := rname_any b g cap T (Gram.Rf.take T [40] (Gram.Rf.adv s)) _ H.p
 have hzp2 := Wd.sz H
 have HHH := ld H
 clear H
 refine ld ?_
 go_wp2_with (go_at_call 65; refine hcc.mono ?_; rintro e w12 ⟨rfl, hpz, hgz⟩; refine Hid.out ?_)
 clear c0 c1 c2 c3 c4 c5 c6 c7 c8 cf ct
 have H := HHH.out
 clear HHH hcc
 have hsz2 := hgz.size
 have H : Wd w (w12) b g cap T ((Gram.Rf.name T (Gram.Rf.take T [40] (Gram.Rf.adv s))).2) (tO yk yt yn yu ya) #[.int .i64 18, .int .i64 0, .string ⟨#[]⟩, .int .i64 0, .int .i64 0, .int .i64 0, .int .i64 0, .slice none 0 0, .int .i64 (ya : Int)] := H.step hgz hpz
 have hzq2 := Wd.sz H
 have hgk := hgz
 clear hgz hpz
 obtain ⟨c0, c1, c2, c3, c4, c5, c6, c7, c8, cf⟩ := Nc.of H.x'
 have ct := Wd.text H
 have H : Wd w ((w12).setCell ⟨w.heap.size + 1 + 1, 2, none⟩ (.string ⟨(Gram.Rf.name T (Gram.Rf.take T [40] (Gram.Rf.adv s))).1.toArray⟩)) b g cap T ((Gram.Rf.name T (Gram.Rf.take T [40] (Gram.Rf.adv s))).2) (tO yk yt yn yu ya) #[.int .i64 18, .int .i64 0, .string ⟨(Gram.Rf.name T (Gram.Rf.take T [40] (Gram.Rf.adv s))).1.toArray⟩, .int .i64 0, .int .i64 0, .int .i64 0, .int .i64 0, .slice none 0 0, .int .i64 (ya : Int)] := Wd.set h H 2 (.string ⟨(Gram.Rf.name T (Gram.Rf.take T [40] (Gram.Rf.adv s))).1.toArray⟩)
 have hcc := rtake_any b g cap T ((Gram.Rf.name T (Gram.Rf.take T [40] (Gram.Rf.adv s))).2) ⟨#[44]⟩ _ H.p
 have hzp3 := Wd.sz H
 rw [show ((⟨#[44]⟩ : ByteArray)).data.toList = [44] from rfl] at hcc
 have HHH := ld H
 clear H
 refine ld ?_
 go_wp2_with (go_at_call 64; refine hcc.mono ?_; rintro e w13 ⟨rfl, hpz, hgz⟩; refine Hid.out ?_)
 clear c0 c1 c2 c3 c4 c5 c6 c7 c8 cf ct
 have H := HHH.out
 clear HHH hcc
 have hsz3 := hgz.size
 have H : Wd w (w13) b g cap T (Gram.Rf.take T [44] ((Gram.Rf.name T (Gram.Rf.take T [40] (Gram.Rf.adv s))).2)) (tO yk yt yn yu ya) #[.int .i64 18, .int .i64 0, .string ⟨(Gram.Rf.name T (Gram.Rf.take T [40] (Gram.Rf.adv s))).1.toArray⟩, .int .i64 0, .int .i64 0, .int .i64 0, .int .i64 0, .slice none 0 0, .int .i64 (ya : Int)] := H.step hgz hpz
 have hzq3 := Wd.sz H
 have hgk := hgz
 clear hgz hpz
 obtain ⟨c0, c1, c2, c3, c4, c5, c6, c7, c8, cf⟩ := Nc.of H.x'
 have ct := Wd.text H
 have hcc := hce2 _ H.p
 have hzp4 := Wd.sz H
 have HHH := ld H
 clear H
 refine ld ?_
 go_wp2_with (go_at_call 118; refine hcc.mono ?_; rintro e w14 ⟨v2, rfl, hk2, hpz, hgz⟩; refine Hid.out ?_)
 clear c0 c1 c2 c3 c4 c5 c6 c7 c8 cf ct
 have H := HHH.out
 clear HHH hcc
 have hsz4 := hgz.size
 have H : Wd w (w14) b g cap T (t2) (tO yk yt yn yu ya) #[.int .i64 18, .int .i64 0, .string ⟨(Gram.Rf.name T (Gram.Rf.take T [40] (Gram.Rf.adv s))).1.toArray⟩, .int .i64 0, .int .i64 0, .int .i64 0, .int .i64 0, .slice none 0 0, .int .i64 (ya : Int)] := H.step hgz hpz
 have hzq4 := Wd.sz H
 have hgk := hgz
 clear hgz hpz
 obtain ⟨c0, c1, c2, c3, c4, c5, c6, c7, c8, cf⟩ := Nc.of H.x'
 have ct := Wd.text H
 obtain ⟨ka2, kn2, kc2, rfl⟩ := hk2.form
 have H : Wd w ((w14).setCell ⟨w.heap.size + 1 + 1, 7, none⟩ (.slice ka2 kn2 kc2)) b g cap T (t2) (tO yk yt yn yu ya) #[.int .i64 18, .int .i64 0, .string ⟨(Gram.Rf.name T (Gram.Rf.take T [40] (Gram.Rf.adv s))).1.toArray⟩, .int .i64 0, .int .i64 0, .int .i64 0, .int .i64 0, .slice ka2 kn2 kc2, .int .i64 (ya : Int)] := Wd.set h H 7 (.slice ka2 kn2 kc2)
 have hKL := Kids.setX (w := w) (by omega) 7 (.slice ka2 kn2 kc2) hk2.kids
 have hcc := rtake_any b g cap T (t2) ⟨#[41]⟩ _ H.p
 have hzp5 := Wd.sz H
 rw [show ((⟨#[41]⟩ : ByteArray)).data.toList = [41] from rfl] at hcc
 have HHH := ld H
 clear H
 refine ld ?_
 go_wp2_with (go_at_call 64; refine hcc.mono ?_; rintro e w15 ⟨rfl, hpz, hgz⟩; refine Hid.out ?_)
 clear c0 c1 c2 c3 c4 c5 c6 c7 c8 cf ct
 have H := HHH.out
 clear HHH hcc
 have hsz5 := hgz.size
 have H : Wd w (w15) b g cap T (Gram.Rf.take T [41] (t2)) (tO yk yt yn yu ya) #[.int .i64 18, .int .i64 0, .string ⟨(Gram.Rf.name T (Gram.Rf.take T [40] (Gram.Rf.adv s))).1.toArray⟩, .int .i64 0, .int .i64 0, .int .i64 0, .int .i64 0, .slice ka2 kn2 kc2, .int .i64 (ya : Int)] := H.step hgz hpz
 have hzq5 := Wd.sz H
 have hgk := hgz
 clear hgz hpz
 obtain ⟨c0, c1, c2, c3, c4, c5, c6, c7, c8, cf⟩ := Nc.of H.x'
 have ct := Wd.text H
 have hKL := Kids.kept hKL hgk (by omega)
 have HF := ld H
 have hr1 := H.r
 have hgx := H.g'
 clear H
 refine ld ?_
 go_wp2_with (with_reducible refine hold_st 4 ?_)
 refine wpList_store_gen rfl _ _ _ rfl (w.heap.size + 1) #[.int .i64 18, .int .i64 0, .string ⟨(Gram.Rf.name T (Gram.Rf.take T [40] (Gram.Rf.adv s))).1.toArray⟩, .int .i64 0, .int .i64 0, .int .i64 0, .int .i64 0, .slice ka2 kn2 kc2, .int .i64 (ya : Int)] rfl rfl 37 _ hr1 (by kernel_rfl) rfl (by simp [Value.oneCell']) ?_
 intro w9 hh9 hg9
 go_wp2
 (try simp only [Exit.inBlock, Exit.then])
 refine br hh9 Tryz.underlying37 ?_
 have hG : w.grownBy w9 (some b) := hgx.andThen hg9 (fun j e => .inl (by cases e; omega))
 exact ⟨_, rfl, RepC.mono (by omega) (RepC.kept hg9 (fun k e => by cases e; omega) hKL), HH.out.to hG (HF.out.p.st.kept hg9 (by simp; omega)) HF.out.p.lt, hG⟩
end
open Go.RowKit Go.Maps Go.WideMaps
section
variable (b g cap : Nat) (T : List Lex.Tk)
theorem rword_if (f : Nat) (hC : ∀ f', f' ≤ f → CRex b g cap T 88 (Gram.Rf.exp T f')) (s : Gram.Rf.St) (w : World) (h : Rp w b g cap T s) (yk yn yu : Int) (yt : List UInt8) (ya : Nat) (hw : yt = [105, 102]) (hi : s.i + 1 < T.length) (hf : (Gram.Rf.wordE T (f + 1) ⟨yk, yt, yn, yu, ya⟩ s).isSome = true) :
  Calls Tryz.prog 119 #[.pointer (some ⟨b, 0, none⟩), .agg #[.int .i64 yk, .string ⟨yt.toArray⟩, .int .i64 yn, .int .i64 yu, .int .i64 0, .int .i64 (ya : Int)]] w fun e w' => rePost w b g cap T (Gram.Rf.wordE T (f + 1) ⟨yk, yt, yn, yu, ya⟩ s) e w' := by
 have hbw := h.bl
 have hm := h.toks.most
 have HH := ld h
 have p1 := h.st.c1
 have fr1 := h.st.fr 1
 have nb0 : ¬ b = w.heap.size := by omega
 have nb1 : ¬ b = w.heap.size + 1 := by omega
 have nb2 : ¬ b = w.heap.size + 1 + 1 := by omega
 have nb3 : ¬ b = w.heap.size + 1 + 1 := by omega
 rw [Gram.Rf.wordE] at hf ⊢
 simp only at hf ⊢
 rw [if_neg (show ¬ yt = [116, 114, 117, 101] by rw [hw]; decide)] at hf ⊢
 rw [if_neg (show ¬ yt = [102, 97, 108, 115, 101] by rw [hw]; decide)] at hf ⊢
 rw [if_pos (show yt = [105, 102] from hw)] at hf ⊢
 have e_true : (yt == [116, 114, 117, 101]) = false := by rw [hw]; rfl
 have e_false : (yt == [102, 97, 108, 115, 101]) = false := by rw [hw]; rfl
 have e_if : (yt == [105, 102]) = true := by rw [hw]; rfl
 have e_when : (yt == [119, 104, 101, 110]) = false := by rw [hw]; rfl
 have e_merge : (yt == [109, 101, 114, 103, 101]) = false := by rw [hw]; rfl
 have e_cast : (yt == [99, 97, 115, 116]) = false := by rw [hw]; rfl
 have e_tick : (yt == [116, 105, 99, 107]) = false := by rw [hw]; rfl
 have e_reset : (yt == [114, 101, 115, 101, 116]) = false := by rw [hw]; rfl
 have e_rep : (yt == [114, 101, 112]) = false := by rw [hw]; rfl
 have e_map : (yt == [109, 97, 112]) = false := by rw [hw]; rfl
 have e_fold : (yt == [102, 111, 108, 100]) = false := by rw [hw]; rfl
 cases hr2 : Gram.Rf.exp T f (Gram.Rf.adv s) with
 | none => rw [hr2] at hf; cases hf
 | some r2 =>
 obtain ⟨x2, t2⟩ := r2
 rw [hr2] at hf
 simp only [Gram.Rf.bindS] at hf ⊢
 cases x2 with
 | mk f2 s2' nm2 tk2 tl2 n2' m2 ks2 a2 =>
 have hce2 : ∀ wx, Rp wx b g cap T (Gram.Rf.adv s) → Calls Tryz.prog 88 #[.pointer (some ⟨b, 0, none⟩)] wx fun e w' => rePost wx b g cap T (some ((Gram.Exp.mk f2 s2' nm2 tk2 tl2 n2' m2 ks2 a2), t2)) e w' := fun wx hx => by
  have := hC f (Nat.le_refl _) (Gram.Rf.adv s) wx hx
  rw [hr2] at this
  exact this rfl
 simp only [rePost, expV] at hce2
 clear hr2
 cases hr3 : Gram.Rf.exp T f (Gram.Rf.take T [116, 104, 101, 110] (t2)) with
 | none => rw [hr3] at hf; cases hf
 | some r3 =>
 obtain ⟨x3, t3⟩ := r3
 rw [hr3] at hf
 simp only [Gram.Rf.bindS] at hf ⊢
 cases x3 with
 | mk f3 s3' nm3 tk3 tl3 n3' m3 ks3 a3 =>
 have hce3 : ∀ wx, Rp wx b g cap T (Gram.Rf.take T [116, 104, 101, 110] (t2)) → Calls Tryz.prog 88 #[.pointer (some ⟨b, 0, none⟩)] wx fun e w' => rePost wx b g cap T (some ((Gram.Exp.mk f3 s3' nm3 tk3 tl3 n3' m3 ks3 a3), t3)) e w' := fun wx hx => by
  have := hC f (Nat.le_refl _) (Gram.Rf.take T [116, 104, 101, 110] (t2)) wx hx
  rw [hr3] at this
  exact this rfl
 simp only [rePost, expV] at hce3
 clear hr3
 cases hr4 : Gram.Rf.exp T f (Gram.Rf.take T [101, 108, 115, 101] (t3)) with
 | none => rw [hr4] at hf; cases hf
 | some r4 =>
 obtain ⟨x4, t4⟩ := r4
 rw [hr4] at hf
 simp only [Gram.Rf.bindS] at hf ⊢
 cases x4 with
 | mk f4 s4' nm4 tk4 tl4 n4' m4 ks4 a4 =>
 have hce4 : ∀ wx, Rp wx b g cap T (Gram.Rf.take T [101, 108, 115, 101] (t3)) → Calls Tryz.prog 88 #[.pointer (some ⟨b, 0, none⟩)] wx fun e w' => rePost wx b g cap T (some ((Gram.Exp.mk f4 s4' nm4 tk4 tl4 n4' m4 ks4 a4), t4)) e w' := fun wx hx => by
  have := hC f (Nat.le_refl _) (Gram.Rf.take T [101, 108, 115, 101] (t3)) wx hx
  rw [hr4] at this
  exact this rfl
 simp only [rePost, expV] at hce4
 clear hr4
 clear hf
 clear hw
 have H : Wd w ((((w.alloc (tO yk yt yn yu ya)).alloc exp0).alloc (.cells #[.int .i64 0, .int .i64 0, .string ⟨#[]⟩, .int .i64 0, .int .i64 0, .int .i64 0, .int .i64 0, .slice none 0 0, .int .i64 (ya : Int)] 37))) b g cap T (s) (tO yk yt yn yu ya) #[.int .i64 0, .int .i64 0, .string ⟨#[]⟩, .int .i64 0, .int .i64 0, .int .i64 0, .int .i64 0, .slice none 0 0, .int .i64 (ya : Int)] := ⟨((h.alloc _).alloc _).alloc _, galloc (galloc (galloc (World.grownBy.refl w (some b)) _) _) _, heap3_0 w _ _ _, heap3_1 w _ _ _, heap3_2 w _ _ _, hbw⟩
 have q1 := H.p.st.c1
 have qf := H.p.st.fr 1
 unfold exp0 at q1 qf
 have H : Wd w (((((w.alloc (tO yk yt yn yu ya)).alloc exp0).alloc (.cells #[.int .i64 0, .int .i64 0, .string ⟨#[]⟩, .int .i64 0, .int .i64 0, .int .i64 0, .int .i64 0, .slice none 0 0, .int .i64 (ya : Int)] 37))).setCell ⟨b, 1, none⟩ (.int .i64 ((s.i : Int) + 1))) b g cap T (Gram.Rf.adv s) (tO yk yt yn yu ya) #[.int .i64 0, .int .i64 0, .string ⟨#[]⟩, .int .i64 0, .int .i64 0, .int .i64 0, .int .i64 0, .slice none 0 0, .int .i64 (ya : Int)] := H.adv hi
 go_enter Tryz.func119, Tryz.ntmps119
 refine Hid.out ?_
 have hcc := hce2 _ H.p
 have hzp1 := Wd.sz H
 have HHH := ld H
 clear H
 refine ld ?_
 go_wp2_with (go_at_call 88; refine hcc.mono ?_; rintro e w11 ⟨k2, rfl, hk2, hpz, hgz⟩; refine Hid.out ?_)
 have H := HHH.out
 clear HHH hcc
 have hsz1 := hgz.size
 have H : Wd w (w11) b g cap T (t2) (tO yk yt yn yu ya) #[.int .i64 0, .int .i64 0, .string ⟨#[]⟩, .int .i64 0, .int .i64 0, .int .i64 0, .int .i64 0, .slice none 0 0, .int .i64 (ya : Int)] := H.step hgz hpz
 have hzq1 := Wd.sz H
 have hgk := hgz
 clear hgz hpz
 obtain ⟨c0, c1, c2, c3, c4, c5, c6, c7, c8, cf⟩ := Nc.of H.x'
 have ct := Wd.text H
 obtain ⟨ka2, kn2, kc2, rfl⟩ := hk2.form
 have H : Wd w ((w11).alloc (.cells #[.int .i64 f2, .int .i64 s2', .string ⟨nm2.toArray⟩, .int .i64 tk2, .int .i64 tl2, .int .i64 n2', .int .i64 m2, .slice ka2 kn2 kc2, .int .i64 a2] 37)) b g cap T (t2) (tO yk yt yn yu ya) #[.int .i64 0, .int .i64 0, .string ⟨#[]⟩, .int .i64 0, .int .i64 0, .int .i64 0, .int .i64 0, .slice none 0 0, .int .i64 (ya : Int)] := Wd.alloc H (.cells #[.int .i64 f2, .int .i64 s2', .string ⟨nm2.toArray⟩, .int .i64 tk2, .int .i64 tl2, .int .i64 n2', .int .i64 m2, .slice ka2 kn2 kc2, .int .i64 a2] 37)
 have hab := heap_alloc_new w11 (.cells #[.int .i64 f2, .int .i64 s2', .string ⟨nm2.toArray⟩, .int .i64 tk2, .int .i64 tl2, .int .i64 n2', .int .i64 m2, .slice ka2 kn2 kc2, .int .i64 a2] 37)
 have hk2 := Kids.kept0 hk2 (ga w11 (.cells #[.int .i64 f2, .int .i64 s2', .string ⟨nm2.toArray⟩, .int .i64 tk2, .int .i64 tl2, .int .i64 n2', .int .i64 m2, .slice ka2 kn2 kc2, .int .i64 a2] 37) none)
 have hcc := rtake_any b g cap T (t2) ⟨#[116, 104, 101, 110]⟩ _ H.p
 have hzp2 := Wd.sz H
 rw [show ((⟨#[116, 104, 101, 110]⟩ : ByteArray)).data.toList = [116, 104, 101, 110] from rfl] at hcc
 have HHH := ld H
 clear H
 refine ld ?_
 go_wp2_with (go_at_call 64; refine hcc.mono ?_; rintro e w12 ⟨rfl, hpz, hgz⟩; refine Hid.out ?_)
 clear c0 c1 c2 c3 c4 c5 c6 c7 c8 cf ct
 have H := HHH.out
 clear HHH hcc
 have hsz2 := hgz.size
 have H : Wd w (w12) b g cap T (Gram.Rf.take T [116, 104, 101, 110] (t2)) (tO yk yt yn yu ya) #[.int .i64 0, .int .i64 0, .string ⟨#[]⟩, .int .i64 0, .int .i64 0, .int .i64 0, .int .i64 0, .slice none 0 0, .int .i64 (ya : Int)] := H.step hgz hpz
 have hzq2 := Wd.sz H
 have hgk := hgz
 clear hgz hpz
 obtain ⟨c0, c1, c2, c3, c4, c5, c6, c7, c8, cf⟩ := Nc.of H.x'
 have ct := Wd.text H
 have hk2 := Kids.kept hk2 hgk (by omega)
 have hab := (hgk.block (w11.heap.size) (Array.getElem?_eq_some_iff.1 hab).1 (by simp; omega)).trans hab
 have hcc := hce3 _ H.p
 have hzp3 := Wd.sz H
 have HHH := ld H
 clear H
 refine ld ?_
 go_wp2_with (go_at_call 88; refine hcc.mono ?_; rintro e w13 ⟨k3, rfl, hk3, hpz, hgz⟩; refine Hid.out ?_)
 clear c0 c1 c2 c3 c4 c5 c6 c7 c8 cf ct
 have H := HHH.out
 clear HHH hcc
 have hsz3 := hgz.size
 have H : Wd w (w13) b g cap T (t3) (tO yk yt yn yu ya) #[.int .i64 0, .int .i64 0, .string ⟨#[]⟩, .int .i64 0, .int .i64 0, .int .i64 0, .int .i64 0, .slice none 0 0, .int .i64 (ya : Int)] := H.step hgz hpz
 have hzq3 := Wd.sz H
 have hgk := hgz
 clear hgz hpz
 obtain ⟨c0, c1, c2, c3, c4, c5, c6, c7, c8, cf⟩ := Nc.of H.x'
 have ct := Wd.text H
 obtain ⟨ka3, kn3, kc3, rfl⟩ := hk3.form
 have hk2 := Kids.kept hk2 hgk (by omega)
 have hab := (hgk.block (w11.heap.size) (Array.getElem?_eq_some_iff.1 hab).1 (by simp; omega)).trans hab
 have H : Wd w ((w13).alloc (.cells #[.int .i64 f3, .int .i64 s3', .string ⟨nm3.toArray⟩, .int .i64 tk3, .int .i64 tl3, .int .i64 n3', .int .i64 m3, .slice ka3 kn3 kc3, .int .i64 a3] 37)) b g cap T (t3) (tO yk yt yn yu ya) #[.int .i64 0, .int .i64 0, .string ⟨#[]⟩, .int .i64 0, .int .i64 0, .int .i64 0, .int .i64 0, .slice none 0 0, .int .i64 (ya : Int)] := Wd.alloc H (.cells #[.int .i64 f3, .int .i64 s3', .string ⟨nm3.toArray⟩, .int .i64 tk3, .int .i64 tl3, .int .i64 n3', .int .i64 m3, .slice ka3 kn3 kc3, .int .i64 a3] 37)
 have hbb := heap_alloc_new w13 (.cells #[.int .i64 f3, .int .i64 s3', .string ⟨nm3.toArray⟩, .int .i64 tk3, .int .i64 tl3, .int .i64 n3', .int .i64 m3, .slice ka3 kn3 kc3, .int .i64 a3] 37)
 have hk3 := Kids.kept0 hk3 (ga w13 (.cells #[.int .i64 f3, .int .i64 s3', .string ⟨nm3.toArray⟩, .int .i64 tk3, .int .i64 tl3, .int .i64 n3', .int .i64 m3, .slice ka3 kn3 kc3, .int .i64 a3] 37) none)
 have hk2 := Kids.kept0 hk2 (ga w13 (.cells #[.int .i64 f3, .int .i64 s3', .string ⟨nm3.toArray⟩, .int .i64 tk3, .int .i64 tl3, .int .i64 n3', .int .i64 m3, .slice ka3 kn3 kc3, .int .i64 a3] 37) none)
 have hab := ((ga w13 (.cells #[.int .i64 f3, .int .i64 s3', .string ⟨nm3.toArray⟩, .int .i64 tk3, .int .i64 tl3, .int .i64 n3', .int .i64 m3, .slice ka3 kn3 kc3, .int .i64 a3] 37) none).block (w11.heap.size) (Array.getElem?_eq_some_iff.1 hab).1 (by simp)).trans hab
 have hcc := rtake_any b g cap T (t3) ⟨#[101, 108, 115, 101]⟩ _ H.p
 have hzp4 := Wd.sz H
 rw [show ((⟨#[101, 108, 115, 101]⟩ : ByteArray)).data.toList = [101, 108, 115, 101] from rfl] at hcc
 have HHH := ld H
 clear H
 refine ld ?_
 go_wp2_with (go_at_call 64; refine hcc.mono ?_; rintro e w14 ⟨rfl, hpz, hgz⟩; refine Hid.out ?_)
 clear c0 c1 c2 c3 c4 c5 c6 c7 c8 cf ct
 have H := HHH.out
 clear HHH hcc
 have hsz4 := hgz.size
 have H : Wd w (w14) b g cap T (Gram.Rf.take T [101, 108, 115, 101] (t3)) (tO yk yt yn yu ya) #[.int .i64 0, .int .i64 0, .string ⟨#[]⟩, .int .i64 0, .int .i64 0, .int .i64 0, .int .i64 0, .slice none 0 0, .int .i64 (ya : Int)] := H.step hgz hpz
 have hzq4 := Wd.sz H
 have hgk := hgz
 clear hgz hpz
 obtain ⟨c0, c1, c2, c3, c4, c5, c6, c7, c8, cf⟩ := Nc.of H.x'
 have ct := Wd.text H
 have hk2 := Kids.kept hk2 hgk (by omega)
 have hk3 := Kids.kept hk3 hgk (by omega)
 have hab := (hgk.block (w11.heap.size) (Array.getElem?_eq_some_iff.1 hab).1 (by simp; omega)).trans hab
 have hbb := (hgk.block (w13.heap.size) (Array.getElem?_eq_some_iff.1 hbb).1 (by simp; omega)).trans hbb
 have H : Wd w ((w14).setCell ⟨w.heap.size + 1 + 1, 0, none⟩ (.int .i64 5)) b g cap T (Gram.Rf.take T [101, 108, 115, 101] (t3)) (tO yk yt yn yu ya) #[.int .i64 5, .int .i64 0, .string ⟨#[]⟩, .int .i64 0, .int .i64 0, .int .i64 0, .int .i64 0, .slice none 0 0, .int .i64 (ya : Int)] := Wd.set h H 0 (.int .i64 5)
 have hgs : w14.grownBy ((w14).setCell ⟨w.heap.size + 1 + 1, 0, none⟩ (.int .i64 5)) (some (w.heap.size + 1 + 1)) := gset (World.grownBy.refl w14 _) (a := ⟨w.heap.size + 1 + 1, 0, none⟩) (.inr rfl) _
 have hk2 := Kids.setX (w := w) (by omega) 0 (.int .i64 5) hk2
 have hk3 := Kids.setX (w := w) (by omega) 0 (.int .i64 5) hk3
 have hab := (hgs.block (w11.heap.size) (Array.getElem?_eq_some_iff.1 hab).1 (by simp; omega)).trans hab
 have hbb := (hgs.block (w13.heap.size) (Array.getElem?_eq_some_iff.1 hbb).1 (by simp; omega)).trans hbb
 obtain ⟨WB, hWB⟩ : ∃ WB, WB = ((w14).setCell ⟨w.heap.size + 1 + 1, 0, none⟩ (.int .i64 5)).drew := ⟨_, rfl⟩
 have hab : WB.heap[w11.heap.size]? = some (.cells #[.int .i64 f2, .int .i64 s2', .string ⟨nm2.toArray⟩, .int .i64 tk2, .int .i64 tl2, .int .i64 n2', .int .i64 m2, .slice ka2 kn2 kc2, .int .i64 a2] 37 (0, 0)) := by rw [hWB]; exact hab
 have hbb : WB.heap[w13.heap.size]? = some (.cells #[.int .i64 f3, .int .i64 s3', .string ⟨nm3.toArray⟩, .int .i64 tk3, .int .i64 tl3, .int .i64 n3', .int .i64 m3, .slice ka3 kn3 kc3, .int .i64 a3] 37 (0, 0)) := by rw [hWB]; exact hbb
 have hk2 := Kids.kept0 hk2 (gdrew (World.grownBy.refl _ none))
 rw [← hWB] at hk2
 have hk3 := Kids.kept0 hk3 (gdrew (World.grownBy.refl _ none))
 rw [← hWB] at hk3
 have HW : Wd w WB b g cap T (Gram.Rf.take T [101, 108, 115, 101] (t3)) (tO yk yt yn yu ya) #[.int .i64 5, .int .i64 0, .string ⟨#[]⟩, .int .i64 0, .int .i64 0, .int .i64 0, .int .i64 0, .slice none 0 0, .int .i64 (ya : Int)] := by rw [hWB]; exact H.step0 (gdrew (World.grownBy.refl _ none))
 have hsB : WB.heap.size = w14.heap.size := by rw [hWB]; exact size_set _ _ _
 obtain ⟨d0, d1, d2, d3, d4, d5, d6, d7, d8, df⟩ := Nc.of hab
 obtain ⟨e0, e1, e2, e3, e4, e5, e6, e7, e8, ef⟩ := Nc.of hbb
 have hS0 : (WB.cell? ⟨w11.heap.size, 0, none⟩ = some (.int .i64 f2) ∧ WB.cell? ⟨w11.heap.size, 1, none⟩ = some (.int .i64 s2') ∧ WB.cell? ⟨w11.heap.size, 2, none⟩ = some (.string ⟨nm2.toArray⟩) ∧ WB.cell? ⟨w11.heap.size, 3, none⟩ = some (.int .i64 tk2) ∧ WB.cell? ⟨w11.heap.size, 4, none⟩ = some (.int .i64 tl2) ∧ WB.cell? ⟨w11.heap.size, 5, none⟩ = some (.int .i64 n2') ∧ WB.cell? ⟨w11.heap.size, 6, none⟩ = some (.int .i64 m2) ∧ WB.cell? ⟨w11.heap.size, 7, none⟩ = some (.slice ka2 kn2 kc2) ∧ WB.cell? ⟨w11.heap.size, 8, none⟩ = some (.int .i64 a2)) ∧ (WB.cell? ⟨w13.heap.size, 0, none⟩ = some (.int .i64 f3) ∧ WB.cell? ⟨w13.heap.size, 1, none⟩ = some (.int .i64 s3') ∧ WB.cell? ⟨w13.heap.size, 2, none⟩ = some (.string ⟨nm3.toArray⟩) ∧ WB.cell? ⟨w13.heap.size, 3, none⟩ = some (.int .i64 tk3) ∧ WB.cell? ⟨w13.heap.size, 4, none⟩ = some (.int .i64 tl3) ∧ WB.cell? ⟨w13.heap.size, 5, none⟩ = some (.int .i64 n3') ∧ WB.cell? ⟨w13.heap.size, 6, none⟩ = some (.int .i64 m3) ∧ WB.cell? ⟨w13.heap.size, 7, none⟩ = some (.slice ka3 kn3 kc3) ∧ WB.cell? ⟨w13.heap.size, 8, none⟩ = some (.int .i64 a3)) := ⟨⟨d0, d1, d2, d3, d4, d5, d6, d7, d8⟩, e0, e1, e2, e3, e4, e5, e6, e7, e8⟩
 clear d0 d1 d2 d3 d4 d5 d6 d7 d8 df e0 e1 e2 e3 e4 e5 e6 e7 e8 ef
 have hce := hce4 _ HW.p
 have hbig := Wd.sz HW
 have HHW := ld HW
 clear H HW hce4
 have HsB := ld hsB
 clear hsB
 refine ld ?_
 go_wp2
 refine wp_region_L (S := fun w' => (w'.cell? ⟨w11.heap.size, 0, none⟩ = some (.int .i64 f2) ∧ w'.cell? ⟨w11.heap.size, 1, none⟩ = some (.int .i64 s2') ∧ w'.cell? ⟨w11.heap.size, 2, none⟩ = some (.string ⟨nm2.toArray⟩) ∧ w'.cell? ⟨w11.heap.size, 3, none⟩ = some (.int .i64 tk2) ∧ w'.cell? ⟨w11.heap.size, 4, none⟩ = some (.int .i64 tl2) ∧ w'.cell? ⟨w11.heap.size, 5, none⟩ = some (.int .i64 n2') ∧ w'.cell? ⟨w11.heap.size, 6, none⟩ = some (.int .i64 m2) ∧ w'.cell? ⟨w11.heap.size, 7, none⟩ = some (.slice ka2 kn2 kc2) ∧ w'.cell? ⟨w11.heap.size, 8, none⟩ = some (.int .i64 a2)) ∧ (w'.cell? ⟨w13.heap.size, 0, none⟩ = some (.int .i64 f3) ∧ w'.cell? ⟨w13.heap.size, 1, none⟩ = some (.int .i64 s3') ∧ w'.cell? ⟨w13.heap.size, 2, none⟩ = some (.string ⟨nm3.toArray⟩) ∧ w'.cell? ⟨w13.heap.size, 3, none⟩ = some (.int .i64 tk3) ∧ w'.cell? ⟨w13.heap.size, 4, none⟩ = some (.int .i64 tl3) ∧ w'.cell? ⟨w13.heap.size, 5, none⟩ = some (.int .i64 n3') ∧ w'.cell? ⟨w13.heap.size, 6, none⟩ = some (.int .i64 m3) ∧ w'.cell? ⟨w13.heap.size, 7, none⟩ = some (.slice ka3 kn3 kc3) ∧ w'.cell? ⟨w13.heap.size, 8, none⟩ = some (.int .i64 a3))) (Z := [6]) (by kernel_rfl) ?_
 rw [← hWB]
 clear hWB
 refine wpL_take (i := 0) (v := .agg #[.int .i64 f2, .int .i64 s2', .string ⟨nm2.toArray⟩, .int .i64 tk2, .int .i64 tl2, .int .i64 n2', .int .i64 m2, .slice ka2 kn2 kc2, .int .i64 a2]) rfl (by kernel_rfl) (by kernel_rfl) (by kernel_rfl) (fun _ _ _ h => h) (by kernel_rfl) (.inl ⟨rfl, fun w' hw' => ?_⟩) hS0 ?_
 ·obtain ⟨⟨q0, q1, q2, q3, q4, q5, q6, q7, q8⟩, r0, r1, r2, r3, r4, r5, r6, r7, r8⟩ := hw'
  go_simp
 refine wpL_take (i := 1) (v := .agg #[.int .i64 f3, .int .i64 s3', .string ⟨nm3.toArray⟩, .int .i64 tk3, .int .i64 tl3, .int .i64 n3', .int .i64 m3, .slice ka3 kn3 kc3, .int .i64 a3]) rfl (by kernel_rfl) (by kernel_rfl) (by kernel_rfl) (fun _ _ _ h => h) (by kernel_rfl) (.inl ⟨rfl, fun w' hw' => ?_⟩) hS0 ?_
 ·obtain ⟨⟨q0, q1, q2, q3, q4, q5, q6, q7, q8⟩, r0, r1, r2, r3, r4, r5, r6, r7, r8⟩ := hw'
  go_simp
 refine wpL_take (i := 2) (v := .pointer (some ⟨b, 0, none⟩)) rfl (by kernel_rfl) (by kernel_rfl) (by kernel_rfl) (fun _ _ _ h => h) (by kernel_rfl) (.inl ⟨rfl, fun w' hw' => ?_⟩) hS0 ?_
 ·obtain ⟨⟨q0, q1, q2, q3, q4, q5, q6, q7, q8⟩, r0, r1, r2, r3, r4, r5, r6, r7, r8⟩ := hw'
  go_simp
 refine wpL_one (i := 3) (by kernel_rfl) ?_
 refine wpOp_step rfl (fun K' hK => ?_)
 split
 case isFalse hno => exact absurd rfl hno
 unfold Oper.wp
 go_simp
 refine hce.mono ?_
 rintro e w8 ⟨k4, rfl, hk4, hp8, hg8⟩
 obtain ⟨ka4, kn4, kc4, rfl⟩ := hk4.form
 have hab8 := (hg8.block (w11.heap.size) (Array.getElem?_eq_some_iff.1 hab).1 (by simp; omega)).trans hab
 have hbb8 := (hg8.block (w13.heap.size) (Array.getElem?_eq_some_iff.1 hbb).1 (by simp; omega)).trans hbb
 obtain ⟨y0, y1, y2, y3, y4, y5, y6, y7, y8, yf⟩ := Nc.of hab8
 obtain ⟨z0, z1, z2, z3, z4, z5, z6, z7, z8, zf⟩ := Nc.of hbb8
 refine hK _ _ ⟨fun _ => ⟨⟨y0, y1, y2, y3, y4, y5, y6, y7, y8⟩, z0, z1, z2, z3, z4, z5, z6, z7, z8⟩, ?_⟩
 clear hK K'
 refine wpL_one (i := 4) (by kernel_rfl) ?_
 refine wpOp_step rfl (fun K' hK => ?_)
 split
 case isFalse hno => exact absurd rfl hno
 unfold Oper.wp
 go_simp
 have H := (HHW.out.step hg8 hp8).alloc (.cells #[.int .i64 f2, .int .i64 s2', .string ⟨nm2.toArray⟩, .int .i64 tk2, .int .i64 tl2, .int .i64 n2', .int .i64 m2, .slice ka2 kn2 kc2, .int .i64 a2, .int .i64 f3, .int .i64 s3', .string ⟨nm3.toArray⟩, .int .i64 tk3, .int .i64 tl3, .int .i64 n3', .int .i64 m3, .slice ka3 kn3 kc3, .int .i64 a3, .int .i64 f4, .int .i64 s4', .string ⟨nm4.toArray⟩, .int .i64 tk4, .int .i64 tl4, .int .i64 n4', .int .i64 m4, .slice ka4 kn4 kc4, .int .i64 a4] 37)
 have hab9 := ((ga w8 (.cells #[.int .i64 f2, .int .i64 s2', .string ⟨nm2.toArray⟩, .int .i64 tk2, .int .i64 tl2, .int .i64 n2', .int .i64 m2, .slice ka2 kn2 kc2, .int .i64 a2, .int .i64 f3, .int .i64 s3', .string ⟨nm3.toArray⟩, .int .i64 tk3, .int .i64 tl3, .int .i64 n3', .int .i64 m3, .slice ka3 kn3 kc3, .int .i64 a3, .int .i64 f4, .int .i64 s4', .string ⟨nm4.toArray⟩, .int .i64 tk4, .int .i64 tl4, .int .i64 n4', .int .i64 m4, .slice ka4 kn4 kc4, .int .i64 a4] 37) none).block (w11.heap.size) (Array.getElem?_eq_some_iff.1 hab8).1 (by simp)).trans hab8
 have hbb9 := ((ga w8 (.cells #[.int .i64 f2, .int .i64 s2', .string ⟨nm2.toArray⟩, .int .i64 tk2, .int .i64 tl2, .int .i64 n2', .int .i64 m2, .slice ka2 kn2 kc2, .int .i64 a2, .int .i64 f3, .int .i64 s3', .string ⟨nm3.toArray⟩, .int .i64 tk3, .int .i64 tl3, .int .i64 n3', .int .i64 m3, .slice ka3 kn3 kc3, .int .i64 a3, .int .i64 f4, .int .i64 s4', .string ⟨nm4.toArray⟩, .int .i64 tk4, .int .i64 tl4, .int .i64 n4', .int .i64 m4, .slice ka4 kn4 kc4, .int .i64 a4] 37) none).block (w13.heap.size) (Array.getElem?_eq_some_iff.1 hbb8).1 (by simp)).trans hbb8
 clear y0 y1 y2 y3 y4 y5 y6 y7 y8 yf z0 z1 z2 z3 z4 z5 z6 z7 z8 zf
 obtain ⟨y0, y1, y2, y3, y4, y5, y6, y7, y8, yf⟩ := Nc.of hab9
 obtain ⟨z0, z1, z2, z3, z4, z5, z6, z7, z8, zf⟩ := Nc.of hbb9
 refine hK _ _ ⟨fun _ => ⟨⟨y0, y1, y2, y3, y4, y5, y6, y7, y8⟩, z0, z1, z2, z3, z4, z5, z6, z7, z8⟩, ?_⟩
 clear hK K'
 refine wpL_one (i := 5) (by kernel_rfl) ?_
 refine wpOp_step rfl (fun K' hK => ?_)
 split
 case isFalse hno => exact absurd rfl hno
 unfold Oper.wp
 go_simp
 refine hK _ _ ⟨fun _ => ⟨⟨y0, y1, y2, y3, y4, y5, y6, y7, y8⟩, z0, z1, z2, z3, z4, z5, z6, z7, z8⟩, ?_⟩
 clear hK K'
 clear y0 y1 y2 y3 y4 y5 y6 y7 y8 yf z0 z1 z2 z3 z4 z5 z6 z7 z8 zf
 obtain ⟨c0, c1, c2, c3, c4, c5, c6, c7, c8, cf⟩ := Nc.of H.x'
 have hs8 := hg8.size
 have hsB := HsB.out
 have hk2 := Kids.kept0 (Kids.kept hk2 hg8 (by omega)) (ga w8 (.cells #[.int .i64 f2, .int .i64 s2', .string ⟨nm2.toArray⟩, .int .i64 tk2, .int .i64 tl2, .int .i64 n2', .int .i64 m2, .slice ka2 kn2 kc2, .int .i64 a2, .int .i64 f3, .int .i64 s3', .string ⟨nm3.toArray⟩, .int .i64 tk3, .int .i64 tl3, .int .i64 n3', .int .i64 m3, .slice ka3 kn3 kc3, .int .i64 a3, .int .i64 f4, .int .i64 s4', .string ⟨nm4.toArray⟩, .int .i64 tk4, .int .i64 tl4, .int .i64 n4', .int .i64 m4, .slice ka4 kn4 kc4, .int .i64 a4] 37) none)
 have hk3 := Kids.kept0 (Kids.kept hk3 hg8 (by omega)) (ga w8 (.cells #[.int .i64 f2, .int .i64 s2', .string ⟨nm2.toArray⟩, .int .i64 tk2, .int .i64 tl2, .int .i64 n2', .int .i64 m2, .slice ka2 kn2 kc2, .int .i64 a2, .int .i64 f3, .int .i64 s3', .string ⟨nm3.toArray⟩, .int .i64 tk3, .int .i64 tl3, .int .i64 n3', .int .i64 m3, .slice ka3 kn3 kc3, .int .i64 a3, .int .i64 f4, .int .i64 s4', .string ⟨nm4.toArray⟩, .int .i64 tk4, .int .i64 tl4, .int .i64 n4', .int .i64 m4, .slice ka4 kn4 kc4, .int .i64 a4] 37) none)
 have hk4 := Kids.kept0 hk4 (ga w8 (.cells #[.int .i64 f2, .int .i64 s2', .string ⟨nm2.toArray⟩, .int .i64 tk2, .int .i64 tl2, .int .i64 n2', .int .i64 m2, .slice ka2 kn2 kc2, .int .i64 a2, .int .i64 f3, .int .i64 s3', .string ⟨nm3.toArray⟩, .int .i64 tk3, .int .i64 tl3, .int .i64 n3', .int .i64 m3, .slice ka3 kn3 kc3, .int .i64 a3, .int .i64 f4, .int .i64 s4', .string ⟨nm4.toArray⟩, .int .i64 tk4, .int .i64 tl4, .int .i64 n4', .int .i64 m4, .slice ka4 kn4 kc4, .int .i64 a4] 37) none)
 have hKL : Kids (w8.alloc (.cells #[.int .i64 f2, .int .i64 s2', .string ⟨nm2.toArray⟩, .int .i64 tk2, .int .i64 tl2, .int .i64 n2', .int .i64 m2, .slice ka2 kn2 kc2, .int .i64 a2, .int .i64 f3, .int .i64 s3', .string ⟨nm3.toArray⟩, .int .i64 tk3, .int .i64 tl3, .int .i64 n3', .int .i64 m3, .slice ka3 kn3 kc3, .int .i64 a3, .int .i64 f4, .int .i64 s4', .string ⟨nm4.toArray⟩, .int .i64 tk4, .int .i64 tl4, .int .i64 n4', .int .i64 m4, .slice ka4 kn4 kc4, .int .i64 a4] 37)) (w.heap.size + 3) [(Gram.Exp.mk f2 s2' nm2 tk2 tl2 n2' m2 ks2 a2), (Gram.Exp.mk f3 s3' nm3 tk3 tl3 n3' m3 ks3 a3), (Gram.Exp.mk f4 s4' nm4 tk4 tl4 n4' m4 ks4 a4)] (.slice (some ⟨w8.heap.size, 0, none⟩) 3 3) := Kids.three (owns_new (w := w8) (B := w.heap.size + 3) 37 9 3 (expCells (Gram.Exp.mk f2 s2' nm2 tk2 tl2 n2' m2 ks2 a2) (.slice ka2 kn2 kc2) ++ expCells (Gram.Exp.mk f3 s3' nm3 tk3 tl3 n3' m3 ks3 a3) (.slice ka3 kn3 kc3) ++ expCells (Gram.Exp.mk f4 s4' nm4 tk4 tl4 n4' m4 ks4 a4) (.slice ka4 kn4 kc4)) (by omega) rfl (by unfold maxLen; omega)) (RepC.mono (by omega) hk2) (RepC.mono (by omega) hk3) (RepC.mono (by omega) hk4)
 have hKL := Kids.setX (w := w) (by omega) 7 (.slice (some ⟨w8.heap.size, 0, none⟩) 3 3) hKL
 refine wpL_one (i := 6) (by kernel_rfl) ?_
 refine wpOp_step rfl (fun K' hK => ?_)
 split
 case isFalse hno => exact absurd rfl hno
 unfold Oper.wp
 go_simp
 refine hK _ _ ⟨fun hno => absurd (by simp) hno, ?_⟩
 clear hK K'
 refine wpL_done (by kernel_rfl) ?_ _
 have H : Wd w ((w8.alloc (.cells #[.int .i64 f2, .int .i64 s2', .string ⟨nm2.toArray⟩, .int .i64 tk2, .int .i64 tl2, .int .i64 n2', .int .i64 m2, .slice ka2 kn2 kc2, .int .i64 a2, .int .i64 f3, .int .i64 s3', .string ⟨nm3.toArray⟩, .int .i64 tk3, .int .i64 tl3, .int .i64 n3', .int .i64 m3, .slice ka3 kn3 kc3, .int .i64 a3, .int .i64 f4, .int .i64 s4', .string ⟨nm4.toArray⟩, .int .i64 tk4, .int .i64 tl4, .int .i64 n4', .int .i64 m4, .slice ka4 kn4 kc4, .int .i64 a4] 37)).setCell ⟨w.heap.size + 1 + 1, 7, none⟩ (.slice (some ⟨w8.heap.size, 0, none⟩) 3 3)) b g cap T (t4) (tO yk yt yn yu ya) #[.int .i64 5, .int .i64 0, .string ⟨#[]⟩, .int .i64 0, .int .i64 0, .int .i64 0, .int .i64 0, .slice (some ⟨w8.heap.size, 0, none⟩) 3 3, .int .i64 (ya : Int)] := Wd.set h H 7 (.slice (some ⟨w8.heap.size, 0, none⟩) 3 3)
 clear c0 c1 c2 c3 c4 c5 c6 c7 c8 cf
 obtain ⟨c0, c1, c2, c3, c4, c5, c6, c7, c8, cf⟩ := Nc.of H.x'
 refine Hid.out ?_
 have HF := ld H
 have hr1 := H.r
 have hgx := H.g'
 clear H
 refine ld ?_
 go_wp2_with (with_reducible refine hold_st 4 ?_)
 refine wpList_store_gen rfl _ _ _ rfl (w.heap.size + 1) #[.int .i64 5, .int .i64 0, .string ⟨#[]⟩, .int .i64 0, .int .i64 0, .int .i64 0, .int .i64 0, .slice (some ⟨w8.heap.size, 0, none⟩) 3 3, .int .i64 (ya : Int)] rfl rfl 37 _ hr1 (by kernel_rfl) rfl (by simp [Value.oneCell']) ?_
 intro w9 hh9 hg9
 go_wp2
 (try simp only [Exit.inBlock, Exit.then])
 refine br hh9 Tryz.underlying37 ?_
 have hG : w.grownBy w9 (some b) := hgx.andThen hg9 (fun j e => .inl (by cases e; omega))
 exact ⟨_, rfl, RepC.mono (by omega) (RepC.kept hg9 (fun k e => by cases e; omega) hKL), HH.out.to hG (HF.out.p.st.kept hg9 (by simp; omega)) HF.out.p.lt, hG⟩
end
end Go.Proofs.YtonafedbehnneaaGreat
