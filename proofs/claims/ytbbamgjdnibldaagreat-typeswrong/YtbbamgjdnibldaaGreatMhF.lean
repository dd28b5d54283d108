/- My texts RpLh RpLi RpLj RpN GsB GsC GsD GsE GsF GtA GtB RpO RpP RpQ RpR GtC GtD GtE GtF GtI, joined. -/
import Derived.Test.YtbbamgjdnibldaaGreatMhE
set_option linter.unusedVariables false
set_option linter.unusedSimpArgs false
set_option linter.unnecessarySimpa false
set_option linter.unusedSectionVars false
set_option maxHeartbeats 12800000
set_option maxRecDepth 20000
namespace Go.Proofs.YtbbamgjdnibldaaGreat
open Go.RowKit Go.Maps Go.WideMaps
section
variable (b g cap : Nat) (T : List Lex.Tk)
theorem rword_merge (f : Nat) (hC : ∀ f', f' ≤ f → CRex b g cap T 166 (Gram.Rf.exp T f')) (s : Gram.Rf.St) (w : World) (h : Rp w b g cap T s) (yk yn yu : Int) (yt : List UInt8) (ya : Nat) (hw : yt = [109, 101, 114, 103, 101]) (hi : s.i + 1 < T.length) (hf : (Gram.Rf.wordE T (f + 1) ⟨yk, yt, yn, yu, ya⟩ s).isSome = true) :
  Calls Tryz.prog 185 #[.pointer (some ⟨b, 0, none⟩), .agg #[.int .i64 yk, .string ⟨yt.toArray⟩, .int .i64 yn, .int .i64 yu, .int .i64 0, .int .i64 (ya : Int)]] w fun e w' => rePost w b g cap T (Gram.Rf.wordE T (f + 1) ⟨yk, yt, yn, yu, ya⟩ s) e w' := by
 have hbw := h.bl
 have hm := h.toks.most
 have HH := ld h
 have p1 := h.st.c1
 have fr1 := h.st.fr 1
 have nb0 : ¬ b = w.heap.size := by omega
 have nb1 : ¬ b = w.heap.size + 1 := by omega
 have nb2 : ¬ b = w.heap.size + 1 + 1 := by omega
 have nb3 : ¬ b = w.heap.size + 1 + 1 := by omega
 rw [Gram.Rf.wordE] at hf ⊢
 simp only at hf ⊢
 rw [if_neg (show ¬ yt = [116, 114, 117, 101] by rw [hw]; decide)] at hf ⊢
 rw [if_neg (show ¬ yt = [102, 97, 108, 115, 101] by rw [hw]; decide)] at hf ⊢
 rw [if_neg (show ¬ yt = [105, 102] by rw [hw]; decide)] at hf ⊢
 rw [if_neg (show ¬ yt = [119, 104, 101, 110] by rw [hw]; decide)] at hf ⊢
 rw [if_pos (show yt = [109, 101, 114, 103, 101] from hw)] at hf ⊢
 have e_true : (yt == [116, 114, 117, 101]) = false := by rw [hw]; rfl
 have e_false : (yt == [102, 97, 108, 115, 101]) = false := by rw [hw]; rfl
 have e_if : (yt == [105, 102]) = false := by rw [hw]; rfl
 have e_when : (yt == [119, 104, 101, 110]) = false := by rw [hw]; rfl
 have e_merge : (yt == [109, 101, 114, 103, 101]) = true := by rw [hw]; rfl
 have e_cast : (yt == [99, 97, 115, 116]) = false := by rw [hw]; rfl
 have e_tick : (yt == [116, 105, 99, 107]) = false := by rw [hw]; rfl
 have e_reset : (yt == [114, 101, 115, 101, 116]) = false := by rw [hw]; rfl
 have e_rep : (yt == [114, 101, 112]) = false := by rw [hw]; rfl
 have e_map : (yt == [109, 97, 112]) = false := by rw [hw]; rfl
 have e_fold : (yt == [102, 111, 108, 100]) = false := by rw [hw]; rfl
 cases hr2 : Gram.Rf.exp T f (Gram.Rf.take T [44] ((Gram.Rf.name T (Gram.Rf.take T [40] (Gram.Rf.adv s))).2)) with
 | none => rw [hr2] at hf; cases hf
 | some r2 =>
 obtain ⟨x2, t2⟩ := r2
 rw [hr2] at hf
 simp only [Gram.Rf.bindS] at hf ⊢
 cases x2 with
 | mk f2 s2' nm2 tk2 tl2 n2' m2 ks2 a2 =>
 have hce2 : ∀ wx, Rp wx b g cap T (Gram.Rf.take T [44] ((Gram.Rf.name T (Gram.Rf.take T [40] (Gram.Rf.adv s))).2)) → Calls Tryz.prog 166 #[.pointer (some ⟨b, 0, none⟩)] wx fun e w' => rePost wx b g cap T (some ((Gram.Exp.mk f2 s2' nm2 tk2 tl2 n2' m2 ks2 a2), t2)) e w' := fun wx hx => by
  have := hC f (Nat.le_refl _) (Gram.Rf.take T [44] ((Gram.Rf.name T (Gram.Rf.take T [40] (Gram.Rf.adv s))).2)) wx hx
  rw [hr2] at this
  exact this rfl
 simp only [rePost, expV] at hce2
 clear hr2
 cases hr3 : Gram.Rf.exp T f (Gram.Rf.take T [44] (t2)) with
 | none => rw [hr3] at hf; cases hf
 | some r3 =>
 obtain ⟨x3, t3⟩ := r3
 rw [hr3] at hf
 simp only [Gram.Rf.bindS] at hf ⊢
 cases x3 with
 | mk f3 s3' nm3 tk3 tl3 n3' m3 ks3 a3 =>
 have hce3 : ∀ wx, Rp wx b g cap T (Gram.Rf.take T [44] (t2)) → Calls Tryz.prog 166 #[.pointer (some ⟨b, 0, none⟩)] wx fun e w' => rePost wx b g cap T (some ((Gram.Exp.mk f3 s3' nm3 tk3 tl3 n3' m3 ks3 a3), t3)) e w' := fun wx hx => by
  have := hC f (Nat.le_refl _) (Gram.Rf.take T [44] (t2)) wx hx
  rw [hr3] at this
  exact this rfl
 simp only [rePost, expV] at hce3
 clear hr3
 clear hf
 clear hw
 have H : Wd w ((((w.alloc (tO yk yt yn yu ya)).alloc exp0).alloc (.cells #[.int .i64 0, .int .i64 0, .string ⟨#[]⟩, .int .i64 0, .int .i64 0, .int .i64 0, .int .i64 0, .slice none 0 0, .int .i64 (ya : Int)] 85))) b g cap T (s) (tO yk yt yn yu ya) #[.int .i64 0, .int .i64 0, .string ⟨#[]⟩, .int .i64 0, .int .i64 0, .int .i64 0, .int .i64 0, .slice none 0 0, .int .i64 (ya : Int)] := ⟨((h.alloc _).alloc _).alloc _, galloc (galloc (galloc (World.grownBy.refl w (some b)) _) _) _, heap3_0 w _ _ _, heap3_1 w _ _ _, heap3_2 w _ _ _, hbw⟩
 have q1 := H.p.st.c1
 have qf := H.p.st.fr 1
 unfold exp0 at q1 qf
 have H : Wd w (((((w.alloc (tO yk yt yn yu ya)).alloc exp0).alloc (.cells #[.int .i64 0, .int .i64 0, .string ⟨#[]⟩, .int .i64 0, .int .i64 0, .int .i64 0, .int .i64 0, .slice none 0 0, .int .i64 (ya : Int)] 85))).setCell ⟨b, 1, none⟩ (.int .i64 ((s.i : Int) + 1))) b g cap T (Gram.Rf.adv s) (tO yk yt yn yu ya) #[.int .i64 0, .int .i64 0, .string ⟨#[]⟩, .int .i64 0, .int .i64 0, .int .i64 0, .int .i64 0, .slice none 0 0, .int .i64 (ya : Int)] := H.adv hi
 go_enter Tryz.func185, Tryz.ntmps185
 refine Hid.out ?_
 have hcc := rtake_any b g cap T (Gram.Rf.adv s) ⟨#[40]⟩ _ H.p
 have hzp1 := Wd.sz H
 rw [show ((⟨#[40]⟩ : ByteArray)).data.toList = [40] from rfl] at hcc
 have HHH := ld H
 clear H
 refine ld ?_
 go_wp2_with (go_at_call 99; refine hcc.mono ?_; rintro e w11 ⟨rfl, hpz, hgz⟩; refine Hid.out ?_)
 have H := HHH.out
 clear HHH hcc
 have hsz1 := hgz.size
 have H : Wd w (w11) b g cap T (Gram.Rf.take T [40] (Gram.Rf.adv s)) (tO yk yt yn yu ya) #[.int .i64 0, .int .i64 0, .string ⟨#[]⟩, .int .i64 0, .int .i64 0, .int .i64 0, .int .i64 0, .slice none 0 0, .int .i64 (ya : Int)] := H.step hgz hpz
 have hzq1 := Wd.sz H
 have hgk := hgz
 clear hgz hpz
 obtain ⟨c0, c1, c2, c3, c4, c5, c6, c7, c8, cf⟩ := Nc.of H.x'
 have ct := Wd.text H
 have H : Wd w ((w11).setCell ⟨w.heap.size + 1 + 1, 0, none⟩ (.int .i64 10)) b g cap T (Gram.Rf.take T [40] (Gram.Rf.adv s)) (tO yk yt yn yu ya) #[.int .i64 10, .int .i64 0, .string ⟨#[]⟩, .int .i64 0, .int .i64 0, .int .i64 0, .int .i64 0, .slice none 0 0, .int .i64 (ya : Int)] := Wd.set h H 0 (.int .i64 10)
 have hcc := rname_any b g cap T (Gram.Rf.take T [40] (Gram.Rf.adv s)) _ H.p
 have hzp2 := Wd.sz H
 have HHH := ld H
 clear H
 refine ld ?_
 go_wp2_with (go_at_call 100; refine hcc.mono ?_; rintro e w12 ⟨rfl, hpz, hgz⟩; refine Hid.out ?_)
 clear c0 c1 c2 c3 c4 c5 c6 c7 c8 cf ct
 have H := HHH.out
 clear HHH hcc
 have hsz2 := hgz.size
 have H : Wd w (w12) b g cap T ((Gram.Rf.name T (Gram.Rf.take T [40] (Gram.Rf.adv s))).2) (tO yk yt yn yu ya) #[.int .i64 10, .int .i64 0, .string ⟨#[]⟩, .int .i64 0, .int .i64 0, .int .i64 0, .int .i64 0, .slice none 0 0, .int .i64 (ya : Int)] := H.step hgz hpz
 have hzq2 := Wd.sz H
 have hgk := hgz
 clear hgz hpz
 obtain ⟨c0, c1, c2, c3, c4, c5, c6, c7, c8, cf⟩ := Nc.of H.x'
 have ct := Wd.text H
 have H : Wd w ((w12).setCell ⟨w.heap.size + 1 + 1, 2, none⟩ (.string ⟨(Gram.Rf.name T (Gram.Rf.take T [40] (Gram.Rf.adv s))).1.toArray⟩)) b g cap T ((Gram.Rf.name T (Gram.Rf.take T [40] (Gram.Rf.adv s))).2) (tO yk yt yn yu ya) #[.int .i64 10, .int .i64 0, .string ⟨(Gram.Rf.name T (Gram.Rf.take T [40] (Gram.Rf.adv s))).1.toArray⟩, .int .i64 0, .int .i64 0, .int .i64 0, .int .i64 0, .slice none 0 0, .int .i64 (ya : Int)] := Wd.set h H 2 (.string ⟨(Gram.Rf.name T (Gram.Rf.take T [40] (Gram.Rf.adv s))).1.toArray⟩)
 have hcc := rtake_any b g cap T ((Gram.Rf.name T (Gram.Rf.take T [40] (Gram.Rf.adv s))).2) ⟨#[44]⟩ _ H.p
 have hzp3 := Wd.sz H
 rw [show ((⟨#[44]⟩ : ByteArray)).data.toList = [44] from rfl] at hcc
 have HHH := ld H
 clear H
 refine ld ?_
 go_wp2_with (go_at_call 99; refine hcc.mono ?_; rintro e w13 ⟨rfl, hpz, hgz⟩; refine Hid.out ?_)
 clear c0 c1 c2 c3 c4 c5 c6 c7 c8 cf ct
 have H := HHH.out
 clear HHH hcc
 have hsz3 := hgz.size
 have H : Wd w (w13) b g cap T (Gram.Rf.take T [44] ((Gram.Rf.name T (Gram.Rf.take T [40] (Gram.Rf.adv s))).2)) (tO yk yt yn yu ya) #[.int .i64 10, .int .i64 0, .string ⟨(Gram.Rf.name T (Gram.Rf.take T [40] (Gram.Rf.adv s))).1.toArray⟩, .int .i64 0, .int .i64 0, .int .i64 0, .int .i64 0, .slice none 0 0, .int .i64 (ya : Int)] := H.step hgz hpz
 have hzq3 := Wd.sz H
 have hgk := hgz
 clear hgz hpz
 obtain ⟨c0, c1, c2, c3, c4, c5, c6, c7, c8, cf⟩ := Nc.of H.x'
 have ct := Wd.text H
 have hcc := hce2 _ H.p
 have hzp4 := Wd.sz H
 have HHH := ld H
 clear H
 refine ld ?_
 go_wp2_with (go_at_call 166; refine hcc.mono ?_; rintro e w14 ⟨k2, rfl, hk2, hpz, hgz⟩; refine Hid.out ?_)
 clear c0 c1 c2 c3 c4 c5 c6 c7 c8 cf ct
 have H := HHH.out
 clear HHH hcc
 have hsz4 := hgz.size
 have H : Wd w (w14) b g cap T (t2) (tO yk yt yn yu ya) #[.int .i64 10, .int .i64 0, .string ⟨(Gram.Rf.name T (Gram.Rf.take T [40] (Gram.Rf.adv s))).1.toArray⟩, .int .i64 0, .int .i64 0, .int .i64 0, .int .i64 0, .slice none 0 0, .int .i64 (ya : Int)] := H.step hgz hpz
 have hzq4 := Wd.sz H
 have hgk := hgz
 clear hgz hpz
 obtain ⟨c0, c1, c2, c3, c4, c5, c6, c7, c8, cf⟩ := Nc.of H.x'
 have ct := Wd.text H
 obtain ⟨ka2, kn2, kc2, rfl⟩ := hk2.form
 have H : Wd w ((w14).alloc (.cells #[.int .i64 f2, .int .i64 s2', .string ⟨nm2.toArray⟩, .int .i64 tk2, .int .i64 tl2, .int .i64 n2', .int .i64 m2, .slice ka2 kn2 kc2, .int .i64 a2] 85)) b g cap T (t2) (tO yk yt yn yu ya) #[.int .i64 10, .int .i64 0, .string ⟨(Gram.Rf.name T (Gram.Rf.take T [40] (Gram.Rf.adv s))).1.toArray⟩, .int .i64 0, .int .i64 0, .int .i64 0, .int .i64 0, .slice none 0 0, .int .i64 (ya : Int)] := Wd.alloc H (.cells #[.int .i64 f2, .int .i64 s2', .string ⟨nm2.toArray⟩, .int .i64 tk2, .int .i64 tl2, .int .i64 n2', .int .i64 m2, .slice ka2 kn2 kc2, .int .i64 a2] 85)
 have hab := heap_alloc_new w14 (.cells #[.int .i64 f2, .int .i64 s2', .string ⟨nm2.toArray⟩, .int .i64 tk2, .int .i64 tl2, .int .i64 n2', .int .i64 m2, .slice ka2 kn2 kc2, .int .i64 a2] 85)
 have hk2 := Kids.kept0 hk2 (ga w14 (.cells #[.int .i64 f2, .int .i64 s2', .string ⟨nm2.toArray⟩, .int .i64 tk2, .int .i64 tl2, .int .i64 n2', .int .i64 m2, .slice ka2 kn2 kc2, .int .i64 a2] 85) none)
 have hcc := rtake_any b g cap T (t2) ⟨#[44]⟩ _ H.p
 have hzp5 := Wd.sz H
 rw [show ((⟨#[44]⟩ : ByteArray)).data.toList = [44] from rfl] at hcc
 have HHH := ld H
 clear H
 refine ld ?_
 go_wp2_with (go_at_call 99; refine hcc.mono ?_; rintro e w15 ⟨rfl, hpz, hgz⟩; refine Hid.out ?_)
 clear c0 c1 c2 c3 c4 c5 c6 c7 c8 cf ct
 have H := HHH.out
 clear HHH hcc
 have hsz5 := hgz.size
 have H : Wd w (w15) b g cap T (Gram.Rf.take T [44] (t2)) (tO yk yt yn yu ya) #[.int .i64 10, .int .i64 0, .string ⟨(Gram.Rf.name T (Gram.Rf.take T [40] (Gram.Rf.adv s))).1.toArray⟩, .int .i64 0, .int .i64 0, .int .i64 0, .int .i64 0, .slice none 0 0, .int .i64 (ya : Int)] := H.step hgz hpz
 have hzq5 := Wd.sz H
 have hgk := hgz
 clear hgz hpz
 obtain ⟨c0, c1, c2, c3, c4, c5, c6, c7, c8, cf⟩ := Nc.of H.x'
 have ct := Wd.text H
 have hk2 := Kids.kept hk2 hgk (by omega)
 have hab := (hgk.block w14.heap.size (by rw [World.size_alloc]; omega) (by simp; omega)).trans hab
 obtain ⟨d0, d1, d2, d3, d4, d5, d6, d7, d8, df⟩ := Nc.of hab
 have hS0 : w15.drew.cell? ⟨w14.heap.size, 0, none⟩ = some (.int .i64 f2) ∧ w15.drew.cell? ⟨w14.heap.size, 1, none⟩ = some (.int .i64 s2') ∧ w15.drew.cell? ⟨w14.heap.size, 2, none⟩ = some (.string ⟨nm2.toArray⟩) ∧ w15.drew.cell? ⟨w14.heap.size, 3, none⟩ = some (.int .i64 tk2) ∧ w15.drew.cell? ⟨w14.heap.size, 4, none⟩ = some (.int .i64 tl2) ∧ w15.drew.cell? ⟨w14.heap.size, 5, none⟩ = some (.int .i64 n2') ∧ w15.drew.cell? ⟨w14.heap.size, 6, none⟩ = some (.int .i64 m2) ∧ w15.drew.cell? ⟨w14.heap.size, 7, none⟩ = some (.slice ka2 kn2 kc2) ∧ w15.drew.cell? ⟨w14.heap.size, 8, none⟩ = some (.int .i64 a2) := ⟨d0, d1, d2, d3, d4, d5, d6, d7, d8⟩
 clear d0 d1 d2 d3 d4 d5 d6 d7 d8 df
 have HW : Wd w (w15.drew) b g cap T (Gram.Rf.take T [44] (t2)) (tO yk yt yn yu ya) #[.int .i64 10, .int .i64 0, .string ⟨(Gram.Rf.name T (Gram.Rf.take T [40] (Gram.Rf.adv s))).1.toArray⟩, .int .i64 0, .int .i64 0, .int .i64 0, .int .i64 0, .slice none 0 0, .int .i64 (ya : Int)] := H.step0 (gdrew (World.grownBy.refl _ none))
 have hk2 := Kids.kept0 hk2 (gdrew (World.grownBy.refl w15 none))
 have hab : w15.drew.heap[w14.heap.size]? = some (.cells #[.int .i64 f2, .int .i64 s2', .string ⟨nm2.toArray⟩, .int .i64 tk2, .int .i64 tl2, .int .i64 n2', .int .i64 m2, .slice ka2 kn2 kc2, .int .i64 a2] 85 (0, 0)) := hab
 have hce := hce3 _ HW.p
 have hbig := Wd.sz HW
 have HHW := ld HW
 clear H HW hce3
 refine ld ?_
 go_wp2
 refine wp_region_L (S := fun w' => w'.cell? ⟨w14.heap.size, 0, none⟩ = some (.int .i64 f2) ∧ w'.cell? ⟨w14.heap.size, 1, none⟩ = some (.int .i64 s2') ∧ w'.cell? ⟨w14.heap.size, 2, none⟩ = some (.string ⟨nm2.toArray⟩) ∧ w'.cell? ⟨w14.heap.size, 3, none⟩ = some (.int .i64 tk2) ∧ w'.cell? ⟨w14.heap.size, 4, none⟩ = some (.int .i64 tl2) ∧ w'.cell? ⟨w14.heap.size, 5, none⟩ = some (.int .i64 n2') ∧ w'.cell? ⟨w14.heap.size, 6, none⟩ = some (.int .i64 m2) ∧ w'.cell? ⟨w14.heap.size, 7, none⟩ = some (.slice ka2 kn2 kc2) ∧ w'.cell? ⟨w14.heap.size, 8, none⟩ = some (.int .i64 a2)) (Z := [5]) (by kernel_rfl) ?_
 refine wpL_take (i := 0) (v := .agg #[.int .i64 f2, .int .i64 s2', .string ⟨nm2.toArray⟩, .int .i64 tk2, .int .i64 tl2, .int .i64 n2', .int .i64 m2, .slice ka2 kn2 kc2, .int .i64 a2]) rfl (by kernel_rfl) (by kernel_rfl) (by kernel_rfl) (fun _ _ _ h => h) (by kernel_rfl) (.inl ⟨rfl, fun w' hw' => ?_⟩) hS0 ?_
 ·obtain ⟨q0, q1, q2, q3, q4, q5, q6, q7, q8⟩ := hw'
  go_simp
 refine wpL_take (i := 1) (v := .pointer (some ⟨b, 0, none⟩)) rfl (by kernel_rfl) (by kernel_rfl) (by kernel_rfl) (fun _ _ _ h => h) (by kernel_rfl) (.inl ⟨rfl, fun w' hw' => ?_⟩) hS0 ?_
 ·obtain ⟨q0, q1, q2, q3, q4, q5, q6, q7, q8⟩ := hw'
  go_simp
 refine wpL_one (i := 2) (by kernel_rfl) ?_
 refine wpOp_step rfl (fun K' hK => ?_)
 split
 case isFalse hno => exact absurd rfl hno
 unfold Oper.wp
 go_simp
 refine hce.mono ?_
 rintro e w8 ⟨k3, rfl, hk3, hp8, hg8⟩
 obtain ⟨ka3, kn3, kc3, rfl⟩ := hk3.form
 have hab8 := (hg8.block (w14.heap.size) (Array.getElem?_eq_some_iff.1 hab).1 (by simp; omega)).trans hab
 obtain ⟨z0, z1, z2, z3, z4, z5, z6, z7, z8, zf⟩ := Nc.of hab8
 refine hK _ _ ⟨fun _ => ⟨z0, z1, z2, z3, z4, z5, z6, z7, z8⟩, ?_⟩
 clear hK K'
 refine wpL_one (i := 3) (by kernel_rfl) ?_
 refine wpOp_step rfl (fun K' hK => ?_)
 split
 case isFalse hno => exact absurd rfl hno
 unfold Oper.wp
 go_simp
 have H := (HHW.out.step hg8 hp8).alloc (.cells #[.int .i64 f2, .int .i64 s2', .string ⟨nm2.toArray⟩, .int .i64 tk2, .int .i64 tl2, .int .i64 n2', .int .i64 m2, .slice ka2 kn2 kc2, .int .i64 a2, .int .i64 f3, .int .i64 s3', .string ⟨nm3.toArray⟩, .int .i64 tk3, .int .i64 tl3, .int .i64 n3', .int .i64 m3, .slice ka3 kn3 kc3, .int .i64 a3] 85)
 have hab9 := ((ga w8 (.cells #[.int .i64 f2, .int .i64 s2', .string ⟨nm2.toArray⟩, .int .i64 tk2, .int .i64 tl2, .int .i64 n2', .int .i64 m2, .slice ka2 kn2 kc2, .int .i64 a2, .int .i64 f3, .int .i64 s3', .string ⟨nm3.toArray⟩, .int .i64 tk3, .int .i64 tl3, .int .i64 n3', .int .i64 m3, .slice ka3 kn3 kc3, .int .i64 a3] 85) none).block (w14.heap.size) (Array.getElem?_eq_some_iff.1 hab8).1 (by simp)).trans hab8
 obtain ⟨y0, y1, y2, y3, y4, y5, y6, y7, y8, yf⟩ := Nc.of hab9
 refine hK _ _ ⟨fun _ => ⟨y0, y1, y2, y3, y4, y5, y6, y7, y8⟩, ?_⟩
 clear hK K'
 refine wpL_one (i := 4) (by kernel_rfl) ?_
 refine wpOp_step rfl (fun K' hK => ?_)
 split
 case isFalse hno => exact absurd rfl hno
 unfold Oper.wp
 go_simp
 refine hK _ _ ⟨fun _ => ⟨y0, y1, y2, y3, y4, y5, y6, y7, y8⟩, ?_⟩
 clear hK K' y0 y1 y2 y3 y4 y5 y6 y7 y8 yf z0 z1 z2 z3 z4 z5 z6 z7 z8 zf
 obtain ⟨c0, c1, c2, c3, c4, c5, c6, c7, c8, cf⟩ := Nc.of H.x'
 have hs8 := hg8.size
 have hsA : w15.drew.heap.size = w15.heap.size := rfl
 have hk2 := Kids.kept0 (Kids.kept hk2 hg8 (by omega)) (ga w8 (.cells #[.int .i64 f2, .int .i64 s2', .string ⟨nm2.toArray⟩, .int .i64 tk2, .int .i64 tl2, .int .i64 n2', .int .i64 m2, .slice ka2 kn2 kc2, .int .i64 a2, .int .i64 f3, .int .i64 s3', .string ⟨nm3.toArray⟩, .int .i64 tk3, .int .i64 tl3, .int .i64 n3', .int .i64 m3, .slice ka3 kn3 kc3, .int .i64 a3] 85) none)
 have hk3 := Kids.kept0 hk3 (ga w8 (.cells #[.int .i64 f2, .int .i64 s2', .string ⟨nm2.toArray⟩, .int .i64 tk2, .int .i64 tl2, .int .i64 n2', .int .i64 m2, .slice ka2 kn2 kc2, .int .i64 a2, .int .i64 f3, .int .i64 s3', .string ⟨nm3.toArray⟩, .int .i64 tk3, .int .i64 tl3, .int .i64 n3', .int .i64 m3, .slice ka3 kn3 kc3, .int .i64 a3] 85) none)
 have hKL : Kids (w8.alloc (.cells #[.int .i64 f2, .int .i64 s2', .string ⟨nm2.toArray⟩, .int .i64 tk2, .int .i64 tl2, .int .i64 n2', .int .i64 m2, .slice ka2 kn2 kc2, .int .i64 a2, .int .i64 f3, .int .i64 s3', .string ⟨nm3.toArray⟩, .int .i64 tk3, .int .i64 tl3, .int .i64 n3', .int .i64 m3, .slice ka3 kn3 kc3, .int .i64 a3] 85)) (w.heap.size + 3) [(Gram.Exp.mk f2 s2' nm2 tk2 tl2 n2' m2 ks2 a2), (Gram.Exp.mk f3 s3' nm3 tk3 tl3 n3' m3 ks3 a3)] (.slice (some ⟨w8.heap.size, 0, none⟩) 2 2) := KidsX.two (owns_new (w := w8) (B := w.heap.size + 3) 85 9 2 (expCells (Gram.Exp.mk f2 s2' nm2 tk2 tl2 n2' m2 ks2 a2) (.slice ka2 kn2 kc2) ++ expCells (Gram.Exp.mk f3 s3' nm3 tk3 tl3 n3' m3 ks3 a3) (.slice ka3 kn3 kc3)) (by omega) rfl (by unfold maxLen; omega)) (fun k e => by cases e) (RepC.mono (by omega) hk2) (RepC.mono (by omega) hk3)
 have hKL := Kids.setX (w := w) (by omega) 7 (.slice (some ⟨w8.heap.size, 0, none⟩) 2 2) hKL
 refine wpL_one (i := 5) (by kernel_rfl) ?_
 refine wpOp_step rfl (fun K' hK => ?_)
 split
 case isFalse hno => exact absurd rfl hno
 unfold Oper.wp
 go_simp
 refine hK _ _ ⟨fun hno => absurd (by simp) hno, ?_⟩
 clear hK K'
 refine wpL_done (by kernel_rfl) ?_ _
 have H : Wd w ((w8.alloc (.cells #[.int .i64 f2, .int .i64 s2', .string ⟨nm2.toArray⟩, .int .i64 tk2, .int .i64 tl2, .int .i64 n2', .int .i64 m2, .slice ka2 kn2 kc2, .int .i64 a2, .int .i64 f3, .int .i64 s3', .string ⟨nm3.toArray⟩, .int .i64 tk3, .int .i64 tl3, .int .i64 n3', .int .i64 m3, .slice ka3 kn3 kc3, .int .i64 a3] 85)).setCell ⟨w.heap.size + 1 + 1, 7, none⟩ (.slice (some ⟨w8.heap.size, 0, none⟩) 2 2)) b g cap T (t3) (tO yk yt yn yu ya) #[.int .i64 10, .int .i64 0, .string ⟨(Gram.Rf.name T (Gram.Rf.take T [40] (Gram.Rf.adv s))).1.toArray⟩, .int .i64 0, .int .i64 0, .int .i64 0, .int .i64 0, .slice (some ⟨w8.heap.size, 0, none⟩) 2 2, .int .i64 (ya : Int)] := Wd.set h H 7 (.slice (some ⟨w8.heap.size, 0, none⟩) 2 2)
 have ct := Wd.text H
 refine Hid.out ?_
 have hcc := rtake_any b g cap T (t3) ⟨#[41]⟩ _ H.p
 have hzp6 := Wd.sz H
 rw [show ((⟨#[41]⟩ : ByteArray)).data.toList = [41] from rfl] at hcc
 have HHH := ld H
 clear H
 refine ld ?_
 go_wp2_with (go_at_call 99; refine hcc.mono ?_; rintro e w16 ⟨rfl, hpz, hgz⟩; refine Hid.out ?_)
 clear c0 c1 c2 c3 c4 c5 c6 c7 c8 cf ct
 have H := HHH.out
 clear HHH hcc
 have hsz6 := hgz.size
 have H : Wd w (w16) b g cap T (Gram.Rf.take T [41] (t3)) (tO yk yt yn yu ya) #[.int .i64 10, .int .i64 0, .string ⟨(Gram.Rf.name T (Gram.Rf.take T [40] (Gram.Rf.adv s))).1.toArray⟩, .int .i64 0, .int .i64 0, .int .i64 0, .int .i64 0, .slice (some ⟨w8.heap.size, 0, none⟩) 2 2, .int .i64 (ya : Int)] := H.step hgz hpz
 have hzq6 := Wd.sz H
 have hgk := hgz
 clear hgz hpz
 obtain ⟨c0, c1, c2, c3, c4, c5, c6, c7, c8, cf⟩ := Nc.of H.x'
 have ct := Wd.text H
 have hKL := Kids.kept hKL hgk (by omega)
 have HF := ld H
 have hr1 := H.r
 have hgx := H.g'
 clear H
 refine ld ?_
 go_wp2_with (with_reducible refine hold_st 4 ?_)
 refine wpList_store_gen rfl _ _ _ rfl (w.heap.size + 1) #[.int .i64 10, .int .i64 0, .string ⟨(Gram.Rf.name T (Gram.Rf.take T [40] (Gram.Rf.adv s))).1.toArray⟩, .int .i64 0, .int .i64 0, .int .i64 0, .int .i64 0, .slice (some ⟨w8.heap.size, 0, none⟩) 2 2, .int .i64 (ya : Int)] rfl rfl 85 _ hr1 (by kernel_rfl) rfl (by simp [Value.oneCell']) ?_
 intro w9 hh9 hg9
 go_wp2
 (try simp only [Exit.inBlock, Exit.then])
 refine br hh9 Tryz.underlying85 ?_
 have hG : w.grownBy w9 (some b) := hgx.andThen hg9 (fun j e => .inl (by cases e; omega))
 exact ⟨_, rfl, RepC.mono (by omega) (RepC.kept hg9 (fun k e => by cases e; omega) hKL), HH.out.to hG (HF.out.p.st.kept hg9 (by simp; omega)) HF.out.p.lt, hG⟩
theorem rword_fold (f : Nat) (hC : ∀ f', f' ≤ f → CRex b g cap T 166 (Gram.Rf.exp T f')) (s : Gram.Rf.St) (w : World) (h : Rp w b g cap T s) (yk yn yu : Int) (yt : List UInt8) (ya : Nat) (hw : yt = [102, 111, 108, 100]) (hi : s.i + 1 < T.length) (hf : (Gram.Rf.wordE T (f + 1) ⟨yk, yt, yn, yu, ya⟩ s).isSome = true) :
  Calls Tryz.prog 185 #[.pointer (some ⟨b, 0, none⟩), .agg #[.int .i64 yk, .string ⟨yt.toArray⟩, .int .i64 yn, .int .i64 yu, .int .i64 0, .int .i64 (ya : Int)]] w fun e w' => rePost w b g cap T (Gram.Rf.wordE T (f + 1) ⟨yk, yt, yn, yu, ya⟩ s) e w' := by
 have hbw := h.bl
 have hm := h.toks.most
 have HH := ld h
 have p1 := h.st.c1
 have fr1 := h.st.fr 1
 have nb0 : ¬ b = w.heap.size := by omega
 have nb1 : ¬ b = w.heap.size + 1 := by omega
 have nb2 : ¬ b = w.heap.size + 1 + 1 := by omega
 have nb3 : ¬ b = w.heap.size + 1 + 1 := by omega
 rw [Gram.Rf.wordE] at hf ⊢
 simp only at hf ⊢
 rw [if_neg (show ¬ yt = [116, 114, 117, 101] by rw [hw]; decide)] at hf ⊢
 rw [if_neg (show ¬ yt = [102, 97, 108, 115, 101] by rw [hw]; decide)] at hf ⊢
 rw [if_neg (show ¬ yt = [105, 102] by rw [hw]; decide)] at hf ⊢
 rw [if_neg (show ¬ yt = [119, 104, 101, 110] by rw [hw]; decide)] at hf ⊢
 rw [if_neg (show ¬ yt = [109, 101, 114, 103, 101] by rw [hw]; decide)] at hf ⊢
 rw [if_neg (show ¬ yt = [99, 97, 115, 116] by rw [hw]; decide)] at hf ⊢
 rw [if_neg (show ¬ yt = [116, 105, 99, 107] by rw [hw]; decide)] at hf ⊢
 rw [if_neg (show ¬ yt = [114, 101, 115, 101, 116] by rw [hw]; decide)] at hf ⊢
 rw [if_neg (show ¬ yt = [114, 101, 112] by rw [hw]; decide)] at hf ⊢
 rw [if_neg (show ¬ yt = [109, 97, 112] by rw [hw]; decide)] at hf ⊢
 rw [if_pos (show yt = [102, 111, 108, 100] from hw)] at hf ⊢
 have e_true : (yt == [116, 114, 117, 101]) = false := by rw [hw]; rfl
 have e_false : (yt == [102, 97, 108, 115, 101]) = false := by rw [hw]; rfl
 have e_if : (yt == [105, 102]) = false := by rw [hw]; rfl
 have e_when : (yt == [119, 104, 101, 110]) = false := by rw [hw]; rfl
 have e_merge : (yt == [109, 101, 114, 103, 101]) = false := by rw [hw]; rfl
 have e_cast : (yt == [99, 97, 115, 116]) = false := by rw [hw]; rfl
 have e_tick : (yt == [116, 105, 99, 107]) = false := by rw [hw]; rfl
 have e_reset : (yt == [114, 101, 115, 101, 116]) = false := by rw [hw]; rfl
 have e_rep : (yt == [114, 101, 112]) = false := by rw [hw]; rfl
 have e_map : (yt == [109, 97, 112]) = false := by rw [hw]; rfl
 have e_fold : (yt == [102, 111, 108, 100]) = true := by rw [hw]; rfl
 cases hr2 : Gram.Rf.exp T f (Gram.Rf.take T [44] ((Gram.Rf.name T (Gram.Rf.take T [40] (Gram.Rf.adv s))).2)) with
 | none => rw [hr2] at hf; cases hf
 | some r2 =>
 obtain ⟨x2, t2⟩ := r2
 rw [hr2] at hf
 simp only [Gram.Rf.bindS] at hf ⊢
 cases x2 with
 | mk f2 s2' nm2 tk2 tl2 n2' m2 ks2 a2 =>
 have hce2 : ∀ wx, Rp wx b g cap T (Gram.Rf.take T [44] ((Gram.Rf.name T (Gram.Rf.take T [40] (Gram.Rf.adv s))).2)) → Calls Tryz.prog 166 #[.pointer (some ⟨b, 0, none⟩)] wx fun e w' => rePost wx b g cap T (some ((Gram.Exp.mk f2 s2' nm2 tk2 tl2 n2' m2 ks2 a2), t2)) e w' := fun wx hx => by
  have := hC f (Nat.le_refl _) (Gram.Rf.take T [44] ((Gram.Rf.name T (Gram.Rf.take T [40] (Gram.Rf.adv s))).2)) wx hx
  rw [hr2] at this
  exact this rfl
 simp only [rePost, expV] at hce2
 clear hr2
 cases hr3 : Gram.Rf.exp T f (Gram.Rf.take T [44] (t2)) with
 | none => rw [hr3] at hf; cases hf
 | some r3 =>
 obtain ⟨x3, t3⟩ := r3
 rw [hr3] at hf
 simp only [Gram.Rf.bindS] at hf ⊢
 cases x3 with
 | mk f3 s3' nm3 tk3 tl3 n3' m3 ks3 a3 =>
 have hce3 : ∀ wx, Rp wx b g cap T (Gram.Rf.take T [44] (t2)) → Calls Tryz.prog 166 #[.pointer (some ⟨b, 0, none⟩)] wx fun e w' => rePost wx b g cap T (some ((Gram.Exp.mk f3 s3' nm3 tk3 tl3 n3' m3 ks3 a3), t3)) e w' := fun wx hx => by
  have := hC f (Nat.le_refl _) (Gram.Rf.take T [44] (t2)) wx hx
  rw [hr3] at this
  exact this rfl
 simp only [rePost, expV] at hce3
 clear hr3
 clear hf
 clear hw
 have H : Wd w ((((w.alloc (tO yk yt yn yu ya)).alloc exp0).alloc (.cells #[.int .i64 0, .int .i64 0, .string ⟨#[]⟩, .int .i64 0, .int .i64 0, .int .i64 0, .int .i64 0, .slice none 0 0, .int .i64 (ya : Int)] 85))) b g cap T (s) (tO yk yt yn yu ya) #[.int .i64 0, .int .i64 0, .string ⟨#[]⟩, .int .i64 0, .int .i64 0, .int .i64 0, .int .i64 0, .slice none 0 0, .int .i64 (ya : Int)] := ⟨((h.alloc _).alloc _).alloc _, galloc (galloc (galloc (World.grownBy.refl w (some b)) _) _) _, heap3_0 w _ _ _, heap3_1 w _ _ _, heap3_2 w _ _ _, hbw⟩
 have q1 := H.p.st.c1
 have qf := H.p.st.fr 1
 unfold exp0 at q1 qf
 have H : Wd w (((((w.alloc (tO yk yt yn yu ya)).alloc exp0).alloc (.cells #[.int .i64 0, .int .i64 0, .string ⟨#[]⟩, .int .i64 0, .int .i64 0, .int .i64 0, .int .i64 0, .slice none 0 0, .int .i64 (ya : Int)] 85))).setCell ⟨b, 1, none⟩ (.int .i64 ((s.i : Int) + 1))) b g cap T (Gram.Rf.adv s) (tO yk yt yn yu ya) #[.int .i64 0, .int .i64 0, .string ⟨#[]⟩, .int .i64 0, .int .i64 0, .int .i64 0, .int .i64 0, .slice none 0 0, .int .i64 (ya : Int)] := H.adv hi
 go_enter Tryz.func185, Tryz.ntmps185
 refine Hid.out ?_
 have hcc := rtake_any b g cap T (Gram.Rf.adv s) ⟨#[40]⟩ _ H.p
 have hzp1 := Wd.sz H
 rw [show ((⟨#[40]⟩ : ByteArray)).data.toList = [40] from rfl] at hcc
 have HHH := ld H
 clear H
 refine ld ?_
 go_wp2_with (go_at_call 99; refine hcc.mono ?_; rintro e w11 ⟨rfl, hpz, hgz⟩; refine Hid.out ?_)
 have H := HHH.out
 clear HHH hcc
 have hsz1 := hgz.size
 have H : Wd w (w11) b g cap T (Gram.Rf.take T [40] (Gram.Rf.adv s)) (tO yk yt yn yu ya) #[.int .i64 0, .int .i64 0, .string ⟨#[]⟩, .int .i64 0, .int .i64 0, .int .i64 0, .int .i64 0, .slice none 0 0, .int .i64 (ya : Int)] := H.step hgz hpz
 have hzq1 := Wd.sz H
 have hgk := hgz
 clear hgz hpz
 obtain ⟨c0, c1, c2, c3, c4, c5, c6, c7, c8, cf⟩ := Nc.of H.x'
 have ct := Wd.text H
 have H : Wd w ((w11).setCell ⟨w.heap.size + 1 + 1, 0, none⟩ (.int .i64 19)) b g cap T (Gram.Rf.take T [40] (Gram.Rf.adv s)) (tO yk yt yn yu ya) #[.int .i64 19, .int .i64 0, .string ⟨#[]⟩, .int .i64 0, .int .i64 0, .int .i64 0, .int .i64 0, .slice none 0 0, .int .i64 (ya : Int)] := Wd.set h H 0 (.int .i64 19)
 have hcc := rname_any b g cap T (Gram.Rf.take T [40] (Gram.Rf.adv s)) _ H.p
 have hzp2 := Wd.sz H
 have HHH := ld H
 clear H
 refine ld ?_
 go_wp2_with (go_at_call 100; refine hcc.mono ?_; rintro e w12 ⟨rfl, hpz, hgz⟩; refine Hid.out ?_)
 clear c0 c1 c2 c3 c4 c5 c6 c7 c8 cf ct
 have H := HHH.out
 clear HHH hcc
 have hsz2 := hgz.size
 have H : Wd w (w12) b g cap T ((Gram.Rf.name T (Gram.Rf.take T [40] (Gram.Rf.adv s))).2) (tO yk yt yn yu ya) #[.int .i64 19, .int .i64 0, .string ⟨#[]⟩, .int .i64 0, .int .i64 0, .int .i64 0, .int .i64 0, .slice none 0 0, .int .i64 (ya : Int)] := H.step hgz hpz
 have hzq2 := Wd.sz H
 have hgk := hgz
 clear hgz hpz
 obtain ⟨c0, c1, c2, c3, c4, c5, c6, c7, c8, cf⟩ := Nc.of H.x'
 have ct := Wd.text H
 have H : Wd w ((w12).setCell ⟨w.heap.size + 1 + 1, 2, none⟩ (.string ⟨(Gram.Rf.name T (Gram.Rf.take T [40] (Gram.Rf.adv s))).1.toArray⟩)) b g cap T ((Gram.Rf.name T (Gram.Rf.take T [40] (Gram.Rf.adv s))).2) (tO yk yt yn yu ya) #[.int .i64 19, .int .i64 0, .string ⟨(Gram.Rf.name T (Gram.Rf.take T [40] (Gram.Rf.adv s))).1.toArray⟩, .int .i64 0, .int .i64 0, .int .i64 0, .int .i64 0, .slice none 0 0, .int .i64 (ya : Int)] := Wd.set h H 2 (.string ⟨(Gram.Rf.name T (Gram.Rf.take T [40] (Gram.Rf.adv s))).1.toArray⟩)
 have hcc := rtake_any b g cap T ((Gram.Rf.name T (Gram.Rf.take T [40] (Gram.Rf.adv s))).2) ⟨#[44]⟩ _ H.p
 have hzp3 := Wd.sz H
 rw [show ((⟨#[44]⟩ : ByteArray)).data.toList = [44] from rfl] at hcc
 have HHH := ld H
 clear H
 refine ld ?_
 go_wp2_with (go_at_call 99; refine hcc.mono ?_; rintro e w13 ⟨rfl, hpz, hgz⟩; refine Hid.out ?_)
 clear c0 c1 c2 c3 c4 c5 c6 c7 c8 cf ct
 have H := HHH.out
 clear HHH hcc
 have hsz3 := hgz.size
 have H : Wd w (w13) b g cap T (Gram.Rf.take T [44] ((Gram.Rf.name T (Gram.Rf.take T [40] (Gram.Rf.adv s))).2)) (tO yk yt yn yu ya) #[.int .i64 19, .int .i64 0, .string ⟨(Gram.Rf.name T (Gram.Rf.take T [40] (Gram.Rf.adv s))).1.toArray⟩, .int .i64 0, .int .i64 0, .int .i64 0, .int .i64 0, .slice none 0 0, .int .i64 (ya : Int)] := H.step hgz hpz
 have hzq3 := Wd.sz H
 have hgk := hgz
 clear hgz hpz
 obtain ⟨c0, c1, c2, c3, c4, c5, c6, c7, c8, cf⟩ := Nc.of H.x'
 have ct := Wd.text H
 have hcc := hce2 _ H.p
 have hzp4 := Wd.sz H
 have HHH := ld H
 clear H
 refine ld ?_
 go_wp2_with (go_at_call 166; refine hcc.mono ?_; rintro e w14 ⟨k2, rfl, hk2, hpz, hgz⟩; refine Hid.out ?_)
 clear c0 c1 c2 c3 c4 c5 c6 c7 c8 cf ct
 have H := HHH.out
 clear HHH hcc
 have hsz4 := hgz.size
 have H : Wd w (w14) b g cap T (t2) (tO yk yt yn yu ya) #[.int .i64 19, .int .i64 0, .string ⟨(Gram.Rf.name T (Gram.Rf.take T [40] (Gram.Rf.adv s))).1.toArray⟩, .int .i64 0, .int .i64 0, .int .i64 0, .int .i64 0, .slice none 0 0, .int .i64 (ya : Int)] := H.step hgz hpz
 have hzq4 := Wd.sz H
 have hgk := hgz
 clear hgz hpz
 obtain ⟨c0, c1, c2, c3, c4, c5, c6, c7, c8, cf⟩ := Nc.of H.x'
 have ct := Wd.text H
 obtain ⟨ka2, kn2, kc2, rfl⟩ := hk2.form
 have H : Wd w ((w14).alloc (.cells #[.int .i64 f2, .int .i64 s2', .string ⟨nm2.toArray⟩, .int .i64 tk2, .int .i64 tl2, .int .i64 n2', .int .i64 m2, .slice ka2 kn2 kc2, .int .i64 a2] 85)) b g cap T (t2) (tO yk yt yn yu ya) #[.int .i64 19, .int .i64 0, .string ⟨(Gram.Rf.name T (Gram.Rf.take T [40] (Gram.Rf.adv s))).1.toArray⟩, .int .i64 0, .int .i64 0, .int .i64 0, .int .i64 0, .slice none 0 0, .int .i64 (ya : Int)] := Wd.alloc H (.cells #[.int .i64 f2, .int .i64 s2', .string ⟨nm2.toArray⟩, .int .i64 tk2, .int .i64 tl2, .int .i64 n2', .int .i64 m2, .slice ka2 kn2 kc2, .int .i64 a2] 85)
 have hab := heap_alloc_new w14 (.cells #[.int .i64 f2, .int .i64 s2', .string ⟨nm2.toArray⟩, .int .i64 tk2, .int .i64 tl2, .int .i64 n2', .int .i64 m2, .slice ka2 kn2 kc2, .int .i64 a2] 85)
 have hk2 := Kids.kept0 hk2 (ga w14 (.cells #[.int .i64 f2, .int .i64 s2', .string ⟨nm2.toArray⟩, .int .i64 tk2, .int .i64 tl2, .int .i64 n2', .int .i64 m2, .slice ka2 kn2 kc2, .int .i64 a2] 85) none)
 have hcc := rtake_any b g cap T (t2) ⟨#[44]⟩ _ H.p
 have hzp5 := Wd.sz H
 rw [show ((⟨#[44]⟩ : ByteArray)).data.toList = [44] from rfl] at hcc
 have HHH := ld H
 clear H
 refine ld ?_
 go_wp2_with (go_at_call 99; refine hcc.mono ?_; rintro e w15 ⟨rfl, hpz, hgz⟩; refine Hid.out ?_)
 clear c0 c1 c2 c3 c4 c5 c6 c7 c8 cf ct
 have H := HHH.out
 clear HHH hcc
 have hsz5 := hgz.size
 have H : Wd w (w15) b g cap T (Gram.Rf.take T [44] (t2)) (tO yk yt yn yu ya) #[.int .i64 19, .int .i64 0, .string ⟨(Gram.Rf.name T (Gram.Rf.take T [40] (Gram.Rf.adv s))).1.toArray⟩, .int .i64 0, .int .i64 0, .int .i64 0, .int .i64 0, .slice none 0 0, .int .i64 (ya : Int)] := H.step hgz hpz
 have hzq5 := Wd.sz H
 have hgk := hgz
 clear hgz hpz
 obtain ⟨c0, c1, c2, c3, c4, c5, c6, c7, c8, cf⟩ := Nc.of H.x'
 have ct := Wd.text H
 have hk2 := Kids.kept hk2 hgk (by omega)
 have hab := (hgk.block w14.heap.size (by rw [World.size_alloc]; omega) (by simp; omega)).trans hab
 obtain ⟨d0, d1, d2, d3, d4, d5, d6, d7, d8, df⟩ := Nc.of hab
 have hS0 : w15.drew.cell? ⟨w14.heap.size, 0, none⟩ = some (.int .i64 f2) ∧ w15.drew.cell? ⟨w14.heap.size, 1, none⟩ = some (.int .i64 s2') ∧ w15.drew.cell? ⟨w14.heap.size, 2, none⟩ = some (.string ⟨nm2.toArray⟩) ∧ w15.drew.cell? ⟨w14.heap.size, 3, none⟩ = some (.int .i64 tk2) ∧ w15.drew.cell? ⟨w14.heap.size, 4, none⟩ = some (.int .i64 tl2) ∧ w15.drew.cell? ⟨w14.heap.size, 5, none⟩ = some (.int .i64 n2') ∧ w15.drew.cell? ⟨w14.heap.size, 6, none⟩ = some (.int .i64 m2) ∧ w15.drew.cell? ⟨w14.heap.size, 7, none⟩ = some (.slice ka2 kn2 kc2) ∧ w15.drew.cell? ⟨w14.heap.size, 8, none⟩ = some (.int .i64 a2) := ⟨d0, d1, d2, d3, d4, d5, d6, d7, d8⟩
 clear d0 d1 d2 d3 d4 d5 d6 d7 d8 df
 have HW : Wd w (w15.drew) b g cap T (Gram.Rf.take T [44] (t2)) (tO yk yt yn yu ya) #[.int .i64 19, .int .i64 0, .string ⟨(Gram.Rf.name T (Gram.Rf.take T [40] (Gram.Rf.adv s))).1.toArray⟩, .int .i64 0, .int .i64 0, .int .i64 0, .int .i64 0, .slice none 0 0, .int .i64 (ya : Int)] := H.step0 (gdrew (World.grownBy.refl _ none))
 have hk2 := Kids.kept0 hk2 (gdrew (World.grownBy.refl w15 none))
 have hab : w15.drew.heap[w14.heap.size]? = some (.cells #[.int .i64 f2, .int .i64 s2', .string ⟨nm2.toArray⟩, .int .i64 tk2, .int .i64 tl2, .int .i64 n2', .int .i64 m2, .slice ka2 kn2 kc2, .int .i64 a2] 85 (0, 0)) := hab
 have hce := hce3 _ HW.p
 have hbig := Wd.sz HW
 have HHW := ld HW
 clear H HW hce3
 refine ld ?_
 go_wp2
 refine wp_region_L (S := fun w' => w'.cell? ⟨w14.heap.size, 0, none⟩ = some (.int .i64 f2) ∧ w'.cell? ⟨w14.heap.size, 1, none⟩ = some (.int .i64 s2') ∧ w'.cell? ⟨w14.heap.size, 2, none⟩ = some (.string ⟨nm2.toArray⟩) ∧ w'.cell? ⟨w14.heap.size, 3, none⟩ = some (.int .i64 tk2) ∧ w'.cell? ⟨w14.heap.size, 4, none⟩ = some (.int .i64 tl2) ∧ w'.cell? ⟨w14.heap.size, 5, none⟩ = some (.int .i64 n2') ∧ w'.cell? ⟨w14.heap.size, 6, none⟩ = some (.int .i64 m2) ∧ w'.cell? ⟨w14.heap.size, 7, none⟩ = some (.slice ka2 kn2 kc2) ∧ w'.cell? ⟨w14.heap.size, 8, none⟩ = some (.int .i64 a2)) (Z := [5]) (by kernel_rfl) ?_
 refine wpL_take (i := 0) (v := .agg #[.int .i64 f2, .int .i64 s2', .string ⟨nm2.toArray⟩, .int .i64 tk2, .int .i64 tl2, .int .i64 n2', .int .i64 m2, .slice ka2 kn2 kc2, .int .i64 a2]) rfl (by kernel_rfl) (by kernel_rfl) (by kernel_rfl) (fun _ _ _ h => h) (by kernel_rfl) (.inl ⟨rfl, fun w' hw' => ?_⟩) hS0 ?_
 ·obtain ⟨q0, q1, q2, q3, q4, q5, q6, q7, q8⟩ := hw'
  go_simp
 refine wpL_take (i := 1) (v := .pointer (some ⟨b, 0, none⟩)) rfl (by kernel_rfl) (by kernel_rfl) (by kernel_rfl) (fun _ _ _ h => h) (by kernel_rfl) (.inl ⟨rfl, fun w' hw' => ?_⟩) hS0 ?_
 ·obtain ⟨q0, q1, q2, q3, q4, q5, q6, q7, q8⟩ := hw'
  go_simp
 refine wpL_one (i := 2) (by kernel_rfl) ?_
 refine wpOp_step rfl (fun K' hK => ?_)
 split
 case isFalse hno => exact absurd rfl hno
 unfold Oper.wp
 go_simp
 refine hce.mono ?_
 rintro e w8 ⟨k3, rfl, hk3, hp8, hg8⟩
 obtain ⟨ka3, kn3, kc3, rfl⟩ := hk3.form
 have hab8 := (hg8.block (w14.heap.size) (Array.getElem?_eq_some_iff.1 hab).1 (by simp; omega)).trans hab
 obtain ⟨z0, z1, z2, z3, z4, z5, z6, z7, z8, zf⟩ := Nc.of hab8
 refine hK _ _ ⟨fun _ => ⟨z0, z1, z2, z3, z4, z5, z6, z7, z8⟩, ?_⟩
 clear hK K'
 refine wpL_one (i := 3) (by kernel_rfl) ?_
 refine wpOp_step rfl (fun K' hK => ?_)
 split
 case isFalse hno => exact absurd rfl hno
 unfold Oper.wp
 go_simp
 have H := (HHW.out.step hg8 hp8).alloc (.cells #[.int .i64 f2, .int .i64 s2', .string ⟨nm2.toArray⟩, .int .i64 tk2, .int .i64 tl2, .int .i64 n2', .int .i64 m2, .slice ka2 kn2 kc2, .int .i64 a2, .int .i64 f3, .int .i64 s3', .string ⟨nm3.toArray⟩, .int .i64 tk3, .int .i64 tl3, .int .i64 n3', .int .i64 m3, .slice ka3 kn3 kc3, .int .i64 a3] 85)
 have hab9 := ((ga w8 (.cells #[.int .i64 f2, .int .i64 s2', .string ⟨nm2.toArray⟩, .int .i64 tk2, .int .i64 tl2, .int .i64 n2', .int .i64 m2, .slice ka2 kn2 kc2, .int .i64 a2, .int .i64 f3, .int .i64 s3', .string ⟨nm3.toArray⟩, .int .i64 tk3, .int .i64 tl3, .int .i64 n3', .int .i64 m3, .slice ka3 kn3 kc3, .int .i64 a3] 85) none).block (w14.heap.size) (Array.getElem?_eq_some_iff.1 hab8).1 (by simp)).trans hab8
 obtain ⟨y0, y1, y2, y3, y4, y5, y6, y7, y8, yf⟩ := Nc.of hab9
 refine hK _ _ ⟨fun _ => ⟨y0, y1, y2, y3, y4, y5, y6, y7, y8⟩, ?_⟩
 clear hK K'
 refine wpL_one (i := 4) (by kernel_rfl) ?_
 refine wpOp_step rfl (fun K' hK => ?_)
 split
 case isFalse hno => exact absurd rfl hno
 unfold Oper.wp
 go_simp
 refine hK _ _ ⟨fun _ => ⟨y0, y1, y2, y3, y4, y5, y6, y7, y8⟩, ?_⟩
 clear hK K' y0 y1 y2 y3 y4 y5 y6 y7 y8 yf z0 z1 z2 z3 z4 z5 z6 z7 z8 zf
 obtain ⟨c0, c1, c2, c3, c4, c5, c6, c7, c8, cf⟩ := Nc.of H.x'
 have hs8 := hg8.size
 have hsA : w15.drew.heap.size = w15.heap.size := rfl
 have hk2 := Kids.kept0 (Kids.kept hk2 hg8 (by omega)) (ga w8 (.cells #[.int .i64 f2, .int .i64 s2', .string ⟨nm2.toArray⟩, .int .i64 tk2, .int .i64 tl2, .int .i64 n2', .int .i64 m2, .slice ka2 kn2 kc2, .int .i64 a2, .int .i64 f3, .int .i64 s3', .string ⟨nm3.toArray⟩, .int .i64 tk3, .int .i64 tl3, .int .i64 n3', .int .i64 m3, .slice ka3 kn3 kc3, .int .i64 a3] 85) none)
 have hk3 := Kids.kept0 hk3 (ga w8 (.cells #[.int .i64 f2, .int .i64 s2', .string ⟨nm2.toArray⟩, .int .i64 tk2, .int .i64 tl2, .int .i64 n2', .int .i64 m2, .slice ka2 kn2 kc2, .int .i64 a2, .int .i64 f3, .int .i64 s3', .string ⟨nm3.toArray⟩, .int .i64 tk3, .int .i64 tl3, .int .i64 n3', .int .i64 m3, .slice ka3 kn3 kc3, .int .i64 a3] 85) none)
 have hKL : Kids (w8.alloc (.cells #[.int .i64 f2, .int .i64 s2', .string ⟨nm2.toArray⟩, .int .i64 tk2, .int .i64 tl2, .int .i64 n2', .int .i64 m2, .slice ka2 kn2 kc2, .int .i64 a2, .int .i64 f3, .int .i64 s3', .string ⟨nm3.toArray⟩, .int .i64 tk3, .int .i64 tl3, .int .i64 n3', .int .i64 m3, .slice ka3 kn3 kc3, .int .i64 a3] 85)) (w.heap.size + 3) [(Gram.Exp.mk f2 s2' nm2 tk2 tl2 n2' m2 ks2 a2), (Gram.Exp.mk f3 s3' nm3 tk3 tl3 n3' m3 ks3 a3)] (.slice (some ⟨w8.heap.size, 0, none⟩) 2 2) := KidsX.two (owns_new (w := w8) (B := w.heap.size + 3) 85 9 2 (expCells (Gram.Exp.mk f2 s2' nm2 tk2 tl2 n2' m2 ks2 a2) (.slice ka2 kn2 kc2) ++ expCells (Gram.Exp.mk f3 s3' nm3 tk3 tl3 n3' m3 ks3 a3) (.slice ka3 kn3 kc3)) (by omega) rfl (by unfold maxLen; omega)) (fun k e => by cases e) (RepC.mono (by omega) hk2) (RepC.mono (by omega) hk3)
 have hKL := Kids.setX (w := w) (by omega) 7 (.slice (some ⟨w8.heap.size, 0, none⟩) 2 2) hKL
 refine wpL_one (i := 5) (by kernel_rfl) ?_
 refine wpOp_step rfl (fun K' hK => ?_)
 split
 case isFalse hno => exact absurd rfl hno
 unfold Oper.wp
 go_simp
 refine hK _ _ ⟨fun hno => absurd (by simp) hno, ?_⟩
 clear hK K'
 refine wpL_done (by kernel_rfl) ?_ _
 have H : Wd w ((w8.alloc (.cells #[.int .i64 f2, .int .i64 s2', .string ⟨nm2.toArray⟩, .int .i64 tk2, .int .i64 tl2, .int .i64 n2', .int .i64 m2, .slice ka2 kn2 kc2, .int .i64 a2, .int .i64 f3, .int .i64 s3', .string ⟨nm3.toArray⟩, .int .i64 tk3, .int .i64 tl3, .int .i64 n3', .int .i64 m3, .slice ka3 kn3 kc3, .int .i64 a3] 85)).setCell ⟨w.heap.size + 1 + 1, 7, none⟩ (.slice (some ⟨w8.heap.size, 0, none⟩) 2 2)) b g cap T (t3) (tO yk yt yn yu ya) #[.int .i64 19, .int .i64 0, .string ⟨(Gram.Rf.name T (Gram.Rf.take T [40] (Gram.Rf.adv s))).1.toArray⟩, .int .i64 0, .int .i64 0, .int .i64 0, .int .i64 0, .slice (some ⟨w8.heap.size, 0, none⟩) 2 2, .int .i64 (ya : Int)] := Wd.set h H 7 (.slice (some ⟨w8.heap.size, 0, none⟩) 2 2)
 have ct := Wd.text H
 refine Hid.out ?_
 have hcc := rtake_any b g cap T (t3) ⟨#[41]⟩ _ H.p
 have hzp6 := Wd.sz H
 rw [show ((⟨#[41]⟩ : ByteArray)).data.toList = [41] from rfl] at hcc
 have HHH := ld H
 clear H
 refine ld ?_
 go_wp2_with (go_at_call 99; refine hcc.mono ?_; rintro e w16 ⟨rfl, hpz, hgz⟩; refine Hid.out ?_)
 clear c0 c1 c2 c3 c4 c5 c6 c7 c8 cf ct
 have H := HHH.out
 clear HHH hcc
 have hsz6 := hgz.size
 have H : Wd w (w16) b g cap T (Gram.Rf.take T [41] (t3)) (tO yk yt yn yu ya) #[.int .i64 19, .int .i64 0, .string ⟨(Gram.Rf.name T (Gram.Rf.take T [40] (Gram.Rf.adv s))).1.toArray⟩, .int .i64 0, .int .i64 0, .int .i64 0, .int .i64 0, .slice (some ⟨w8.heap.size, 0, none⟩) 2 2, .int .i64 (ya : Int)] := H.step hgz hpz
 have hzq6 := Wd.sz H
 have hgk := hgz
 clear hgz hpz
 obtain ⟨c0, c1, c2, c3, c4, c5, c6, c7, c8, cf⟩ := Nc.of H.x'
 have ct := Wd.text H
 have hKL := Kids.kept hKL hgk (by omega)
 have HF := ld H
 have hr1 := H.r
 have hgx := H.g'
 clear H
 refine ld ?_
 go_wp2_with (with_reducible refine hold_st 4 ?_)
 refine wpList_store_gen rfl _ _ _ rfl (w.heap.size + 1) #[.int .i64 19, .int .i64 0, .string ⟨(Gram.Rf.name T (Gram.Rf.take T [40] (Gram.Rf.adv s))).1.toArray⟩, .int .i64 0, .int .i64 0, .int .i64 0, .int .i64 0, .slice (some ⟨w8.heap.size, 0, none⟩) 2 2, .int .i64 (ya : Int)] rfl rfl 85 _ hr1 (by kernel_rfl) rfl (by simp [Value.oneCell']) ?_
 intro w9 hh9 hg9
 go_wp2
 (try simp only [Exit.inBlock, Exit.then])
 refine br hh9 Tryz.underlying85 ?_
 have hG : w.grownBy w9 (some b) := hgx.andThen hg9 (fun j e => .inl (by cases e; omega))
 exact ⟨_, rfl, RepC.mono (by omega) (RepC.kept hg9 (fun k e => by cases e; omega) hKL), HH.out.to hG (HF.out.p.st.kept hg9 (by simp; omega)) HF.out.p.lt, hG⟩
end
section
variable (b g cap : Nat) (T : List Lex.Tk)
theorem rword_reset (f : Nat) (hC : ∀ f', f' ≤ f → CRex b g cap T 166 (Gram.Rf.exp T f')) (s : Gram.Rf.St) (w : World) (h : Rp w b g cap T s) (yk yn yu : Int) (yt : List UInt8) (ya : Nat) (hw : yt = [114, 101, 115, 101, 116]) (hi : s.i + 1 < T.length) (hf : (Gram.Rf.wordE T (f + 1) ⟨yk, yt, yn, yu, ya⟩ s).isSome = true) :
  Calls Tryz.prog 185 #[.pointer (some ⟨b, 0, none⟩), .agg #[.int .i64 yk, .string ⟨yt.toArray⟩, .int .i64 yn, .int .i64 yu, .int .i64 0, .int .i64 (ya : Int)]] w fun e w' => rePost w b g cap T (Gram.Rf.wordE T (f + 1) ⟨yk, yt, yn, yu, ya⟩ s) e w' := by
 have hbw := h.bl
 have hm := h.toks.most
 have HH := ld h
 have p1 := h.st.c1
 have fr1 := h.st.fr 1
 have nb0 : ¬ b = w.heap.size := by omega
 have nb1 : ¬ b = w.heap.size + 1 := by omega
 have nb2 : ¬ b = w.heap.size + 1 + 1 := by omega
 have nb3 : ¬ b = w.heap.size + 1 + 1 := by omega
 rw [Gram.Rf.wordE] at hf ⊢
 simp only at hf ⊢
 rw [if_neg (show ¬ yt = [116, 114, 117, 101] by rw [hw]; decide)] at hf ⊢
 rw [if_neg (show ¬ yt = [102, 97, 108, 115, 101] by rw [hw]; decide)] at hf ⊢
 rw [if_neg (show ¬ yt = [105, 102] by rw [hw]; decide)] at hf ⊢
 rw [if_neg (show ¬ yt = [119, 104, 101, 110] by rw [hw]; decide)] at hf ⊢
 rw [if_neg (show ¬ yt = [109, 101, 114, 103, 101] by rw [hw]; decide)] at hf ⊢
 rw [if_neg (show ¬ yt = [99, 97, 115, 116] by rw [hw]; decide)] at hf ⊢
 rw [if_neg (show ¬ yt = [116, 105, 99, 107] by rw [hw]; decide)] at hf ⊢
 rw [if_pos (show yt = [114, 101, 115, 101, 116] from hw)] at hf ⊢
 have e_true : (yt == [116, 114, 117, 101]) = false := by rw [hw]; rfl
 have e_false : (yt == [102, 97, 108, 115, 101]) = false := by rw [hw]; rfl
 have e_if : (yt == [105, 102]) = false := by rw [hw]; rfl
 have e_when : (yt == [119, 104, 101, 110]) = false := by rw [hw]; rfl
 have e_merge : (yt == [109, 101, 114, 103, 101]) = false := by rw [hw]; rfl
 have e_cast : (yt == [99, 97, 115, 116]) = false := by rw [hw]; rfl
 have e_tick : (yt == [116, 105, 99, 107]) = false := by rw [hw]; rfl
 have e_reset : (yt == [114, 101, 115, 101, 116]) = true := by rw [hw]; rfl
 have e_rep : (yt == [114, 101, 112]) = false := by rw [hw]; rfl
 have e_map : (yt == [109, 97, 112]) = false := by rw [hw]; rfl
 have e_fold : (yt == [102, 111, 108, 100]) = false := by rw [hw]; rfl
 cases hr2 : Gram.Rf.call T f ((Gram.Rf.name T (Gram.Rf.take T [40] (Gram.Rf.adv s))).2) with
 | none => rw [hr2] at hf; cases hf
 | some r2 =>
 obtain ⟨l2, t2⟩ := r2
 rw [hr2] at hf
 simp only [Gram.Rf.bindS] at hf ⊢
 have hl16 : l2.length ≤ 16 := call_len hr2
 have hcl2 : ∀ wx, Rp wx b g cap T ((Gram.Rf.name T (Gram.Rf.take T [40] (Gram.Rf.adv s))).2) → Calls Tryz.prog 183 #[.pointer (some ⟨b, 0, none⟩)] wx fun e w' => rxPost wx b g cap T (some (l2, t2)) e w' := fun wx hx => by
  cases f with
  | zero => rw [Gram.Rf.call] at hr2; cases hr2
  | succ f0 =>
   have := rcall_step b g cap T f0 (fun f' hf' => hC f' (by omega)) ((Gram.Rf.name T (Gram.Rf.take T [40] (Gram.Rf.adv s))).2) wx hx (by rw [hr2]; rfl)
   rw [hr2] at this
   exact this
 simp only [rxPost] at hcl2
 clear hr2
 cases hr3 : Gram.Rf.exp T f (Gram.Rf.take T [44] (t2)) with
 | none => rw [hr3] at hf; cases hf
 | some r3 =>
 obtain ⟨x3, t3⟩ := r3
 rw [hr3] at hf
 simp only [Gram.Rf.bindS] at hf ⊢
 cases x3 with
 | mk f3 s3' nm3 tk3 tl3 n3' m3 ks3 a3 =>
 have hce3 : ∀ wx, Rp wx b g cap T (Gram.Rf.take T [44] (t2)) → Calls Tryz.prog 166 #[.pointer (some ⟨b, 0, none⟩)] wx fun e w' => rePost wx b g cap T (some ((Gram.Exp.mk f3 s3' nm3 tk3 tl3 n3' m3 ks3 a3), t3)) e w' := fun wx hx => by
  have := hC f (Nat.le_refl _) (Gram.Rf.take T [44] (t2)) wx hx
  rw [hr3] at this
  exact this rfl
 simp only [rePost, expV] at hce3
 clear hr3
 clear hf
 clear hw
 have H : Wd w ((((w.alloc (tO yk yt yn yu ya)).alloc exp0).alloc (.cells #[.int .i64 0, .int .i64 0, .string ⟨#[]⟩, .int .i64 0, .int .i64 0, .int .i64 0, .int .i64 0, .slice none 0 0, .int .i64 (ya : Int)] 85))) b g cap T (s) (tO yk yt yn yu ya) #[.int .i64 0, .int .i64 0, .string ⟨#[]⟩, .int .i64 0, .int .i64 0, .int .i64 0, .int .i64 0, .slice none 0 0, .int .i64 (ya : Int)] := ⟨((h.alloc _).alloc _).alloc _, galloc (galloc (galloc (World.grownBy.refl w (some b)) _) _) _, heap3_0 w _ _ _, heap3_1 w _ _ _, heap3_2 w _ _ _, hbw⟩
 have q1 := H.p.st.c1
 have qf := H.p.st.fr 1
 unfold exp0 at q1 qf
 have H : Wd w (((((w.alloc (tO yk yt yn yu ya)).alloc exp0).alloc (.cells #[.int .i64 0, .int .i64 0, .string ⟨#[]⟩, .int .i64 0, .int .i64 0, .int .i64 0, .int .i64 0, .slice none 0 0, .int .i64 (ya : Int)] 85))).setCell ⟨b, 1, none⟩ (.int .i64 ((s.i : Int) + 1))) b g cap T (Gram.Rf.adv s) (tO yk yt yn yu ya) #[.int .i64 0, .int .i64 0, .string ⟨#[]⟩, .int .i64 0, .int .i64 0, .int .i64 0, .int .i64 0, .slice none 0 0, .int .i64 (ya : Int)] := H.adv hi
 go_enter Tryz.func185, Tryz.ntmps185
 refine Hid.out ?_
 have hcc := rtake_any b g cap T (Gram.Rf.adv s) ⟨#[40]⟩ _ H.p
 have hzp1 := Wd.sz H
 rw [show ((⟨#[40]⟩ : ByteArray)).data.toList = [40] from rfl] at hcc
 have HHH := ld H
 clear H
 refine ld ?_
 go_wp2_with (go_at_call 99; refine hcc.mono ?_; rintro e w11 ⟨rfl, hpz, hgz⟩; refine Hid.out ?_)
 have H := HHH.out
 clear HHH hcc
 have hsz1 := hgz.size
 have H : Wd w (w11) b g cap T (Gram.Rf.take T [40] (Gram.Rf.adv s)) (tO yk yt yn yu ya) #[.int .i64 0, .int .i64 0, .string ⟨#[]⟩, .int .i64 0, .int .i64 0, .int .i64 0, .int .i64 0, .slice none 0 0, .int .i64 (ya : Int)] := H.step hgz hpz
 have hzq1 := Wd.sz H
 have hgk := hgz
 clear hgz hpz
 obtain ⟨c0, c1, c2, c3, c4, c5, c6, c7, c8, cf⟩ := Nc.of H.x'
 have ct := Wd.text H
 have H : Wd w ((w11).setCell ⟨w.heap.size + 1 + 1, 0, none⟩ (.int .i64 14)) b g cap T (Gram.Rf.take T [40] (Gram.Rf.adv s)) (tO yk yt yn yu ya) #[.int .i64 14, .int .i64 0, .string ⟨#[]⟩, .int .i64 0, .int .i64 0, .int .i64 0, .int .i64 0, .slice none 0 0, .int .i64 (ya : Int)] := Wd.set h H 0 (.int .i64 14)
 have hcc := rname_any b g cap T (Gram.Rf.take T [40] (Gram.Rf.adv s)) _ H.p
 have hzp2 := Wd.sz H
 have HHH := ld H
 clear H
 refine ld ?_
 go_wp2_with (go_at_call 100; refine hcc.mono ?_; rintro e w12 ⟨rfl, hpz, hgz⟩; refine Hid.out ?_)
 clear c0 c1 c2 c3 c4 c5 c6 c7 c8 cf ct
 have H := HHH.out
 clear HHH hcc
 have hsz2 := hgz.size
 have H : Wd w (w12) b g cap T ((Gram.Rf.name T (Gram.Rf.take T [40] (Gram.Rf.adv s))).2) (tO yk yt yn yu ya) #[.int .i64 14, .int .i64 0, .string ⟨#[]⟩, .int .i64 0, .int .i64 0, .int .i64 0, .int .i64 0, .slice none 0 0, .int .i64 (ya : Int)] := H.step hgz hpz
 have hzq2 := Wd.sz H
 have hgk := hgz
 clear hgz hpz
 obtain ⟨c0, c1, c2, c3, c4, c5, c6, c7, c8, cf⟩ := Nc.of H.x'
 have ct := Wd.text H
 have H : Wd w ((w12).setCell ⟨w.heap.size + 1 + 1, 2, none⟩ (.string ⟨(Gram.Rf.name T (Gram.Rf.take T [40] (Gram.Rf.adv s))).1.toArray⟩)) b g cap T ((Gram.Rf.name T (Gram.Rf.take T [40] (Gram.Rf.adv s))).2) (tO yk yt yn yu ya) #[.int .i64 14, .int .i64 0, .string ⟨(Gram.Rf.name T (Gram.Rf.take T [40] (Gram.Rf.adv s))).1.toArray⟩, .int .i64 0, .int .i64 0, .int .i64 0, .int .i64 0, .slice none 0 0, .int .i64 (ya : Int)] := Wd.set h H 2 (.string ⟨(Gram.Rf.name T (Gram.Rf.take T [40] (Gram.Rf.adv s))).1.toArray⟩)
 have hcc := hcl2 _ H.p
 have hzp3 := Wd.sz H
 have HHH := ld H
 clear H
 refine ld ?_
 go_wp2_with (go_at_call 183; refine hcc.mono ?_; rintro e w13 ⟨v2, rfl, hk2, hpz, hgz⟩; refine Hid.out ?_)
 clear c0 c1 c2 c3 c4 c5 c6 c7 c8 cf ct
 have H := HHH.out
 clear HHH hcc
 have hsz3 := hgz.size
 have H : Wd w (w13) b g cap T (t2) (tO yk yt yn yu ya) #[.int .i64 14, .int .i64 0, .string ⟨(Gram.Rf.name T (Gram.Rf.take T [40] (Gram.Rf.adv s))).1.toArray⟩, .int .i64 0, .int .i64 0, .int .i64 0, .int .i64 0, .slice none 0 0, .int .i64 (ya : Int)] := H.step hgz hpz
 have hzq3 := Wd.sz H
 have hgk := hgz
 clear hgz hpz
 obtain ⟨c0, c1, c2, c3, c4, c5, c6, c7, c8, cf⟩ := Nc.of H.x'
 have ct := Wd.text H
 obtain ⟨ka2, kn2, kc2, rfl⟩ := hk2.form
 have H : Wd w ((w13).setCell ⟨w.heap.size + 1 + 1, 7, none⟩ (.slice ka2 kn2 kc2)) b g cap T (t2) (tO yk yt yn yu ya) #[.int .i64 14, .int .i64 0, .string ⟨(Gram.Rf.name T (Gram.Rf.take T [40] (Gram.Rf.adv s))).1.toArray⟩, .int .i64 0, .int .i64 0, .int .i64 0, .int .i64 0, .slice ka2 kn2 kc2, .int .i64 (ya : Int)] := Wd.set h H 7 (.slice ka2 kn2 kc2)
 have hk2 := Growing.kept (gset (World.grownBy.refl w13 (some (w.heap.size + 1 + 1))) (a := ⟨w.heap.size + 1 + 1, 7, none⟩) (.inr rfl) (.slice ka2 kn2 kc2)) (fun k e => by cases e; omega) hk2
 have hcc := rtake_any b g cap T (t2) ⟨#[44]⟩ _ H.p
 have hzp4 := Wd.sz H
 rw [show ((⟨#[44]⟩ : ByteArray)).data.toList = [44] from rfl] at hcc
 have HHH := ld H
 clear H
 refine ld ?_
 go_wp2_with (go_at_call 99; refine hcc.mono ?_; rintro e w14 ⟨rfl, hpz, hgz⟩; refine Hid.out ?_)
 clear c0 c1 c2 c3 c4 c5 c6 c7 c8 cf ct
 have H := HHH.out
 clear HHH hcc
 have hsz4 := hgz.size
 have H : Wd w (w14) b g cap T (Gram.Rf.take T [44] (t2)) (tO yk yt yn yu ya) #[.int .i64 14, .int .i64 0, .string ⟨(Gram.Rf.name T (Gram.Rf.take T [40] (Gram.Rf.adv s))).1.toArray⟩, .int .i64 0, .int .i64 0, .int .i64 0, .int .i64 0, .slice ka2 kn2 kc2, .int .i64 (ya : Int)] := H.step hgz hpz
 have hzq4 := Wd.sz H
 have hgk := hgz
 clear hgz hpz
 obtain ⟨c0, c1, c2, c3, c4, c5, c6, c7, c8, cf⟩ := Nc.of H.x'
 have ct := Wd.text H
 have hk2 := hk2.keptB hgk (by omega)
 obtain ⟨WB, hWB⟩ : ∃ WB, WB = w14.drew := ⟨_, rfl⟩
 have hk2 := hk2.kept0 (gdrew (World.grownBy.refl w14 none))
 rw [← hWB] at hk2
 have HW : Wd w WB b g cap T (Gram.Rf.take T [44] (t2)) (tO yk yt yn yu ya) #[.int .i64 14, .int .i64 0, .string ⟨(Gram.Rf.name T (Gram.Rf.take T [40] (Gram.Rf.adv s))).1.toArray⟩, .int .i64 0, .int .i64 0, .int .i64 0, .int .i64 0, .slice ka2 kn2 kc2, .int .i64 (ya : Int)] := by rw [hWB]; exact H.step0 (gdrew (World.grownBy.refl _ none))
 have hsB : WB.heap.size = w14.heap.size := by rw [hWB]; rfl
 obtain ⟨d0, d1, d2, d3, d4, d5, d6, d7, d8, df⟩ := Nc.of HW.x'
 have hS0 := d7
 clear d0 d1 d2 d3 d4 d5 d6 d7 d8 df
 have hce := hce3 _ HW.p
 have hbig := Wd.sz HW
 have HHW := ld HW
 have HsB := ld hsB
 clear H HW hce3 hsB
 obtain ⟨it, hit, hz, hsz, hby⟩ := infoP infoE
 refine ld ?_
 go_wp2
 refine wp_region_L (S := fun w' => w'.cell? ⟨w.heap.size + 1 + 1, 7, none⟩ = some (.slice ka2 kn2 kc2)) (Z := [7]) (by kernel_rfl) ?_
 rw [← hWB]
 clear hWB
 refine wpL_take (i := 0) (v := .pointer (some ⟨w.heap.size + 1 + 1, 7, none⟩)) rfl (by kernel_rfl) (by kernel_rfl) (by kernel_rfl) (fun _ _ _ h => h) (by kernel_rfl) (.inl ⟨rfl, fun w' hw' => ?_⟩) hS0 ?_
 ·go_simp
 refine wpL_take (i := 1) (v := .slice ka2 kn2 kc2) rfl (by kernel_rfl) (by kernel_rfl) (by kernel_rfl) (fun _ _ _ h => h) (by kernel_rfl) (.inl ⟨rfl, fun w' hw' => ?_⟩) hS0 ?_
 ·go_simp
 refine wpL_take (i := 2) (v := .pointer (some ⟨b, 0, none⟩)) rfl (by kernel_rfl) (by kernel_rfl) (by kernel_rfl) (fun _ _ _ h => h) (by kernel_rfl) (.inl ⟨rfl, fun w' hw' => ?_⟩) hS0 ?_
 ·go_simp
 refine wpL_one (i := 3) (by kernel_rfl) ?_
 refine wpOp_step rfl (fun K' hK => ?_)
 split
 case isFalse hno => exact absurd rfl hno
 unfold Oper.wp
 go_simp
 refine hce.mono ?_
 rintro e w8 ⟨k3, rfl, hk3, hp8, hg8⟩
 obtain ⟨ka3, kn3, kc3, rfl⟩ := hk3.form
 have H8 := HHW.out.step hg8 hp8
 obtain ⟨d0, d1, d2, d3, d4, d5, d6, d7, d8, df⟩ := Nc.of H8.x'
 refine hK _ _ ⟨fun _ => d7, ?_⟩
 clear hK K' d0 d1 d2 d3 d4 d5 d6 d7 d8 df
 refine wpL_one (i := 4) (by kernel_rfl) ?_
 refine wpOp_step rfl (fun K' hK => ?_)
 split
 case isFalse hno => exact absurd rfl hno
 unfold Oper.wp
 go_simp
 have H9 := H8.alloc (.cells #[.int .i64 f3, .int .i64 s3', .string ⟨nm3.toArray⟩, .int .i64 tk3, .int .i64 tl3, .int .i64 n3', .int .i64 m3, .slice ka3 kn3 kc3, .int .i64 a3] 85)
 obtain ⟨d0, d1, d2, d3, d4, d5, d6, d7, d8, df⟩ := Nc.of H9.x'
 refine hK _ _ ⟨fun _ => d7, ?_⟩
 clear hK K' d0 d1 d2 d3 d4 d5 d6 d7 d8 df
 have hs8 := hg8.size
 have hsB := HsB.out
 have hm16 := hl16
 obtain ⟨xs2, ho2, hr2⟩ := hk2.keptB hg8 (by omega)
 refine wpL_one (i := 5) (by kernel_rfl) ?_
 refine wpOp_step rfl (fun K' hK => ?_)
 split
 case isFalse hno => exact absurd rfl hno
 refine wp_append_at _ _ 83 rfl (w.heap.size + 3) 85 it _ 9 96 Tryz.underlying83 hit hz hsz hby rfl (by decide) (.slice ka2 kn2 kc2) l2.length xs2 rfl ((ho2.mono (by omega)).alloc _) ⟨w8.heap.size, 0, none⟩ 1 1 (expCells (Gram.Exp.mk f3 s3' nm3 tk3 tl3 n3' m3 ks3 a3) (.slice ka3 kn3 kc3)) rfl rfl (cell_row_new w8 (expCells (Gram.Exp.mk f3 s3' nm3 tk3 tl3 n3' m3 ks3 a3) (.slice ka3 kn3 kc3)) 85) (exp_one _ _ _ _) ?_ ?_ ?_ ?_
 ·unfold maxLen; omega
 ·omega
 ·simp only [World.size_alloc]; omega
 intro v' w9 hown' hgrow9 _ hvb
 have hG9 : Growing w9 (w.heap.size + 3) (l2 ++ [(Gram.Exp.mk f3 s3' nm3 tk3 tl3 n3' m3 ks3 a3)]) v' := growing_snoc hgrow9 hown' (RepRow.keptX (ga w8 _ none) (fun k e => by cases e) (RepRow.mono (by omega) hr2)) (RepC.kept (ga w8 _ none) (fun k e => by cases e) (RepC.mono (by omega) (RepC.toX (Value.slice ka2 kn2 kc2).ownBlock.toList (fun k e => .inr (by have := hk2.lt k e; omega)) hk3))) (by rw [World.size_alloc] at hvb; rw [World.size_alloc]; exact hvb)
 have hG9b : w.grownBy w9 (some b) := H9.g'.andThen hgrow9 (fun j e => .inl (by have := (ho2.lt j e).1; omega))
 have hb9 : some b ≠ (Value.slice ka2 kn2 kc2).ownBlock := by intro e; have := (ho2.lt b e.symm).1; omega
 have H : Wd w w9 b g cap T t3 (tO yk yt yn yu ya) #[.int .i64 14, .int .i64 0, .string ⟨(Gram.Rf.name T (Gram.Rf.take T [40] (Gram.Rf.adv s))).1.toArray⟩, .int .i64 0, .int .i64 0, .int .i64 0, .int .i64 0, .slice ka2 kn2 kc2, .int .i64 (ya : Int)] := by
  have hq : ∀ k, k < w.heap.size + 3 → some k ≠ (Value.slice ka2 kn2 kc2).ownBlock := fun k hk e => by have := (ho2.lt k e.symm).1; omega
  have hl9 := Wd.sz H9
  exact ⟨HH.out.to hG9b (H9.p.st.kept hgrow9 hb9) H9.p.lt, hG9b, (hgrow9.block _ (by omega) (hq _ (by omega))).trans H9.t, (hgrow9.block _ (by omega) (hq _ (by omega))).trans H9.r, (hgrow9.block _ (by omega) (hq _ (by omega))).trans H9.x', hbw⟩
 obtain ⟨va, vn, vc, rfl⟩ := hG9.form
 obtain ⟨c0, c1, c2, c3, c4, c5, c6, c7, c8, cf⟩ := Nc.of H.x'
 refine hK _ _ ⟨fun _ => c7, ?_⟩
 clear hK K'
 refine wpL_one (i := 6) (by kernel_rfl) ?_
 refine wpOp_step rfl (fun K' hK => ?_)
 split
 case isFalse hno => exact absurd rfl hno
 unfold Oper.wp
 go_simp
 refine hK _ _ ⟨fun _ => c7, ?_⟩
 clear hK K'
 have hKL := Kids.setX (w := w) (by omega) 7 (.slice va vn vc) hG9.kids
 refine wpL_one (i := 7) (by kernel_rfl) ?_
 refine wpOp_step rfl (fun K' hK => ?_)
 split
 case isFalse hno => exact absurd rfl hno
 unfold Oper.wp
 go_simp
 refine hK _ _ ⟨fun hno => absurd (by simp) hno, ?_⟩
 clear hK K'
 refine wpL_done (by kernel_rfl) ?_ _
 have H : Wd w ((w9).setCell ⟨w.heap.size + 1 + 1, 7, none⟩ (.slice va vn vc)) b g cap T (t3) (tO yk yt yn yu ya) #[.int .i64 14, .int .i64 0, .string ⟨(Gram.Rf.name T (Gram.Rf.take T [40] (Gram.Rf.adv s))).1.toArray⟩, .int .i64 0, .int .i64 0, .int .i64 0, .int .i64 0, .slice va vn vc, .int .i64 (ya : Int)] := Wd.set h H 7 (.slice va vn vc)
 have ct := Wd.text H
 refine Hid.out ?_
 have hcc := rtake_any b g cap T (t3) ⟨#[41]⟩ _ H.p
 have hzp5 := Wd.sz H
 rw [show ((⟨#[41]⟩ : ByteArray)).data.toList = [41] from rfl] at hcc
 have HHH := ld H
 clear H
 refine ld ?_
 go_wp2_with (go_at_call 99; refine hcc.mono ?_; rintro e w15 ⟨rfl, hpz, hgz⟩; refine Hid.out ?_)
 clear c0 c1 c2 c3 c4 c5 c6 c7 c8 cf ct
 have H := HHH.out
 clear HHH hcc
 have hsz5 := hgz.size
 have H : Wd w (w15) b g cap T (Gram.Rf.take T [41] (t3)) (tO yk yt yn yu ya) #[.int .i64 14, .int .i64 0, .string ⟨(Gram.Rf.name T (Gram.Rf.take T [40] (Gram.Rf.adv s))).1.toArray⟩, .int .i64 0, .int .i64 0, .int .i64 0, .int .i64 0, .slice va vn vc, .int .i64 (ya : Int)] := H.step hgz hpz
 have hzq5 := Wd.sz H
 have hgk := hgz
 clear hgz hpz
 obtain ⟨c0, c1, c2, c3, c4, c5, c6, c7, c8, cf⟩ := Nc.of H.x'
 have ct := Wd.text H
 have hKL := Kids.kept hKL hgk (by omega)
 have HF := ld H
 have hr1 := H.r
 have hgx := H.g'
 clear H
 refine ld ?_
 go_wp2_with (with_reducible refine hold_st 4 ?_)
 refine wpList_store_gen rfl _ _ _ rfl (w.heap.size + 1) #[.int .i64 14, .int .i64 0, .string ⟨(Gram.Rf.name T (Gram.Rf.take T [40] (Gram.Rf.adv s))).1.toArray⟩, .int .i64 0, .int .i64 0, .int .i64 0, .int .i64 0, .slice va vn vc, .int .i64 (ya : Int)] rfl rfl 85 _ hr1 (by kernel_rfl) rfl (by simp [Value.oneCell']) ?_
 intro w9 hh9 hg9
 go_wp2
 (try simp only [Exit.inBlock, Exit.then])
 refine br hh9 Tryz.underlying85 ?_
 have hG : w.grownBy w9 (some b) := hgx.andThen hg9 (fun j e => .inl (by cases e; omega))
 exact ⟨_, rfl, RepC.mono (by omega) (RepC.kept hg9 (fun k e => by cases e; omega) hKL), HH.out.to hG (HF.out.p.st.kept hg9 (by simp; omega)) HF.out.p.lt, hG⟩
end
section
variable (b g cap : Nat) (T : List Lex.Tk)
theorem rword_none (f : Nat) (hC : ∀ f', f' ≤ f → CRex b g cap T 166 (Gram.Rf.exp T f')) (s : Gram.Rf.St) (w : World) (h : Rp w b g cap T s) (yk yn yu : Int) (yt : List UInt8) (ya : Nat) (hw : yt = yt) (w_true : ¬ yt = [116, 114, 117, 101]) (w_false : ¬ yt = [102, 97, 108, 115, 101]) (w_if : ¬ yt = [105, 102]) (w_when : ¬ yt = [119, 104, 101, 110]) (w_merge : ¬ yt = [109, 101, 114, 103, 101]) (w_cast : ¬ yt = [99, 97, 115, 116]) (w_tick : ¬ yt = [116, 105, 99, 107]) (w_reset : ¬ yt = [114, 101, 115, 101, 116]) (w_rep : ¬ yt = [114, 101, 112]) (w_map : ¬ yt = [109, 97, 112]) (w_fold : ¬ yt = [102, 111, 108, 100]) (hf : (Gram.Rf.wordE T (f + 1) ⟨yk, yt, yn, yu, ya⟩ s).isSome = true) :
  Calls Tryz.prog 185 #[.pointer (some ⟨b, 0, none⟩), .agg #[.int .i64 yk, .string ⟨yt.toArray⟩, .int .i64 yn, .int .i64 yu, .int .i64 0, .int .i64 (ya : Int)]] w fun e w' => rePost w b g cap T (Gram.Rf.wordE T (f + 1) ⟨yk, yt, yn, yu, ya⟩ s) e w' := by
 have hbw := h.bl
 have hm := h.toks.most
 have HH := ld h
 have p1 := h.st.c1
 have fr1 := h.st.fr 1
 have nb0 : ¬ b = w.heap.size := by omega
 have nb1 : ¬ b = w.heap.size + 1 := by omega
 have nb2 : ¬ b = w.heap.size + 1 + 1 := by omega
 have nb3 : ¬ b = w.heap.size + 1 + 1 := by omega
 rw [Gram.Rf.wordE] at hf ⊢
 simp only at hf ⊢
 rw [if_neg w_true] at hf ⊢
 rw [if_neg w_false] at hf ⊢
 rw [if_neg w_if] at hf ⊢
 rw [if_neg w_when] at hf ⊢
 rw [if_neg w_merge] at hf ⊢
 rw [if_neg w_cast] at hf ⊢
 rw [if_neg w_tick] at hf ⊢
 rw [if_neg w_reset] at hf ⊢
 rw [if_neg w_rep] at hf ⊢
 rw [if_neg w_map] at hf ⊢
 rw [if_neg w_fold] at hf ⊢
 have e_true : (yt == [116, 114, 117, 101]) = false := by rw [beq_eq_false_iff_ne]; exact w_true
 have e_false : (yt == [102, 97, 108, 115, 101]) = false := by rw [beq_eq_false_iff_ne]; exact w_false
 have e_if : (yt == [105, 102]) = false := by rw [beq_eq_false_iff_ne]; exact w_if
 have e_when : (yt == [119, 104, 101, 110]) = false := by rw [beq_eq_false_iff_ne]; exact w_when
 have e_merge : (yt == [109, 101, 114, 103, 101]) = false := by rw [beq_eq_false_iff_ne]; exact w_merge
 have e_cast : (yt == [99, 97, 115, 116]) = false := by rw [beq_eq_false_iff_ne]; exact w_cast
 have e_tick : (yt == [116, 105, 99, 107]) = false := by rw [beq_eq_false_iff_ne]; exact w_tick
 have e_reset : (yt == [114, 101, 115, 101, 116]) = false := by rw [beq_eq_false_iff_ne]; exact w_reset
 have e_rep : (yt == [114, 101, 112]) = false := by rw [beq_eq_false_iff_ne]; exact w_rep
 have e_map : (yt == [109, 97, 112]) = false := by rw [beq_eq_false_iff_ne]; exact w_map
 have e_fold : (yt == [102, 111, 108, 100]) = false := by rw [beq_eq_false_iff_ne]; exact w_fold
 clear w_true w_false w_if w_when w_merge w_cast w_tick w_reset w_rep w_map w_fold hf
 have H : Wd w ((((w.alloc (tO yk yt yn yu ya)).alloc exp0).alloc (.cells #[.int .i64 0, .int .i64 0, .string ⟨#[]⟩, .int .i64 0, .int .i64 0, .int .i64 0, .int .i64 0, .slice none 0 0, .int .i64 (ya : Int)] 85))) b g cap T (s) (tO yk yt yn yu ya) #[.int .i64 0, .int .i64 0, .string ⟨#[]⟩, .int .i64 0, .int .i64 0, .int .i64 0, .int .i64 0, .slice none 0 0, .int .i64 (ya : Int)] := ⟨((h.alloc _).alloc _).alloc _, galloc (galloc (galloc (World.grownBy.refl w (some b)) _) _) _, heap3_0 w _ _ _, heap3_1 w _ _ _, heap3_2 w _ _ _, hbw⟩
 have q1 := H.p.st.c1
 have qf := H.p.st.fr 1
 unfold exp0 at q1 qf
 go_enter Tryz.func185, Tryz.ntmps185
 refine Hid.out ?_
 have hcc := rfail_any b g cap T s 12 _ H.p
 have hzp1 := Wd.sz H
 have HHH := ld H
 clear H
 refine ld ?_
 go_wp2_with (go_at_call 64; refine hcc.mono ?_; rintro e w11 ⟨rfl, hpz, hgz⟩; refine Hid.out ?_)
 have H := HHH.out
 clear HHH hcc
 have hsz1 := hgz.size
 have H : Wd w (w11) b g cap T (Gram.Rf.fail T 12 s) (tO yk yt yn yu ya) #[.int .i64 0, .int .i64 0, .string ⟨#[]⟩, .int .i64 0, .int .i64 0, .int .i64 0, .int .i64 0, .slice none 0 0, .int .i64 (ya : Int)] := H.step hgz hpz
 have hzq1 := Wd.sz H
 have hgk := hgz
 clear hgz hpz
 obtain ⟨c0, c1, c2, c3, c4, c5, c6, c7, c8, cf⟩ := Nc.of H.x'
 have ct := Wd.text H
 have HF := ld H
 have hr1 := H.r
 have hgx := H.g'
 clear H
 refine ld ?_
 go_wp2_with (with_reducible refine hold_st 4 ?_)
 refine wpList_store_gen rfl _ _ _ rfl (w.heap.size + 1) #[.int .i64 0, .int .i64 0, .string ⟨#[]⟩, .int .i64 0, .int .i64 0, .int .i64 0, .int .i64 0, .slice none 0 0, .int .i64 (ya : Int)] rfl rfl 85 _ hr1 (by kernel_rfl) rfl (by simp [Value.oneCell']) ?_
 intro w9 hh9 hg9
 go_wp2
 (try simp only [Exit.inBlock, Exit.then])
 refine br hh9 Tryz.underlying85 ?_
 have hG : w.grownBy w9 (some b) := hgx.andThen hg9 (fun j e => .inl (by cases e; omega))
 exact ⟨_, rfl, Kids.nil _ _, HH.out.to hG (HF.out.p.st.kept hg9 (by simp; omega)) HF.out.p.lt, hG⟩
end
section
variable (b g cap : Nat) (T : List Lex.Tk)
theorem rword_step (f : Nat) (hC : ∀ f', f' ≤ f → CRex b g cap T 166 (Gram.Rf.exp T f')) : CWd b g cap T (f + 1) := by
 intro s w h _ hk hf
 have hi := h.next (.inl (by rw [hk]; decide))
 generalize Gram.tk T s.i = y at *
 obtain ⟨yk, yt, yn, yu, ya⟩ := y
 by_cases w_true : yt = [116, 114, 117, 101]
 ·exact rword_true b g cap T f hC s w h yk yn yu yt ya w_true hi hf
 by_cases w_false : yt = [102, 97, 108, 115, 101]
 ·exact rword_false b g cap T f hC s w h yk yn yu yt ya w_false hi hf
 by_cases w_if : yt = [105, 102]
 ·exact rword_if b g cap T f hC s w h yk yn yu yt ya w_if hi hf
 by_cases w_when : yt = [119, 104, 101, 110]
 ·exact rword_when b g cap T f hC s w h yk yn yu yt ya w_when hi hf
 by_cases w_merge : yt = [109, 101, 114, 103, 101]
 ·exact rword_merge b g cap T f hC s w h yk yn yu yt ya w_merge hi hf
 by_cases w_cast : yt = [99, 97, 115, 116]
 ·exact rword_cast b g cap T f hC s w h yk yn yu yt ya w_cast hi hf
 by_cases w_tick : yt = [116, 105, 99, 107]
 ·exact rword_tick b g cap T f hC s w h yk yn yu yt ya w_tick hi hf
 by_cases w_reset : yt = [114, 101, 115, 101, 116]
 ·exact rword_reset b g cap T f hC s w h yk yn yu yt ya w_reset hi hf
 by_cases w_rep : yt = [114, 101, 112]
 ·exact rword_rep b g cap T f hC s w h yk yn yu yt ya w_rep hi hf
 by_cases w_map : yt = [109, 97, 112]
 ·exact rword_map b g cap T f hC s w h yk yn yu yt ya w_map hi hf
 by_cases w_fold : yt = [102, 111, 108, 100]
 ·exact rword_fold b g cap T f hC s w h yk yn yu yt ya w_fold hi hf
 exact rword_none b g cap T f hC s w h yk yn yu yt ya rfl w_true w_false w_if w_when w_merge w_cast w_tick w_reset w_rep w_map w_fold hf
structure CAll (f : Nat) : Prop where
 exp : CRex b g cap T 166 (Gram.Rf.exp T f)
 arrow : CRex b g cap T 173 (Gram.Rf.arrow T f)
 fby : CRex b g cap T 174 (Gram.Rf.fby T f)
 imp : CRex b g cap T 176 (Gram.Rf.imp T f)
 level : CLev b g cap T f
 unary : CRex b g cap T 178 (Gram.Rf.unary T f)
 signed : CRex b g cap T 180 (Gram.Rf.signed T f)
 prim : CRex b g cap T 182 (Gram.Rf.prim T f)
 word : CWd b g cap T f
theorem call_all (f : Nat) : CAll b g cap T f := by
 induction f using Nat.strongRecOn with
 | _ f ih =>
  cases f with
  | zero =>
   refine ⟨?_, ?_, ?_, ?_, ?_, ?_, ?_, ?_, ?_⟩
   ·intro s w _ hf; rw [Gram.Rf.exp] at hf; cases hf
   ·intro s w _ hf; rw [Gram.Rf.arrow] at hf; cases hf
   ·intro s w _ hf; rw [Gram.Rf.fby] at hf; cases hf
   ·intro s w _ hf; rw [Gram.Rf.imp] at hf; cases hf
   ·intro n s w _ _ hf; rw [Gram.Rf.level] at hf; cases hf
   ·intro s w _ hf; rw [Gram.Rf.unary] at hf; cases hf
   ·intro s w _ hf; rw [Gram.Rf.signed] at hf; cases hf
   ·intro s w _ hf; rw [Gram.Rf.prim] at hf; cases hf
   ·intro s w _ _ _ hf; rw [Gram.Rf.wordE] at hf; cases hf
  | succ f =>
   have I := ih f (by omega)
   have J : ∀ f', f' ≤ f → CAll b g cap T f' := fun f' hf' => ih f' (by omega)
   have hC : ∀ f', f' ≤ f → CRex b g cap T 166 (Gram.Rf.exp T f') := fun f' hf' => (J f' hf').exp
   exact ⟨rexp_step b g cap T f I.arrow, rarrow_step b g cap T f I.fby I.arrow, rfby_step b g cap T f I.imp I.fby, rimp_step b g cap T f I.level I.imp,
    rlevel_step b g cap T f I.unary (fun f' hf' => (J f' hf').level), runary_step b g cap T f I.signed, rsigned_step b g cap T f I.unary I.prim,
    rprim_step b g cap T f I.word hC, rword_step b g cap T f hC⟩
theorem rexp_any (f : Nat) : CRex b g cap T 166 (Gram.Rf.exp T f) := (call_all b g cap T f).exp
end
def edgeD (e : Gram.Edge) : List D := [.c (.string ⟨e.name.toArray⟩), .c (.bool e.on)]
def varD (v : Gram.Var) : List D := [.c (.string ⟨v.name.toArray⟩), .c (.int .i64 v.tk), .c (.int .i64 v.tl), .l 92 2 (v.clock.map edgeD), .c (.int .i64 v.at_)]
def transD (t : Gram.Trans) : List D := expD t.cond ++ [.c (.string ⟨t.to.toArray⟩), .c (.bool t.cont), .c (.int .i64 t.at_)]
def nameD (n : Gram.B) : List D := [.c (.string ⟨n.toArray⟩)]
mutual
def itemD : Gram.Item → List D
 | .mk ns e ss a => .l 9 1 (ns.map nameD) :: (expD e ++ [.l 95 6 (statesD ss), .c (.int .i64 a)])
def itemsD : List Gram.Item → List (List D)
 | [] => []
 | x :: r => itemD x :: itemsD r
def stateD : Gram.State → List D
 | .mk nm us ut ls its a => [.c (.string ⟨nm.toArray⟩), .l 146 12 (us.map transD), .l 146 12 (ut.map transD), .l 60 5 (ls.map varD), .l 88 12 (itemsD its), .c (.int .i64 a)]
def statesD : List Gram.State → List (List D)
 | [] => []
 | x :: r => stateD x :: statesD r
end
def nodeD (n : Gram.Node) : List D := [.c (.string ⟨n.name.toArray⟩), .l 60 5 (n.ins.map varD), .l 60 5 (n.outs.map varD), .l 60 5 (n.locals.map varD), .l 88 12 (itemsD n.items), .c (.int .i64 n.at_)]
theorem itemsD_map : ∀ l, itemsD l = l.map itemD
 | [] => by simp [itemsD]
 | x :: r => by simp [itemsD, itemsD_map r]
theorem expsD_map : ∀ l, expsD l = l.map expD
 | [] => by simp [expsD]
 | x :: r => by simp [expsD, expsD_map r]
section
variable {w w' : World} {B : Nat} {E : List Nat}
theorem RepRow.cInv {v : Value} {ds : List D} {vs : List Value} (h : RepRow w B E (.c v :: ds) vs) : ∃ us, vs = v :: us ∧ RepRow w B E ds us := by
 cases h with
 | cons h t => cases h; exact ⟨_, rfl, t⟩
theorem RepC.form {e : TypeId} {sz : Nat} {rows : List (List D)} {v : Value} (h : RepC w B E (.l e sz rows) v) : ∃ a n c, v = .slice a n c := by
 cases h with
 | l ho _ _ =>
  rcases ho.2 with ⟨rfl, _⟩ | ⟨g, cap, cur, rfl, _⟩
  ·exact ⟨_, _, _, rfl⟩
  ·exact ⟨_, _, _, rfl⟩
theorem RepRow.lInv {e : TypeId} {sz : Nat} {rows : List (List D)} {ds : List D} {vs : List Value} (h : RepRow w B E (.l e sz rows :: ds) vs) : ∃ a n c us, vs = .slice a n c :: us ∧ RepC w B E (.l e sz rows) (.slice a n c) ∧ RepRow w B E ds us := by
 cases h with
 | cons h t =>
  obtain ⟨a, n, c, rfl⟩ := h.form
  exact ⟨a, n, c, _, rfl, h, t⟩
theorem RepRow.nInv {vs : List Value} (h : RepRow w B E [] vs) : vs = [] := by cases h; rfl
theorem RepRow.appInv : ∀ {ds es : List D} {vs : List Value}, RepRow w B E (ds ++ es) vs → ∃ us ts, vs = us ++ ts ∧ RepRow w B E ds us ∧ RepRow w B E es ts
 | [], _, vs, h => ⟨[], vs, rfl, .nil, h⟩
 | d :: ds, es, vs, h => by
  cases h with
  | cons h t =>
   obtain ⟨us, ts, rfl, h1, h2⟩ := RepRow.appInv t
   exact ⟨_ :: us, ts, rfl, .cons h h1, h2⟩
theorem RepRow.set : ∀ {ds : List D} {vs : List Value} (j : Nat) {d : D} {u : Value}, RepRow w B E ds vs → RepC w B E d u → RepRow w B E (ds.set j d) (vs.set j u)
 | _, _, _, _, _, .nil, _ => by simpa using RepRow.nil
 | _, _, 0, _, _, .cons _ t, h => .cons h t
 | _, _, j + 1, _, _, .cons a t, h => .cons a (RepRow.set j t h)
theorem expInv {x : Gram.Exp} {vs : List Value} (h : RepRow w B E (expD x) vs) : ∃ a n c, vs = expCells x (.slice a n c) ∧ KidsX w B E x.kids (.slice a n c) := by
 cases x with
 | mk f s nm tk tl nn m ks at_ =>
  simp only [expD] at h
  obtain ⟨u1, rfl, h_1⟩ := h.cInv
  obtain ⟨u2, rfl, h_2⟩ := h_1.cInv
  obtain ⟨u3, rfl, h_3⟩ := h_2.cInv
  obtain ⟨u4, rfl, h_4⟩ := h_3.cInv
  obtain ⟨u5, rfl, h_5⟩ := h_4.cInv
  obtain ⟨u6, rfl, h_6⟩ := h_5.cInv
  obtain ⟨u7, rfl, h_7⟩ := h_6.cInv
  obtain ⟨a, n, c, u8, rfl, hk, h_8⟩ := h_7.lInv
  obtain ⟨u9, rfl, h_9⟩ := h_8.cInv
  obtain rfl := h_9.nInv
  exact ⟨a, n, c, rfl, hk⟩
theorem edgeInv {x : Gram.Edge} {vs : List Value} (h : RepRow w B E (edgeD x) vs) : vs = [.string ⟨x.name.toArray⟩, .bool x.on] := by
 obtain ⟨u1, rfl, h_1⟩ := h.cInv
 obtain ⟨u2, rfl, h_2⟩ := h_1.cInv
 obtain rfl := h_2.nInv
 rfl
theorem itemInv {ns : List Gram.B} {e : Gram.Exp} {ss : List Gram.State} {at_ : Int} {vs : List Value} (h : RepRow w B E (itemD (.mk ns e ss at_)) vs) : ∃ a1 n1 c1 a2 n2 c2 a3 n3 c3, vs = .slice a1 n1 c1 :: (expCells e (.slice a2 n2 c2) ++ [.slice a3 n3 c3, .int .i64 at_]) := by
 simp only [itemD] at h
 obtain ⟨a1, n1, c1, u1, rfl, _, h_1⟩ := h.lInv
 obtain ⟨u, t, rfl, h1, h_2⟩ := RepRow.appInv h_1
 obtain ⟨a2, n2, c2, rfl, _⟩ := expInv h1
 obtain ⟨a3, n3, c3, u3, rfl, _, h_3⟩ := h_2.lInv
 obtain ⟨u4, rfl, h_4⟩ := h_3.cInv
 obtain rfl := h_4.nInv
 exact ⟨_, _, _, _, _, _, _, _, _, rfl⟩
theorem nodeInv {x : Gram.Node} {vs : List Value} (h : RepRow w B E (nodeD x) vs) : ∃ a1 n1 c1 a2 n2 c2 a3 n3 c3 a4 n4 c4, vs = [.string ⟨x.name.toArray⟩, .slice a1 n1 c1, .slice a2 n2 c2, .slice a3 n3 c3, .slice a4 n4 c4, .int .i64 x.at_] := by
 obtain ⟨u1, rfl, h_1⟩ := h.cInv
 obtain ⟨a1, n1, c1, u2, rfl, _, h_2⟩ := h_1.lInv
 obtain ⟨a2, n2, c2, u3, rfl, _, h_3⟩ := h_2.lInv
 obtain ⟨a3, n3, c3, u4, rfl, _, h_4⟩ := h_3.lInv
 obtain ⟨a4, n4, c4, u5, rfl, _, h_5⟩ := h_4.lInv
 obtain ⟨u6, rfl, h_6⟩ := h_5.cInv
 obtain rfl := h_6.nInv
 exact ⟨_, _, _, _, _, _, _, _, _, _, _, _, rfl⟩
end
def GrowD (w : World) (B : Nat) (e : TypeId) (sz : Nat) (rows : List (List D)) (v : Value) : Prop := ∃ xs, w.ownsRow B e sz v rows.length xs ∧ RepRow w B v.ownBlock.toList rows.flatten xs
section
variable {w w' : World} {B B' : Nat} {e : TypeId} {sz : Nat} {rows : List (List D)} {v : Value}
theorem GrowD.rep (h : GrowD w B e sz rows v) : RepC w B [] (.l e sz rows) v := by
 obtain ⟨xs, ho, hx⟩ := h
 exact .l ho (fun _ e => by cases e) (RepRow.noX hx)
theorem GrowD.nil (w : World) (B : Nat) (e : TypeId) (sz : Nat) : GrowD w B e sz [] (.slice none 0 0) := ⟨[], World.ownsRow_nil w B _ _, .nil⟩
theorem GrowD.kept {row : Option Nat} (hg : w.grownBy w' row) (hr : ∀ k, row = some k → k < B) (h : GrowD w B e sz rows v) : GrowD w' B e sz rows v := by
 obtain ⟨xs, ho, hx⟩ := h
 refine ⟨xs, ho.kept hg ?_, RepRow.keptX hg (fun k e => .inl (hr k e)) hx⟩
 cases hv : v.ownBlock with
 | none => exact .inl rfl
 | some k => exact .inr (fun e => by have h1 := (ho.lt k hv).1; have h2 := hr k e.symm; omega)
theorem GrowD.keptB {b : Nat} (h : GrowD w B e sz rows v) (hg : w.grownBy w' (some b)) (hb : b < B) : GrowD w' B e sz rows v := GrowD.kept hg (fun k e => by cases e; exact hb) h
theorem GrowD.kept0 (h : GrowD w B e sz rows v) (hg : w.grownBy w' none) : GrowD w' B e sz rows v := GrowD.kept hg (fun k e => by cases e) h
theorem GrowD.mono (h : GrowD w B e sz rows v) (hB : B' ≤ B) : GrowD w B' e sz rows v := by
 obtain ⟨xs, ho, hx⟩ := h
 exact ⟨xs, ho.mono hB, RepRow.mono hB hx⟩
theorem GrowD.form (h : GrowD w B e sz rows v) : ∃ a n c, v = .slice a n c := h.rep.form
theorem GrowD.lt (h : GrowD w B e sz rows v) : ∀ k ∈ v.ownBlock.toList, k < w.heap.size := by
 obtain ⟨xs, ho, hx⟩ := h
 intro k hk
 exact (ho.lt k (by simpa using hk)).2
theorem GrowD.ge (h : GrowD w B e sz rows v) : ∀ k, v.ownBlock = some k → B ≤ k := by
 obtain ⟨xs, ho, hx⟩ := h
 exact fun k hk => (ho.lt k hk).1
theorem growD_snoc {v' : Value} {r : List D} {xs ys : List Value} (hg : w.grownBy w' v.ownBlock) (ho : w'.ownsRow B e sz v' (rows.length + 1) (xs ++ ys)) (hx : RepRow w B v.ownBlock.toList rows.flatten xs)
  (hk : RepRow w B v.ownBlock.toList r ys) (hv : v'.ownBlock = v.ownBlock ∨ v'.ownBlock = some w.heap.size) : GrowD w' B e sz (rows ++ [r]) v' := by
 have ha := hx.append hk
 refine ⟨_, by simpa using ho, ?_⟩
 have e1 : (rows ++ [r]).flatten = rows.flatten ++ r := by simp
 rw [e1]
 rcases hv with hv | hv
 ·rw [hv]; exact RepRow.keptX hg (fun k e => .inr (by rw [e]; simp)) ha
 ·rw [hv]; exact RepRow.keptN hg (fun k e => .inr (by rw [e]; simp)) _ (fun k e => by simp at e; omega) ha
end
open Go.RowKit Go.Maps Go.WideMaps
theorem info_Item : (Tryz.prog.info? 88).map (fun i => (i.zero, i.size, i.bytes)) = some (some (.agg #[.slice none 0 0, .int .i64 0, .int .i64 0, .string ⟨#[]⟩, .int .i64 0, .int .i64 0, .int .i64 0, .int .i64 0, .slice none 0 0, .int .i64 0, .slice none 0 0, .int .i64 0]), 12, 152) := by kernel_rfl
theorem len_Item {w : World} {base : Nat} {v : Value} {n : Nat} {xs : List Value} (h : w.ownsRow base 88 12 v n xs) (ty : TypeId) (wx : World) :
  (Builtin.len_ #[42] ty #[v]).run Tryz.prog wx = .ok (.int .i64 (n : Int)) wx := by
 rcases h.2 with ⟨rfl, rfl⟩ | ⟨g, cap, cur, rfl, _⟩
 ·simp [Builtin.len_, run_underlying Tryz.underlying42, goInt, Result.andThen]
 ·simp [Builtin.len_, run_underlying Tryz.underlying42, goInt, Result.andThen]
theorem info_Node : (Tryz.prog.info? 44).map (fun i => (i.zero, i.size, i.bytes)) = some (some (.agg #[.string ⟨#[]⟩, .slice none 0 0, .slice none 0 0, .slice none 0 0, .slice none 0 0, .int .i64 0]), 6, 120) := by kernel_rfl
theorem len_Node {w : World} {base : Nat} {v : Value} {n : Nat} {xs : List Value} (h : w.ownsRow base 44 6 v n xs) (ty : TypeId) (wx : World) :
  (Builtin.len_ #[25] ty #[v]).run Tryz.prog wx = .ok (.int .i64 (n : Int)) wx := by
 rcases h.2 with ⟨rfl, rfl⟩ | ⟨g, cap, cur, rfl, _⟩
 ·simp [Builtin.len_, run_underlying Tryz.underlying25, goInt, Result.andThen]
 ·simp [Builtin.len_, run_underlying Tryz.underlying25, goInt, Result.andThen]
theorem info_string : (Tryz.prog.info? 9).map (fun i => (i.zero, i.size, i.bytes)) = some (some (.string ⟨#[]⟩), 1, 16) := by kernel_rfl
theorem len_string {w : World} {base : Nat} {v : Value} {n : Nat} {xs : List Value} (h : w.ownsRow base 9 1 v n xs) (ty : TypeId) (wx : World) :
  (Builtin.len_ #[23] ty #[v]).run Tryz.prog wx = .ok (.int .i64 (n : Int)) wx := by
 rcases h.2 with ⟨rfl, rfl⟩ | ⟨g, cap, cur, rfl, _⟩
 ·simp [Builtin.len_, run_underlying Tryz.underlying23, goInt, Result.andThen]
 ·simp [Builtin.len_, run_underlying Tryz.underlying23, goInt, Result.andThen]
theorem info_Var : (Tryz.prog.info? 60).map (fun i => (i.zero, i.size, i.bytes)) = some (some (.agg #[.string ⟨#[]⟩, .int .i64 0, .int .i64 0, .slice none 0 0, .int .i64 0]), 5, 64) := by kernel_rfl
theorem len_Var {w : World} {base : Nat} {v : Value} {n : Nat} {xs : List Value} (h : w.ownsRow base 60 5 v n xs) (ty : TypeId) (wx : World) :
  (Builtin.len_ #[41] ty #[v]).run Tryz.prog wx = .ok (.int .i64 (n : Int)) wx := by
 rcases h.2 with ⟨rfl, rfl⟩ | ⟨g, cap, cur, rfl, _⟩
 ·simp [Builtin.len_, run_underlying Tryz.underlying41, goInt, Result.andThen]
 ·simp [Builtin.len_, run_underlying Tryz.underlying41, goInt, Result.andThen]
section
variable (b g cap : Nat) (rv : Value) (T : List Lex.Tk) (i d : Nat)
end
def rlPost {α : Type} (F : α → List D) (ty : TypeId) (sz : Nat) (w : World) (b g cap : Nat) (T : List Lex.Tk) (r : Option (List α × Gram.Rf.St)) (e : Ending) (w' : World) : Prop :=
 match r with
 | some x => ∃ v, e = .returned v ∧ GrowD w' w.heap.size ty sz (x.1.map F) v ∧ Rp w' b g cap T x.2 ∧ w.grownBy w' (some b)
 | none => False
section
variable (b g cap : Nat) (T : List Lex.Tk)
end
def r1Post {α : Type} (F : α → List D) (w : World) (b g cap : Nat) (T : List Lex.Tk) (r : Option (α × Gram.Rf.St)) (e : Ending) (w' : World) : Prop :=
 match r with
 | some x => ∃ vs, e = .returned (.agg vs.toArray) ∧ RepRow w' w.heap.size [] (F x.1) vs ∧ Rp w' b g cap T x.2 ∧ w.grownBy w' (some b)
 | none => False
section
variable (b g cap : Nat) (T : List Lex.Tk)
def CIm (f : Nat) : Prop := ∀ (s : Gram.Rf.St) (w : World), Rp w b g cap T s → (Gram.Rf.item T f s).isSome = true → Calls Tryz.prog 135 #[.pointer (some ⟨b, 0, none⟩)] w fun e w' => r1Post itemD w b g cap T (Gram.Rf.item T f s) e w'
theorem rbegins_any (s : Gram.Rf.St) (w : World) (h : Rp w b g cap T s) :
  Calls Tryz.prog 134 #[.pointer (some ⟨b, 0, none⟩)] w fun e w' => e = .returned (.bool (Gram.Rf.begins T s)) ∧ w.grownBy w' none := by
 have hA := fun wx (hx : Rp wx b g cap T s) => ris_any b g cap T s ⟨#[97, 117, 116, 111, 109, 97, 116, 111, 110]⟩ wx hx
 have hB := fun wx (hx : Rp wx b g cap T s) => ris_any b g cap T s ⟨#[40]⟩ wx hx
 have hn := fun wx (hx : Rp wx b g cap T s) => rtok_any b g cap T s wx hx
 rw [show ((⟨#[97, 117, 116, 111, 109, 97, 116, 111, 110]⟩ : ByteArray)).data.toList = [97, 117, 116, 111, 109, 97, 116, 111, 110] from rfl] at hA
 rw [show ((⟨#[40]⟩ : ByteArray)).data.toList = [40] from rfl] at hB
 unfold Gram.Rf.begins
 have p2 := h.st.c2
 have HH := ld h
 simp only [tokV] at hn
 generalize Gram.tk T s.i = y at hn ⊢
 generalize Gram.Rf.is T [97, 117, 116, 111, 109, 97, 116, 111, 110] s = qa at hA ⊢
 generalize Gram.Rf.is T [40] s = qb at hB ⊢
 obtain ⟨yk, yt, yn, yu, ya⟩ := y
 simp only at hn ⊢
 have hfd := fldKind ⟨yk, yt, yn, yu, ya⟩
 simp only [tokV] at hfd
 clear h
 by_cases h0 : s.e = 0
 ·have b0 : (s.e == 0) = true := by rw [beq_iff_eq]; exact h0
  have b1 : (s.e != 0) = false := bne_t b0
  rw [b0]
  generalize s.e = e0 at p2 b1
  clear h0 b0
  cases qa with
  | true =>
   go_enter Tryz.func134, Tryz.ntmps134
   go_wp2_with (go_at_call 63; first | (refine (hB _ (HH.out.kept hg1)).mono ?_; rintro e w2 ⟨rfl, hg2⟩) | (refine (hA _ HH.out).mono ?_; rintro e w1 ⟨rfl, hg1⟩))
   go_ret
   exact ⟨rfl, hg1.trans hg2⟩
  | false =>
   cases qb with
   | true =>
    go_enter Tryz.func134, Tryz.ntmps134
    go_wp2_with (go_at_call 63; first | (refine (hB _ (HH.out.kept hg1)).mono ?_; rintro e w2 ⟨rfl, hg2⟩) | (refine (hA _ HH.out).mono ?_; rintro e w1 ⟨rfl, hg1⟩))
    go_ret
    exact ⟨rfl, hg1.trans hg2⟩
   | false =>
    go_enter Tryz.func134, Tryz.ntmps134
    go_wp2_with (first | (go_at_call 63; first | (refine (hB _ (HH.out.kept hg1)).mono ?_; rintro e w2 ⟨rfl, hg2⟩) | (refine (hA _ HH.out).mono ?_; rintro e w1 ⟨rfl, hg1⟩)) | (go_at_call 62; refine (hn _ ((HH.out.kept hg1).kept hg2)).mono ?_; rintro e w3 ⟨rfl, hg3⟩))
    go_ret
    exact ⟨rfl, (hg1.trans hg2).trans hg3⟩
 ·have b0 : (s.e == 0) = false := by rw [beq_eq_false_iff_ne]; exact h0
  have b1 : (s.e != 0) = true := bne_f b0
  rw [b0]
  generalize s.e = e0 at p2 b1
  clear h0 b0
  go_enter Tryz.func134, Tryz.ntmps134
  go_wp2
  go_ret
  exact ⟨rfl, World.grownBy.refl _ _⟩
theorem ritems_any (f : Nat) (hC : ∀ f', f' < f → CIm b g cap T f') (s : Gram.Rf.St) (w : World) (h : Rp w b g cap T s) (hf : (Gram.Rf.items T f [] s).isSome = true) :
  Calls Tryz.prog 104 #[.pointer (some ⟨b, 0, none⟩)] w fun e w' => rlPost itemD 88 12 w b g cap T (Gram.Rf.items T f [] s) e w' := by
 obtain ⟨it, hit, hz, hsz, hby⟩ := infoP info_Item
 have hbw := h.bl
 have HH := ld h
 clear h
 go_enter Tryz.func104, Tryz.ntmps104
 go_wp2
 go_loopg [3] f (fun (f' : Nat) (s5 : Value) (wr : World) => ∃ (acc : List Gram.Item) (s' : Gram.Rf.St), f' ≤ f ∧ acc.length ≤ 200 ∧ Hid (GrowD wr w.heap.size 88 12 (acc.map itemD) s5 ∧ Rp wr b g cap T s' ∧ w.grownBy wr (some b) ∧ Gram.Rf.items T f' acc s' = Gram.Rf.items T f [] s))
 case atStart => exact ⟨[], s, Nat.le_refl _, by simp, ld ⟨GrowD.nil _ _ _ _, HH.out, World.grownBy.refl _ _, rfl⟩⟩
 case round =>
  obtain ⟨acc, s', hff, ha16, HG⟩ := hrel
  obtain ⟨hA, hP, hg, hL⟩ := HG.out
  clear HG
  rcases Nat.eq_zero_or_pos gk with hz0 | hz0
  ·rw [hz0] at hL; rw [← hL] at hf; exact absurd hf (by simp [Gram.Rf.items])
  obtain ⟨f', hfe⟩ : ∃ f', gk = f' + 1 := ⟨gk - 1, by omega⟩
  subst hfe
  have hr : Gram.Rf.items T f [] s = if s'.e = 0 then (if Gram.Rf.begins T s' then (if 200 ≤ acc.length then some (acc, Gram.Rf.fail T 2 s') else Gram.Rf.bindS (Gram.Rf.item T f' s') fun x s => Gram.Rf.items T f' (acc ++ [x]) s) else some (acc, if acc.length = 0 then Gram.Rf.fail T 12 s' else s')) else some (acc, s') := by rw [← hL]; conv => lhs; unfold Gram.Rf.items
  rw [hr] at hf
  have HR := ld hr
  clear hr hL
  have p2 := hP.st.c2
  obtain ⟨xs, hown, hrow⟩ := hA
  rw [List.length_map] at hown
  have hlf := fun ty wx => len_Item hown ty wx
  have HA := ld (show GrowD wr w.heap.size 88 12 (acc.map itemD) u3 from ⟨xs, by rw [List.length_map]; exact hown, hrow⟩)
  clear hown hrow
  by_cases he : s'.e = 0
  ·have b0 : (s'.e != 0) = false := bne_t (by rw [beq_iff_eq]; exact he)
   have HE0 := ld he
   rw [if_pos he] at hf
   clear he
   have hbg := rbegins_any b g cap T s' wr hP
   generalize s'.e = e0 at p2 b0
   cases hq : Gram.Rf.begins T s' with
   | false =>
    rw [hq] at hbg
    clear hf
    by_cases hl0 : acc.length = 0
    ·have hfl := fun wx (hx : Rp wx b g cap T s') => rfail_any b g cap T s' 12 wx hx
     have hlb : (((acc.length : Nat) : Int) == 0) = true := by rw [beq_iff_eq]; omega
     go_wp2_with (first | (go_at_call 134; refine hbg.mono ?_; rintro e w1 ⟨rfl, hg1⟩) | (go_at_call 64; refine (hfl _ (hP.kept hg1)).mono ?_; rintro e w2 ⟨rfl, hP2, hg2⟩))
     go_ret
     rw [HR.out, if_pos HE0.out, hq, if_neg (by decide), if_pos hl0]
     exact ⟨_, rfl, (HA.out.kept0 hg1).keptB hg2 hbw, hP2, (hg.trans (grown_some hg1 b)).trans hg2⟩
    ·have hlb : (((acc.length : Nat) : Int) == 0) = false := by rw [beq_eq_false_iff_ne]; omega
     go_wp2_with (go_at_call 134; refine hbg.mono ?_; rintro e w1 ⟨rfl, hg1⟩)
     go_ret
     rw [HR.out, if_pos HE0.out, hq, if_neg (by decide), if_neg hl0]
     exact ⟨_, rfl, HA.out.kept0 hg1, hP.kept hg1, hg.trans (grown_some hg1 b)⟩
   | true =>
    rw [hq] at hbg
    rw [hq, if_pos rfl] at hf
    by_cases hm : 200 ≤ acc.length
    ·have hrm := fun wx (hx : Rp wx b g cap T s') => rfull_yes b g cap T s' (acc.length : Int) 200 (by omega) wx hx
     clear hf
     go_wp2_with (first | (go_at_call 134; refine hbg.mono ?_; rintro e w1 ⟨rfl, hg1⟩) | (go_at_call 65; refine (hrm _ (hP.kept hg1)).mono ?_; rintro e w2 ⟨rfl, hP2, hg2⟩))
     go_ret
     rw [HR.out, if_pos HE0.out, hq, if_pos rfl, if_pos hm]
     exact ⟨_, rfl, (HA.out.kept0 hg1).keptB hg2 hbw, hP2, (hg.trans (grown_some hg1 b)).trans hg2⟩
    ·rw [if_neg hm] at hf
     have hrm := fun wx => rfull_no b (acc.length : Int) 200 (by omega) wx
     have HM := ld hm
     clear hm
     cases hex : Gram.Rf.item T f' s' with
     | none => rw [hex] at hf; cases hf
     | some r =>
     obtain ⟨x, s2⟩ := r
     cases x with
     | mk ns ex ss at_ =>
     cases ex with
     | mk f1 s1 nm1 tk1 tl1 n1 m1 ks1 a1 =>
     have hc2 : ∀ wx, Rp wx b g cap T s' → Calls Tryz.prog 135 #[.pointer (some ⟨b, 0, none⟩)] wx fun e w' => ∃ p1 q1 r1 xa xn xc p3 q3 r3, e = .returned (.agg #[.slice p1 q1 r1, .int .i64 f1, .int .i64 s1, .string ⟨nm1.toArray⟩, .int .i64 tk1, .int .i64 tl1, .int .i64 n1, .int .i64 m1, .slice xa xn xc, .int .i64 a1, .slice p3 q3 r3, .int .i64 at_]) ∧ RepRow w' wx.heap.size [] (itemD (.mk ns (.mk f1 s1 nm1 tk1 tl1 n1 m1 ks1 a1) ss at_)) [.slice p1 q1 r1, .int .i64 f1, .int .i64 s1, .string ⟨nm1.toArray⟩, .int .i64 tk1, .int .i64 tl1, .int .i64 n1, .int .i64 m1, .slice xa xn xc, .int .i64 a1, .slice p3 q3 r3, .int .i64 at_] ∧ Rp w' b g cap T s2 ∧ wx.grownBy w' (some b) := by
      intro wx hx
      have h9 := hC f' (by omega) s' wx hx (by rw [hex]; rfl)
      simp only [hex, r1Post] at h9
      refine h9.mono ?_
      rintro e w' ⟨vs, rfl, hr, hP9, hg9⟩
      obtain ⟨p1, q1, r1, xa, xn, xc, p3, q3, r3, e9⟩ := itemInv hr
      subst e9
      exact ⟨p1, q1, r1, xa, xn, xc, p3, q3, r3, rfl, hr, hP9, hg9⟩
     have HE : Hid (Gram.Rf.items T f [] s = Gram.Rf.items T f' (acc ++ [(.mk ns (.mk f1 s1 nm1 tk1 tl1 n1 m1 ks1 a1) ss at_)]) s2) := by show _ = _; rw [HR.out, if_pos HE0.out, hq, if_pos rfl, if_neg HM.out, hex]; rfl
     clear HR hex hf
     go_wp2_with (first | (go_at_call 134; refine hbg.mono ?_; rintro e w1 ⟨rfl, hg1⟩) | (go_at_call 65; refine (hrm _).mono ?_; rintro e w8 ⟨rfl, hw8⟩; rw [hw8]; clear hw8) | (go_at_call 135; refine (hc2 _ (hP.kept hg1)).mono ?_; rintro e w2 ⟨p1, q1, r1, xa, xn, xc, p3, q3, r3, rfl, hk2, hP2, hg2⟩; refine Hid.out ?_))
     have hgA : wr.grownBy w2 (some b) := (grown_some hg1 b).trans hg2
     obtain ⟨xs2, ho2, hr2⟩ := GrowD.keptB HA.out hgA hbw
     rw [List.length_map] at ho2
     have hl16 := HM.out
     have hszw := hg.size
     have hszA := hgA.size
     have hsz1 := hg1.size
     refine ld ?_
     go_wp2_with (at_builtin; refine wpList_append_own_at _ rfl _ _ 42 rfl w.heap.size 88 it _ 12 152 Tryz.underlying42 hit hz hsz hby rfl (by decide) _ acc.length xs2 rfl (ho2.alloc _) ⟨w2.heap.size, 0, none⟩ 1 1 [.slice p1 q1 r1, .int .i64 f1, .int .i64 s1, .string ⟨nm1.toArray⟩, .int .i64 tk1, .int .i64 tl1, .int .i64 n1, .int .i64 m1, .slice xa xn xc, .int .i64 a1, .slice p3 q3 r3, .int .i64 at_] rfl rfl (cell_row_new w2 [.slice p1 q1 r1, .int .i64 f1, .int .i64 s1, .string ⟨nm1.toArray⟩, .int .i64 tk1, .int .i64 tl1, .int .i64 n1, .int .i64 m1, .slice xa xn xc, .int .i64 a1, .slice p3 q3 r3, .int .i64 at_] 88) (by simp [Value.oneCell']) ?_ ?_ ?_ ?_)
     ·unfold maxLen; omega
     ·omega
     ·simp only [World.size_alloc]; omega
     intro v' w3 hown' hgrow3 _ hvb
     have hG3 : GrowD w3 w.heap.size 88 12 (acc.map itemD ++ [itemD (.mk ns (.mk f1 s1 nm1 tk1 tl1 n1 m1 ks1 a1) ss at_)]) v' := growD_snoc hgrow3 (by rw [List.length_map]; exact hown') (RepRow.keptX (ga w2 _ none) (fun k e => by cases e) hr2) (RepRow.keptX (ga w2 _ none) (fun k e => by cases e) (RepRow.mono (by omega) (RepRow.toX u3.ownBlock.toList (fun k e => .inr (by have := HA.out.lt k e; omega)) hk2))) (by rw [World.size_alloc]; exact hvb)
     have hg3 : w.grownBy w3 (some b) := (galloc (hg.trans hgA) _).andThen hgrow3 (fun j e => .inl (ho2.lt j e).1)
     have hP3 : Rp w3 b g cap T s2 := HH.out.to hg3 ((hP2.st.kept (ga w2 _ none) (by simp)).kept hgrow3 (by intro e; have := ho2.lt b (by first | exact e | exact e.symm); omega)) hP2.lt
     have HG3 := ld hG3
     clear hG3 hown' hvb
     go_wp2
     go_roundg f'
     case measure => exact Nat.lt_succ_self _
     case rel => exact ⟨acc ++ [(.mk ns (.mk f1 s1 nm1 tk1 tl1 n1 m1 ks1 a1) ss at_)], s2, by omega, by simp; omega, ld ⟨by rw [List.map_append]; exact HG3.out, hP3, hg3, HE.out.symm⟩⟩
  ·have b0 : (s'.e != 0) = true := bne_f (by rw [beq_eq_false_iff_ne]; exact he)
   have HE0 := ld he
   clear he hf
   generalize s'.e = e0 at p2 b0
   go_wp2
   go_ret
   rw [HR.out, if_neg HE0.out]
   exact ⟨_, rfl, HA.out, hP, hg⟩
end
theorem rcells_2 {w : World} {q : Nat} {ty : TypeId} {x0 x1 : Value} (h : w.heap[q]? = some (.cells #[x0, x1] ty (0, 0))) : w.cell? ⟨q, 0, none⟩ = some x0 ∧ w.cell? ⟨q, 1, none⟩ = some x1 ∧ ∀ j, w.frozen? ⟨q, j, none⟩ = false := by
 refine ⟨?_, ?_, fun j => frozen_of_row w q j _ _ h⟩
 all_goals (rw [cell_of_row w q _ _ _ _ h]; simp)
theorem rcells_6 {w : World} {q : Nat} {ty : TypeId} {x0 x1 x2 x3 x4 x5 : Value} (h : w.heap[q]? = some (.cells #[x0, x1, x2, x3, x4, x5] ty (0, 0))) : w.cell? ⟨q, 0, none⟩ = some x0 ∧ w.cell? ⟨q, 1, none⟩ = some x1 ∧ w.cell? ⟨q, 2, none⟩ = some x2 ∧ w.cell? ⟨q, 3, none⟩ = some x3 ∧ w.cell? ⟨q, 4, none⟩ = some x4 ∧ w.cell? ⟨q, 5, none⟩ = some x5 ∧ ∀ j, w.frozen? ⟨q, j, none⟩ = false := by
 refine ⟨?_, ?_, ?_, ?_, ?_, ?_, fun j => frozen_of_row w q j _ _ h⟩
 all_goals (rw [cell_of_row w q _ _ _ _ h]; simp)
theorem rcells_12 {w : World} {q : Nat} {ty : TypeId} {x0 x1 x2 x3 x4 x5 x6 x7 x8 x9 x10 x11 : Value} (h : w.heap[q]? = some (.cells #[x0, x1, x2, x3, x4, x5, x6, x7, x8, x9, x10, x11] ty (0, 0))) : w.cell? ⟨q, 0, none⟩ = some x0 ∧ w.cell? ⟨q, 1, none⟩ = some x1 ∧ w.cell? ⟨q, 2, none⟩ = some x2 ∧ w.cell? ⟨q, 3, none⟩ = some x3 ∧ w.cell? ⟨q, 4, none⟩ = some x4 ∧ w.cell? ⟨q, 5, none⟩ = some x5 ∧ w.cell? ⟨q, 6, none⟩ = some x6 ∧ w.cell? ⟨q, 7, none⟩ = some x7 ∧ w.cell? ⟨q, 8, none⟩ = some x8 ∧ w.cell? ⟨q, 9, none⟩ = some x9 ∧ w.cell? ⟨q, 10, none⟩ = some x10 ∧ w.cell? ⟨q, 11, none⟩ = some x11 ∧ ∀ j, w.frozen? ⟨q, j, none⟩ = false := by
 refine ⟨?_, ?_, ?_, ?_, ?_, ?_, ?_, ?_, ?_, ?_, ?_, ?_, fun j => frozen_of_row w q j _ _ h⟩
 all_goals (rw [cell_of_row w q _ _ _ _ h]; simp)
structure Sr (w0 w : World) (b g cap : Nat) (T : List Lex.Tk) (q : Nat) (s : Gram.Rf.St) (ty : TypeId) (ds : List D) (cs : List Value) : Prop where
 p0 : ∃ s0, Rp w0 b g cap T s0
 pa : Rp w b g cap T s
 gr : w0.grownBy w (some b)
 lo : w0.heap.size ≤ q
 row : w.heap[q]? = some (.cells cs.toArray ty (0, 0))
 rep : ∃ B, w0.heap.size ≤ B ∧ RepRow w B [q] ds cs
section
variable {w0 w w' : World} {b g cap : Nat} {T : List Lex.Tk} {q r : Nat} {s s' : Gram.Rf.St} {ty : TypeId} {ds : List D} {cs : List Value}
theorem Sr.bl (h : Sr w0 w b g cap T q s ty ds cs) : b < w0.heap.size := by
 obtain ⟨i0, h0⟩ := h.p0
 exact h0.bl
theorem Sr.ql (h : Sr w0 w b g cap T q s ty ds cs) : q < w.heap.size := (Array.getElem?_eq_some_iff.1 h.row).1
theorem Sr.ne (h : Sr w0 w b g cap T q s ty ds cs) : q ≠ b := by have := h.bl; have := h.lo; omega
theorem Sr.make (p0 : ∃ s0, Rp w0 b g cap T s0) (pa : Rp w b g cap T s) (gr : w0.grownBy w (some b)) (lo : w0.heap.size ≤ q) (row : w.heap[q]? = some (.cells cs.toArray ty (0, 0))) (rep : RepRow w (q + 1) [] ds cs) : Sr w0 w b g cap T q s ty ds cs :=
 ⟨p0, pa, gr, lo, row, q + 1, by omega, RepRow.toX [q] (fun k e => .inr (by simp at e; omega)) rep⟩
theorem Sr.on (h : Sr w0 w b g cap T q s ty ds cs) (hg : w.grownBy w' (some b)) (hp : Rp w' b g cap T s') : Sr w0 w' b g cap T q s' ty ds cs := by
 obtain ⟨B, hB, hr⟩ := h.rep
 exact ⟨h.p0, hp, h.gr.trans hg, h.lo, (hg.block q h.ql (by have := h.ne; simpa using this)).trans h.row, B, hB, RepRow.keptX hg (fun k e => by cases e; left; have := h.bl; omega) hr⟩
theorem Sr.kept0 (h : Sr w0 w b g cap T q s ty ds cs) (hg : w.grownBy w' none) : Sr w0 w' b g cap T q s ty ds cs := h.on (grown_some hg b) (h.pa.kept hg)
theorem Sr.setG (h : Sr w0 w b g cap T q s ty ds cs) (k : Nat) {B' : Nat} (hB' : w0.heap.size ≤ B') {u : Value} {d' : D} (hu : RepC w B' [q] d' u) : Sr w0 (w.setCell ⟨q, k, none⟩ u) b g cap T q s ty (ds.set k d') (cs.set k u) := by
 obtain ⟨i0, h0⟩ := h.p0
 obtain ⟨B, hB, hr⟩ := h.rep
 have hg : w.grownBy (w.setCell ⟨q, k, none⟩ u) (some q) := grown_set w ⟨q, k, none⟩ u
 have hG : w0.grownBy (w.setCell ⟨q, k, none⟩ u) (some b) := h.gr.andThen hg (fun j e => .inl (by cases e; exact h.lo))
 refine ⟨h.p0, h0.to hG (h.pa.st.kept hg (by have := h.ne; simp only [ne_eq, Option.some.injEq]; omega)) h.pa.lt, hG, h.lo, ?_, min B B', by omega, ?_⟩
 ·rw [heap_setCell_same w q k _ _ u h.row]; simp
 ·exact RepRow.keptX hg (fun k e => by cases e; right; simp) ((RepRow.mono (Nat.min_le_left _ _) hr).set k (RepC.mono (Nat.min_le_right _ _) hu))
theorem Sr.set (h : Sr w0 w b g cap T q s ty ds cs) (k : Nat) {u : Value} {d' : D} (hu : RepC w (q + 1) [] d' u) : Sr w0 (w.setCell ⟨q, k, none⟩ u) b g cap T q s ty (ds.set k d') (cs.set k u) :=
 h.setG k (B' := q + 1) (by have := h.lo; omega) (RepC.toX [q] (fun k e => .inr (by simp at e; omega)) hu)
theorem Sr.ends (h : Sr w0 w b g cap T q s ty ds cs) (hg : w.grownBy w' (some r)) (hr : r < w0.heap.size) (hrb : r ≠ b) : RepRow w' r [] ds cs ∧ Rst w' b (.slice (some ⟨g, 0, none⟩) T.length cap) s := by
 obtain ⟨B, hB, hr9⟩ := h.rep
 exact ⟨RepRow.noX (RepRow.mono (by omega) (RepRow.keptX hg (fun k e => by cases e; left; omega) hr9)), h.pa.st.kept hg (by simp; omega)⟩
end
def setR {α : Type} : List α → Nat → List α → List α
 | l, _, [] => l
 | l, o, u :: r => setR (l.set o u) (o + 1) r
theorem Sr.setMany {w0 : World} {b g cap : Nat} {T : List Lex.Tk} {q : Nat} {s : Gram.Rf.St} {ty : TypeId} : ∀ {us : List Value} {es : List D} (o : Nat) {w : World} {ds : List D} {cs : List Value}, Sr w0 w b g cap T q s ty ds cs → RepRow w (q + 1) [] es us → Sr w0 (w.setCells q o us) b g cap T q s ty (setR ds o es) (setR cs o us)
 | _, _, _, _, _, _, h, .nil => h
 | _, _, o, w, _, _, h, .cons (v := u) a t => Sr.setMany (o + 1) (h.set o a) (RepRow.keptX (grown_set w ⟨q, o, none⟩ u) (fun k e => by cases e; left; exact Nat.lt_succ_self q) t)
theorem Sr.exp1 {w0 w : World} {b g cap : Nat} {T : List Lex.Tk} {q : Nat} {s : Gram.Rf.St} {ty : TypeId} {d0 d1 d2 d3 d4 d5 d6 d7 d8 d9 d10 d11 : D} {x0 x1 x2 x3 x4 x5 x6 x7 x8 x9 x10 x11 : Value} {e0 e1 e2 e3 e4 e5 e6 e7 e8 : D} {y0 y1 y2 y3 y4 y5 y6 y7 y8 : Value} (h : Sr w0 w b g cap T q s ty [d0, d1, d2, d3, d4, d5, d6, d7, d8, d9, d10, d11] [x0, x1, x2, x3, x4, x5, x6, x7, x8, x9, x10, x11]) (he : RepRow w (q + 1) [] [e0, e1, e2, e3, e4, e5, e6, e7, e8] [y0, y1, y2, y3, y4, y5, y6, y7, y8]) :
  Sr w0 (((((((((w.setCell ⟨q, 1, none⟩ (y0)).setCell ⟨q, 2, none⟩ (y1)).setCell ⟨q, 3, none⟩ (y2)).setCell ⟨q, 4, none⟩ (y3)).setCell ⟨q, 5, none⟩ (y4)).setCell ⟨q, 6, none⟩ (y5)).setCell ⟨q, 7, none⟩ (y6)).setCell ⟨q, 8, none⟩ (y7)).setCell ⟨q, 9, none⟩ (y8)) b g cap T q s ty [d0, e0, e1, e2, e3, e4, e5, e6, e7, e8, d10, d11] [x0, y0, y1, y2, y3, y4, y5, y6, y7, y8, x10, x11] := by
 have h9 := h.setMany 1 he
 simp only [World.setCells, setR, List.set, Nat.reduceAdd] at h9
 exact h9
section
variable (b g cap : Nat) (T : List Lex.Tk)
end
theorem flat_set {α : Type} (pre : List (List α)) (r : List α) (post : List (List α)) (c : Nat) (hc : c < r.length) (m : Nat) (hm : m = pre.flatten.length + c) (u : α) :
  (pre ++ r :: post).flatten.set m u = (pre ++ r.set c u :: post).flatten := by
 subst hm
 simp only [List.flatten_append, List.flatten_cons]
 rw [List.set_append, if_neg (by omega), Nat.add_sub_cancel_left, List.set_append, if_pos hc]
theorem vars_flat : ∀ l : List Gram.Var, (l.map varD).flatten.length = l.length * 5
 | [] => rfl
 | x :: r => by simp only [List.map_cons, List.flatten_cons, List.length_append, vars_flat r, List.length_cons]; simp [varD]; omega
theorem GrowD.put {w : World} {B : Nat} {e : TypeId} {sz g n cap : Nat} {rows rows' : List (List D)} (h : GrowD w B e sz rows (.slice (some ⟨g, 0, none⟩) n cap)) (j : Nat) {d' : D} {u : Value} (hu : RepC w B [g] d' u) (hl : rows'.length = rows.length) (hfl : rows'.flatten = rows.flatten.set j d') :
  GrowD (w.setCell ⟨g, j, none⟩ u) B e sz rows' (.slice (some ⟨g, 0, none⟩) n cap) := by
 obtain ⟨xs, ho, hx⟩ := h
 have hn : rows.length = n := by
  rcases ho.2 with ⟨h', _⟩ | ⟨g', cap', cur, h', _⟩
  ·simp at h'
  ·simp only [Value.slice.injEq] at h'; exact h'.2.1.symm
 rw [hn] at ho
 obtain ⟨h1, h2⟩ := ho.stored j u
 refine ⟨xs.set j u, by rw [hl, hn]; exact h1, ?_⟩
 rw [hfl]
 have hx2 : RepRow w B [g] rows.flatten xs := hx
 exact RepRow.keptX h2 (fun k e => .inr (by cases e; simp [Value.ownBlock])) (hx2.set j hu)
theorem GrowD.there {w : World} {B : Nat} {e : TypeId} {sz g n cap : Nat} {rows : List (List D)} (h : GrowD w B e sz rows (.slice (some ⟨g, 0, none⟩) n cap)) (j : Nat) (hj : j < rows.length * sz) : ∃ u, w.cell? ⟨g, j, none⟩ = some u := by
 obtain ⟨xs, ho, hx⟩ := h
 have hn : rows.length = n := by
  rcases ho.2 with ⟨h', _⟩ | ⟨g', cap', cur, h', _⟩
  ·simp at h'
  ·simp only [Value.slice.injEq] at h'; exact h'.2.1.symm
 have hl := ho.1
 rw [hn] at ho
 have h1 := owns_there ho j 1 (by omega) 0 (by omega)
 exact Option.isSome_iff_exists.1 h1.1
theorem GrowD.free {w : World} {B : Nat} {e : TypeId} {sz g n cap : Nat} {rows : List (List D)} (h : GrowD w B e sz rows (.slice (some ⟨g, 0, none⟩) n cap)) (j : Nat) : w.frozen? ⟨g, j, none⟩ = false := by
 obtain ⟨xs, ho, hx⟩ := h
 have hn : rows.length = n := by
  rcases ho.2 with ⟨h', _⟩ | ⟨g', cap', cur, h', _⟩
  ·simp at h'
  ·simp only [Value.slice.injEq] at h'; exact h'.2.1.symm
 rw [hn] at ho
 exact ho.frozenAt j
end Go.Proofs.YtbbamgjdnibldaaGreat
