/- My texts GsC GsD, joined. -/
import Derived.Test.YtachmiajldeakaaGreatDoorMgD
set_option linter.unusedVariables false
/- gram's form: a theorem for each word (made by mkform.py). -/
namespace Go.Proofs.YtachmiajldeakaaGreatDoor
open Go.RowKit Go.Maps Go.WideMaps

/-- a form that is made is an expression -/
theorem Fs.ends {w0 w w' : World} {b g cap : Nat} {rv : Value} {T : List Lex.Tk} {q i d c B p r : Nat} {PB : Obj} {x : Gram.Exp} {v : Value} (h : Fs w0 w b g cap rv T q i d c B p PB x v) (hg : w.grownBy w' (some r)) (hr : r < w0.heap.size) (hrb : r ≠ b) : Kids w' r x.kids v ∧ Pst w' b (.slice (some ⟨g, 0, none⟩) T.length cap) rv i d := by
  have h1 := h.lo
  have h2 := h.qB
  exact ⟨(h.gro.kids.kept hg (by omega)).mono (by omega), h.pa.st.kept hg (by simp; omega)⟩
theorem gBad.at0 {w w' : World} {b : Nat} {a er : Int} {e : Ending} {o : Obj} (h : gBad (w.alloc o) b a er e w') : gBad w b a er e w' := h.since (World.grownBy_alloc w o (some b))

section
variable (b g cap : Nat) (rv : Value) (T : List Lex.Tk) (d : Nat)

theorem cs_callf (f : Nat) (hC : ∀ f', f' < f → CExp b g cap rv T f') : CStep b g cap rv T d 180 (Gram.sCall T f d) := by
  cases f with
  | succ f => exact cs_call b g cap rv T d f (fun f' h => hC f' (by omega))
  | zero =>
    intro w0 w q i c B p PB x v hc50 h hf
    unfold Gram.sCall Gram.name Gram.need at hf ⊢
    rcases Bool.eq_false_or_eq_true (Gram.isName T i) with hs | hs
    · rw [if_pos hs, Gram.PR.ok_bind] at hf
      unfold Gram.args at hf
      cases hf
    · rw [if_neg (by rw [hs]; decide)]
      exact (gcall_no b g cap rv T d i q w h.pa hs).mono (fun e w' hb => hb.since h.gr)

theorem form_true (f i : Nat) (t : Lex.Tk) (htx : t.text = [116, 114, 117, 101]) : Gram.form T (f + 1) d t i = .ok (.mk 1 0 [] 1 0 1 0 [] t.at_) i := by
  unfold Gram.form
  dsimp only
  rw [if_pos htx]

set_option maxHeartbeats 1600000 in
set_option maxRecDepth 20000 in
theorem gform_true (f i : Nat) (hC : ∀ f', f' ≤ f → CExp b g cap rv T f') (w : World) (h : Pa w b g cap rv T i d) (htx : (Gram.tk T i).text = [116, 114, 117, 101]) (hf : (Gram.form T (f + 1) d (Gram.tk T i) (i + 1)).isFuel = false) :
    Calls Tryz.prog 146 #[.pointer (some ⟨b, 0, none⟩)] w fun e w' => ePost w b g cap rv T d (Gram.form T (f + 1) d (Gram.tk T i) (i + 1)) e w' := by
  have hbw := h.bl
  have hse : Gram.seesExp T i = true := by unfold Gram.seesExp; rw [htx]; rfl
  have hsee := gexp_sees b g cap rv T i d _ (h.alloc exp0)
  rw [hse] at hsee
  have hy := fun wx => gneed_yes b wx
  have hi := h.next (.inr (by rw [htx]; decide))
  have ht := fun wx (hx : (w.alloc exp0).grownBy wx none) => gtake_any b g cap rv T i d wx ((h.alloc exp0).kept hx) hi
  rw [form_true T d f (i + 1) (Gram.tk T i) htx] at hf ⊢
  have hxx : tokV (Gram.tk T i) = .agg #[.int .i64 (Gram.tk T i).kind, .string ⟨#[116, 114, 117, 101]⟩, .int .i64 (Gram.tk T i).n, .int .i64 (Gram.tk T i).t, .int .i64 0, .int .i64 ((Gram.tk T i).at_ : Int)] := by rw [← show (Gram.tk T i).text.toArray = #[116, 114, 117, 101] by rw [htx]]; rfl
  rw [hxx] at ht
  generalize Gram.tk T i = x at ht hf ⊢
  have hmf := makeFunc_run
  have HH := Lib.hid h
  clear h hxx htx hse
  go_enter Tryz.func146, Tryz.ntmps146
  go_wp2_with (first | (go_at_call 170; refine hsee.mono ?_; rintro e w1 ⟨rfl, hg1⟩) | (go_at_call 36; refine (hy _).mono ?_; rintro e w9 ⟨rfl, hw9⟩; rw [hw9]; clear hw9) | (go_at_call 120; refine (ht _ hg1).mono ?_; rintro e w2 ⟨rfl, hP2, hg2⟩; refine Hid.out ?_))
  have hgT : (w.alloc exp0).grownBy w2 (some b) := (grown_some hg1 b).trans hg2
  have hs2 := hgT.size
  rw [World.size_alloc] at hs2
  refine Lib.hid ?_
  go_wp2_with (with_reducible refine hold_st 2 ?_)
  obtain ⟨W, hW⟩ : ∃ W, W = (w2.alloc (.cells #[.int .i64 x.kind, .string ⟨#[116, 114, 117, 101]⟩, .int .i64 x.n, .int .i64 x.t, .int .i64 0, .int .i64 (x.at_ : Int)] 100)).alloc (.cells #[.int .i64 1, .int .i64 0, .string ⟨#[]⟩, .int .i64 1, .int .i64 0, .int .i64 1, .int .i64 0, .slice none 0 0, .int .i64 (x.at_ : Int)] 28) := ⟨_, rfl⟩
  rw [← hW]
  have hg5 : (w.alloc exp0).grownBy W (some b) := by rw [hW]; exact galloc (galloc hgT _) _
  have hP5 : Pa W b g cap rv T (i + 1) d := by rw [hW]; exact (hP2.alloc _).alloc _
  clear hW
  refine Lib.hid ?_
  refine wpList_store_gen rfl _ _ _ rfl w.heap.size _ rfl rfl 28 _ ((hg5.block w.heap.size (by simp) (by simp; omega)).trans (heap_alloc_new w exp0)) (by kernel_rfl) rfl (by simp [Value.oneCell']) ?_
  intro w7 hh7 hg7
  go_wp2
  (try simp only [Exit.inBlock, Exit.then])
  refine bodyPost_ret (results_cell_row rfl _ _ w.heap.size 28 _ (0, 0) _ rfl hh7 Tryz.underlying28 rfl (by kernel_rfl)) rfl ?_
  have hG : w.grownBy w7 (some b) := ((grown_some (World.grownBy_alloc w exp0 none) b).trans hg5).andThen hg7 (fun j e => .inl (by cases e; exact Nat.le_refl _))
  exact ⟨_, rfl, Kids.nil _ _, HH.out.to hG (hP5.st.kept hg7 (by simp; omega)) hP5.lt, hG⟩

theorem form_false (f i : Nat) (t : Lex.Tk) (htx : t.text = [102, 97, 108, 115, 101]) : Gram.form T (f + 1) d t i = .ok (.mk 1 0 [] 1 0 0 0 [] t.at_) i := by
  unfold Gram.form
  dsimp only
  rw [if_neg (by rw [htx]; decide)]
  rw [if_pos htx]

set_option maxHeartbeats 1600000 in
set_option maxRecDepth 20000 in
theorem gform_false (f i : Nat) (hC : ∀ f', f' ≤ f → CExp b g cap rv T f') (w : World) (h : Pa w b g cap rv T i d) (htx : (Gram.tk T i).text = [102, 97, 108, 115, 101]) (hf : (Gram.form T (f + 1) d (Gram.tk T i) (i + 1)).isFuel = false) :
    Calls Tryz.prog 146 #[.pointer (some ⟨b, 0, none⟩)] w fun e w' => ePost w b g cap rv T d (Gram.form T (f + 1) d (Gram.tk T i) (i + 1)) e w' := by
  have hbw := h.bl
  have hse : Gram.seesExp T i = true := by unfold Gram.seesExp; rw [htx]; rfl
  have hsee := gexp_sees b g cap rv T i d _ (h.alloc exp0)
  rw [hse] at hsee
  have hy := fun wx => gneed_yes b wx
  have hi := h.next (.inr (by rw [htx]; decide))
  have ht := fun wx (hx : (w.alloc exp0).grownBy wx none) => gtake_any b g cap rv T i d wx ((h.alloc exp0).kept hx) hi
  rw [form_false T d f (i + 1) (Gram.tk T i) htx] at hf ⊢
  have hxx : tokV (Gram.tk T i) = .agg #[.int .i64 (Gram.tk T i).kind, .string ⟨#[102, 97, 108, 115, 101]⟩, .int .i64 (Gram.tk T i).n, .int .i64 (Gram.tk T i).t, .int .i64 0, .int .i64 ((Gram.tk T i).at_ : Int)] := by rw [← show (Gram.tk T i).text.toArray = #[102, 97, 108, 115, 101] by rw [htx]]; rfl
  rw [hxx] at ht
  generalize Gram.tk T i = x at ht hf ⊢
  have hmf := makeFunc_run
  have HH := Lib.hid h
  clear h hxx htx hse
  go_enter Tryz.func146, Tryz.ntmps146
  go_wp2_with (first | (go_at_call 170; refine hsee.mono ?_; rintro e w1 ⟨rfl, hg1⟩) | (go_at_call 36; refine (hy _).mono ?_; rintro e w9 ⟨rfl, hw9⟩; rw [hw9]; clear hw9) | (go_at_call 120; refine (ht _ hg1).mono ?_; rintro e w2 ⟨rfl, hP2, hg2⟩; refine Hid.out ?_))
  have hgT : (w.alloc exp0).grownBy w2 (some b) := (grown_some hg1 b).trans hg2
  have hs2 := hgT.size
  rw [World.size_alloc] at hs2
  refine Lib.hid ?_
  go_wp2_with (with_reducible refine hold_st 2 ?_)
  obtain ⟨W, hW⟩ : ∃ W, W = (w2.alloc (.cells #[.int .i64 x.kind, .string ⟨#[102, 97, 108, 115, 101]⟩, .int .i64 x.n, .int .i64 x.t, .int .i64 0, .int .i64 (x.at_ : Int)] 100)).alloc (.cells #[.int .i64 1, .int .i64 0, .string ⟨#[]⟩, .int .i64 1, .int .i64 0, .int .i64 0, .int .i64 0, .slice none 0 0, .int .i64 (x.at_ : Int)] 28) := ⟨_, rfl⟩
  rw [← hW]
  have hg5 : (w.alloc exp0).grownBy W (some b) := by rw [hW]; exact galloc (galloc hgT _) _
  have hP5 : Pa W b g cap rv T (i + 1) d := by rw [hW]; exact (hP2.alloc _).alloc _
  clear hW
  refine Lib.hid ?_
  refine wpList_store_gen rfl _ _ _ rfl w.heap.size _ rfl rfl 28 _ ((hg5.block w.heap.size (by simp) (by simp; omega)).trans (heap_alloc_new w exp0)) (by kernel_rfl) rfl (by simp [Value.oneCell']) ?_
  intro w7 hh7 hg7
  go_wp2
  (try simp only [Exit.inBlock, Exit.then])
  refine bodyPost_ret (results_cell_row rfl _ _ w.heap.size 28 _ (0, 0) _ rfl hh7 Tryz.underlying28 rfl (by kernel_rfl)) rfl ?_
  have hG : w.grownBy w7 (some b) := ((grown_some (World.grownBy_alloc w exp0 none) b).trans hg5).andThen hg7 (fun j e => .inl (by cases e; exact Nat.le_refl _))
  exact ⟨_, rfl, Kids.nil _ _, HH.out.to hG (hP5.st.kept hg7 (by simp; omega)) hP5.lt, hG⟩

theorem form_arr (f i : Nat) (t : Lex.Tk) (htx : t.text = [91]) : Gram.form T (f + 1) d t i = (Gram.exps T f d [] i).bind fun l j => (Gram.expect T j [93]).bind fun _ k => .ok (.mk 15 0 [] 0 0 0 0 l t.at_) k := by
  unfold Gram.form
  dsimp only
  rw [if_neg (by rw [htx]; decide)]
  rw [if_neg (by rw [htx]; decide)]
  rw [if_pos htx]

set_option maxHeartbeats 1600000 in
set_option maxRecDepth 20000 in
theorem gform_arr (f i : Nat) (hC : ∀ f', f' ≤ f → CExp b g cap rv T f') (w : World) (h : Pa w b g cap rv T i d) (htx : (Gram.tk T i).text = [91]) (hf : (Gram.form T (f + 1) d (Gram.tk T i) (i + 1)).isFuel = false) :
    Calls Tryz.prog 146 #[.pointer (some ⟨b, 0, none⟩)] w fun e w' => ePost w b g cap rv T d (Gram.form T (f + 1) d (Gram.tk T i) (i + 1)) e w' := by
  have hbw := h.bl
  have hse : Gram.seesExp T i = true := by unfold Gram.seesExp; rw [htx]; rfl
  have hsee := gexp_sees b g cap rv T i d _ (h.alloc exp0)
  rw [hse] at hsee
  have hy := fun wx => gneed_yes b wx
  have hi := h.next (.inr (by rw [htx]; decide))
  have ht := fun wx (hx : (w.alloc exp0).grownBy wx none) => gtake_any b g cap rv T i d wx ((h.alloc exp0).kept hx) hi
  rw [form_arr T d f (i + 1) (Gram.tk T i) htx] at hf ⊢
  have hxx : tokV (Gram.tk T i) = .agg #[.int .i64 (Gram.tk T i).kind, .string ⟨#[91]⟩, .int .i64 (Gram.tk T i).n, .int .i64 (Gram.tk T i).t, .int .i64 0, .int .i64 ((Gram.tk T i).at_ : Int)] := by rw [← show (Gram.tk T i).text.toArray = #[91] by rw [htx]]; rfl
  rw [hxx] at ht
  generalize Gram.tk T i = x at ht hf ⊢
  obtain ⟨R, hR⟩ : ∃ R, R = (Gram.exps T f d [] (i + 1)).bind fun l j => (Gram.expect T j [93]).bind fun _ k => Gram.PR.ok (Gram.Exp.mk 15 0 [] 0 0 0 0 l x.at_) k := ⟨_, rfl⟩
  rw [← hR] at hf ⊢
  have HR := Lib.hid hR
  clear hR
  have hmf := makeFunc_run
  have HH := Lib.hid h
  clear h hxx htx hse
  go_enter Tryz.func146, Tryz.ntmps146
  go_wp2_with (first | (go_at_call 170; refine hsee.mono ?_; rintro e w1 ⟨rfl, hg1⟩) | (go_at_call 36; refine (hy _).mono ?_; rintro e w9 ⟨rfl, hw9⟩; rw [hw9]; clear hw9) | (go_at_call 120; refine (ht _ hg1).mono ?_; rintro e w2 ⟨rfl, hP2, hg2⟩; refine Hid.out ?_))
  have hgT : (w.alloc exp0).grownBy w2 (some b) := (grown_some hg1 b).trans hg2
  have hs2 := hgT.size
  rw [World.size_alloc] at hs2
  have hX := gexps_any b g cap rv T f (fun f' h => hC f' (Nat.le_of_lt h)) d (i + 1) _ ((hP2.alloc (.cells #[.int .i64 x.kind, .string ⟨#[91]⟩, .int .i64 x.n, .int .i64 x.t, .int .i64 0, .int .i64 (x.at_ : Int)] 100)).alloc (.cells #[.int .i64 0, .int .i64 0, .string ⟨#[]⟩, .int .i64 0, .int .i64 0, .int .i64 0, .int .i64 0, .slice none 0 0, .int .i64 (x.at_ : Int)] 28)) (by rw [HR.out] at hf; exact Gram.PR.bind_fuel hf)
  cases hr : Gram.exps T f d [] (i + 1) with
  | fuel => rw [HR.out, hr] at hf; cases hf
  | bad a er =>
    rw [hr] at hX
    simp only [xsPost] at hX
    refine Lib.hid ?_
    go_wp2_with (first | (go_at_call 172; refine hX.mono ?_; rintro e w5 ⟨rfl, hg5⟩))
    refine ⟨rfl, ?_⟩
    rw [HR.out, hr]
    exact ⟨rfl, (grown_some (World.grownBy_alloc w exp0 none) b).trans ((galloc (galloc hgT _) _).trans hg5)⟩
  | ok l j =>
  rw [hr] at hX
  simp only [xsPost] at hX
  refine Lib.hid ?_
  go_wp2_with (first | (go_at_call 172; refine hX.mono ?_; rintro e w4 ⟨v, rfl, hk4, hP4, hg4⟩; refine Hid.out ?_))
  obtain ⟨ka, kn, kc, rfl⟩ := hk4.form
  have hs4 := hg4.size
  simp only [World.size_alloc] at hs4 hk4
  have hq4 := (hg4.block (w2.heap.size + 1) (by simp) (by simp; omega)).trans (heap_alloc2_new w2 _ _)
  obtain ⟨y0, y1, y2, y3, y4, y5, y6, y7, y8, yf⟩ := Nc.of hq4
  have hq5 := heap_setCell_same _ _ 7 _ _ (.slice ka kn kc) (heap_setCell_same _ _ 0 _ _ (.int .i64 15) hq4)
  have hg5 : w4.grownBy ((w4.setCell ⟨w2.heap.size + 1, 0, none⟩ (.int .i64 15)).setCell ⟨w2.heap.size + 1, 7, none⟩ (.slice ka kn kc)) (some (w2.heap.size + 1)) := World.grownBy.trans (grown_set _ ⟨w2.heap.size + 1, 0, none⟩ _) (grown_set _ ⟨w2.heap.size + 1, 7, none⟩ _)
  have hgA : (w.alloc exp0).grownBy ((w4.setCell ⟨w2.heap.size + 1, 0, none⟩ (.int .i64 15)).setCell ⟨w2.heap.size + 1, 7, none⟩ (.slice ka kn kc)) (some b) := ((galloc (galloc hgT _) _).trans hg4).andThen hg5 (fun j e => .inl (by cases e; simp; omega))
  have hPA : Pa ((w4.setCell ⟨w2.heap.size + 1, 0, none⟩ (.int .i64 15)).setCell ⟨w2.heap.size + 1, 7, none⟩ (.slice ka kn kc)) b g cap rv T j d := (HH.out.alloc exp0).to hgA (hP4.st.kept hg5 (by simp; omega)) hP4.lt
  have hFA : Fs (w.alloc exp0) ((w4.setCell ⟨w2.heap.size + 1, 0, none⟩ (.int .i64 15)).setCell ⟨w2.heap.size + 1, 7, none⟩ (.slice ka kn kc)) b g cap rv T (w2.heap.size + 1) j d 1 (w2.heap.size + 1 + 1) w2.heap.size (.cells #[.int .i64 x.kind, .string ⟨#[91]⟩, .int .i64 x.n, .int .i64 x.t, .int .i64 0, .int .i64 (x.at_ : Int)] 100) (.mk 15 0 [] 0 0 0 0 l x.at_) (.slice ka kn kc) :=
    ⟨⟨i, HH.out.alloc exp0⟩, hPA, hgA, by simp; omega, hq5, by omega, by omega, by omega, by omega, by simp; omega, (hg5.block w2.heap.size (by omega) (by simp)).trans ((hg4.block w2.heap.size (by simp; omega) (by simp; omega)).trans (heap_alloc2_old w2 _ _)), hk4.keptB hg5 (by omega), by have := Gram.exps_len T d f [] (i + 1) l j hr; simp only [Gram.Exp.kids]; omega⟩
  have HRR0 : Hid (R = (Gram.expect T j [93]).bind fun _ k => Gram.PR.ok (Gram.Exp.mk 15 0 [] 0 0 0 0 l x.at_) k) := by show _ = _; rw [HR.out, hr]; rfl
  have HFA := Lib.hid hFA
  clear hFA hX hr hf HR
  rcases Bool.eq_false_or_eq_true (Gram.sees T j [93]) with s1 | s1
  case inr =>
    have hN := gexpect_no b g cap rv T j d ⟨#[93]⟩ _ hPA s1
    refine Lib.hid ?_
    go_wp2_with (first | (go_at_call 77; refine hN.mono ?_; rintro e w5 ⟨rfl, hg9⟩))
    refine ⟨rfl, ?_⟩
    rw [HRR0.out, Gram.expect_no s1]
    exact ⟨rfl, (grown_some (World.grownBy_alloc w exp0 none) b).trans (hgA.trans hg9)⟩
  have hN := gexpect_yes b g cap rv T j d ⟨#[93]⟩ _ hPA s1 (hPA.nextSees s1 (by decide))
  have HRR : Hid (R = Gram.PR.ok (Gram.Exp.mk 15 0 [] 0 0 0 0 l x.at_) (j + 1)) := by show _ = _; rw [HRR0.out, Gram.expect_yes s1]; rfl
  clear HRR0
  refine Lib.hid ?_
  go_wp2_with (first | (go_at_call 77; refine hN.mono ?_; rintro e w5 ⟨rfl, hP5, hg9⟩; refine Hid.out ?_))
  have hF := HFA.out.on hg9 hP5
  have e5 := hF.row
  obtain ⟨z0, z1, z2, z3, z4, z5, z6, z7, z8, zf⟩ := Nc.of (show w5.heap[w2.heap.size + 1]? = some (.cells #[.int .i64 15, .int .i64 0, .string ⟨#[]⟩, .int .i64 0, .int .i64 0, .int .i64 0, .int .i64 0, .slice ka kn kc, .int .i64 (x.at_ : Int)] 28 (0, 0)) from hF.row)
  have hg5 := hF.gr
  have HF := Lib.hid hF
  clear hF
  refine Lib.hid ?_
  go_wp2_with (with_reducible refine hold_st 2 ?_)
  refine Lib.hid ?_
  refine wpList_store_gen rfl _ _ _ rfl w.heap.size _ rfl rfl 28 _ ((hg5.block w.heap.size (by simp) (by simp; omega)).trans (heap_alloc_new w exp0)) (by kernel_rfl) rfl (by simp [Value.oneCell']) ?_
  intro w7 hh7 hg7
  go_wp2
  (try simp only [Exit.inBlock, Exit.then])
  refine bodyPost_ret (results_cell_row rfl _ _ w.heap.size 28 _ (0, 0) _ rfl hh7 Tryz.underlying28 rfl (by kernel_rfl)) rfl ?_
  have hG : w.grownBy w7 (some b) := ((grown_some (World.grownBy_alloc w exp0 none) b).trans hg5).andThen hg7 (fun j e => .inl (by cases e; exact Nat.le_refl _))
  obtain ⟨hk, hs⟩ := HF.out.ends hg7 (by simp) (by omega)
  rw [HRR.out]
  exact ⟨_, rfl, hk, HH.out.to hG hs HF.out.pa.lt, hG⟩

theorem form_if (f i : Nat) (t : Lex.Tk) (htx : t.text = [105, 102]) : Gram.form T (f + 1) d t i = Gram.sChoice T f d (.mk 5 0 [] 0 0 0 0 [] t.at_) i := by
  unfold Gram.form
  dsimp only
  rw [if_neg (by rw [htx]; decide)]
  rw [if_neg (by rw [htx]; decide)]
  rw [if_neg (by rw [htx]; decide)]
  rw [if_pos htx]
  simp only [Gram.sChoice, Gram.sKid, Gram.PR.bind_assoc, Gram.PR.ok_bind, Gram.Exp.setKids, Gram.Exp.kids, List.nil_append, List.cons_append]

set_option maxHeartbeats 1600000 in
set_option maxRecDepth 20000 in
theorem gform_if (f i : Nat) (hC : ∀ f', f' ≤ f → CExp b g cap rv T f') (w : World) (h : Pa w b g cap rv T i d) (htx : (Gram.tk T i).text = [105, 102]) (hf : (Gram.form T (f + 1) d (Gram.tk T i) (i + 1)).isFuel = false) :
    Calls Tryz.prog 146 #[.pointer (some ⟨b, 0, none⟩)] w fun e w' => ePost w b g cap rv T d (Gram.form T (f + 1) d (Gram.tk T i) (i + 1)) e w' := by
  have hbw := h.bl
  have hse : Gram.seesExp T i = true := by unfold Gram.seesExp; rw [htx]; rfl
  have hsee := gexp_sees b g cap rv T i d _ (h.alloc exp0)
  rw [hse] at hsee
  have hy := fun wx => gneed_yes b wx
  have hi := h.next (.inr (by rw [htx]; decide))
  have ht := fun wx (hx : (w.alloc exp0).grownBy wx none) => gtake_any b g cap rv T i d wx ((h.alloc exp0).kept hx) hi
  rw [form_if T d f (i + 1) (Gram.tk T i) htx] at hf ⊢
  have hxx : tokV (Gram.tk T i) = .agg #[.int .i64 (Gram.tk T i).kind, .string ⟨#[105, 102]⟩, .int .i64 (Gram.tk T i).n, .int .i64 (Gram.tk T i).t, .int .i64 0, .int .i64 ((Gram.tk T i).at_ : Int)] := by rw [← show (Gram.tk T i).text.toArray = #[105, 102] by rw [htx]]; rfl
  rw [hxx] at ht
  generalize Gram.tk T i = x at ht hf ⊢
  obtain ⟨R, hR⟩ : ∃ R, R = Gram.sChoice T f d (.mk 5 0 [] 0 0 0 0 [] x.at_) (i + 1) := ⟨_, rfl⟩
  have hf9 := hf
  rw [← hR] at hf ⊢
  have hmf := makeFunc_run
  have HH := Lib.hid h
  clear h hxx htx hse
  go_enter Tryz.func146, Tryz.ntmps146
  go_wp2_with (first | (go_at_call 170; refine hsee.mono ?_; rintro e w1 ⟨rfl, hg1⟩) | (go_at_call 36; refine (hy _).mono ?_; rintro e w9 ⟨rfl, hw9⟩; rw [hw9]; clear hw9) | (go_at_call 120; refine (ht _ hg1).mono ?_; rintro e w2 ⟨rfl, hP2, hg2⟩; refine Hid.out ?_))
  have hgT : (w.alloc exp0).grownBy w2 (some b) := (grown_some hg1 b).trans hg2
  have hs2 := hgT.size
  rw [World.size_alloc] at hs2
  have hF0 : Fs (w.alloc exp0) ((w2.alloc (.cells #[.int .i64 x.kind, .string ⟨#[105, 102]⟩, .int .i64 x.n, .int .i64 x.t, .int .i64 0, .int .i64 (x.at_ : Int)] 100)).alloc (.cells #[.int .i64 5, .int .i64 0, .string ⟨#[]⟩, .int .i64 0, .int .i64 0, .int .i64 0, .int .i64 0, .slice none 0 0, .int .i64 (x.at_ : Int)] 28)) b g cap rv T (w2.heap.size + 1) (i + 1) d 0 (w2.heap.size + 1 + 1) w2.heap.size (.cells #[.int .i64 x.kind, .string ⟨#[105, 102]⟩, .int .i64 x.n, .int .i64 x.t, .int .i64 0, .int .i64 (x.at_ : Int)] 100) (.mk 5 0 [] 0 0 0 0 [] x.at_) (.slice none 0 0) :=
    ⟨⟨i, HH.out.alloc exp0⟩, (hP2.alloc _).alloc _, galloc (galloc hgT _) _, by simp; omega, heap_alloc2_new w2 _ _, by omega, by omega, by omega, by omega, by simp, heap_alloc2_old w2 _ _, Growing.nil _ _, by simp [Gram.Exp.kids]⟩
  have hcall : Calls Tryz.prog 173 #[.pointer (some ⟨b, 0, none⟩), .pointer (some ⟨w2.heap.size + 1, 0, none⟩)] ((w2.alloc (.cells #[.int .i64 x.kind, .string ⟨#[105, 102]⟩, .int .i64 x.n, .int .i64 x.t, .int .i64 0, .int .i64 (x.at_ : Int)] 100)).alloc (.cells #[.int .i64 5, .int .i64 0, .string ⟨#[]⟩, .int .i64 0, .int .i64 0, .int .i64 0, .int .i64 0, .slice none 0 0, .int .i64 (x.at_ : Int)] 28)) fun e w' => fPost (w.alloc exp0) b g cap rv T (w2.heap.size + 1) d (0 + 3) (w2.heap.size + 1 + 1) w2.heap.size (.cells #[.int .i64 x.kind, .string ⟨#[105, 102]⟩, .int .i64 x.n, .int .i64 x.t, .int .i64 0, .int .i64 (x.at_ : Int)] 100) R e w' := by
    rw [hR]
    exact gchoice_any b g cap rv T d f (hC f (Nat.le_refl _)) _ _ _ _ _ _ _ _ _ _ (by omega) hF0 hf9
  clear hR hf9 hF0
  cases R with
  | fuel => cases hf
  | bad a er =>
    simp only [fPost] at hcall
    refine Lib.hid ?_
    go_wp2_with (first | (go_at_call 173; refine hcall.mono ?_; intro e w5 hb; obtain ⟨rfl, hg5⟩ := hb.at0))
    exact ⟨rfl, rfl, hg5⟩
  | ok y j =>
  cases y with
  | mk f1 s1 nm1 tk1 tl1 n1 m1 ks1 a1 =>
  simp only [fPost] at hcall
  refine Lib.hid ?_
  go_wp2_with (first | (go_at_call 173; refine hcall.mono ?_; rintro e w5 ⟨rfl, v, hF⟩; refine Hid.out ?_))
  obtain ⟨z0, z1, z2, z3, z4, z5, z6, z7, z8, zf⟩ := Nc.of (show w5.heap[w2.heap.size + 1]? = some (.cells #[.int .i64 f1, .int .i64 s1, .string ⟨nm1.toArray⟩, .int .i64 tk1, .int .i64 tl1, .int .i64 n1, .int .i64 m1, v, .int .i64 a1] 28 (0, 0)) from hF.row)
  obtain ⟨ka, kn, kc, rfl⟩ := hF.gro.form
  have hg5 := hF.gr
  have HF := Lib.hid hF
  clear hF
  refine Lib.hid ?_
  go_wp2_with (with_reducible refine hold_st 2 ?_)
  refine Lib.hid ?_
  refine wpList_store_gen rfl _ _ _ rfl w.heap.size _ rfl rfl 28 _ ((hg5.block w.heap.size (by simp) (by simp; omega)).trans (heap_alloc_new w exp0)) (by kernel_rfl) rfl (by simp [Value.oneCell']) ?_
  intro w7 hh7 hg7
  go_wp2
  (try simp only [Exit.inBlock, Exit.then])
  refine bodyPost_ret (results_cell_row rfl _ _ w.heap.size 28 _ (0, 0) _ rfl hh7 Tryz.underlying28 rfl (by kernel_rfl)) rfl ?_
  have hG : w.grownBy w7 (some b) := ((grown_some (World.grownBy_alloc w exp0 none) b).trans hg5).andThen hg7 (fun j e => .inl (by cases e; exact Nat.le_refl _))
  obtain ⟨hk, hs⟩ := HF.out.ends hg7 (by simp) (by omega)
  exact ⟨_, rfl, hk, HH.out.to hG hs HF.out.pa.lt, hG⟩
end

end Go.Proofs.YtachmiajldeakaaGreatDoor

/- gram's form, on (made by mkform.py). -/
namespace Go.Proofs.YtachmiajldeakaaGreatDoor
open Go.RowKit Go.Maps Go.WideMaps

section
variable (b g cap : Nat) (rv : Value) (T : List Lex.Tk) (d : Nat)

theorem form_when (f i : Nat) (t : Lex.Tk) (htx : t.text = [119, 104, 101, 110]) : Gram.form T (f + 1) d t i = Gram.parts T [Gram.sKid T f d, Gram.sEdge T] [40] (.mk 9 0 [] 0 0 0 0 [] t.at_) i := by
  unfold Gram.form
  dsimp only
  rw [if_neg (by rw [htx]; decide)]
  rw [if_neg (by rw [htx]; decide)]
  rw [if_neg (by rw [htx]; decide)]
  rw [if_neg (by rw [htx]; decide)]
  rw [if_pos htx]
  simp only [Gram.parts, Gram.sKid, Gram.sEdge, Gram.PR.bind_assoc, Gram.PR.ok_bind, Gram.Exp.setKids, Gram.Exp.setName, Gram.Exp.setN, Gram.Exp.kids, Gram.Exp.n, List.nil_append]

set_option maxHeartbeats 1600000 in
set_option maxRecDepth 20000 in
theorem gform_when (f i : Nat) (hC : ∀ f', f' ≤ f → CExp b g cap rv T f') (w : World) (h : Pa w b g cap rv T i d) (htx : (Gram.tk T i).text = [119, 104, 101, 110]) (hf : (Gram.form T (f + 1) d (Gram.tk T i) (i + 1)).isFuel = false) :
    Calls Tryz.prog 146 #[.pointer (some ⟨b, 0, none⟩)] w fun e w' => ePost w b g cap rv T d (Gram.form T (f + 1) d (Gram.tk T i) (i + 1)) e w' := by
  have hbw := h.bl
  have hse : Gram.seesExp T i = true := by unfold Gram.seesExp; rw [htx]; rfl
  have hsee := gexp_sees b g cap rv T i d _ (h.alloc exp0)
  rw [hse] at hsee
  have hy := fun wx => gneed_yes b wx
  have hi := h.next (.inr (by rw [htx]; decide))
  have ht := fun wx (hx : (w.alloc exp0).grownBy wx none) => gtake_any b g cap rv T i d wx ((h.alloc exp0).kept hx) hi
  rw [form_when T d f (i + 1) (Gram.tk T i) htx] at hf ⊢
  have hxx : tokV (Gram.tk T i) = .agg #[.int .i64 (Gram.tk T i).kind, .string ⟨#[119, 104, 101, 110]⟩, .int .i64 (Gram.tk T i).n, .int .i64 (Gram.tk T i).t, .int .i64 0, .int .i64 ((Gram.tk T i).at_ : Int)] := by rw [← show (Gram.tk T i).text.toArray = #[119, 104, 101, 110] by rw [htx]]; rfl
  rw [hxx] at ht
  generalize Gram.tk T i = x at ht hf ⊢
  obtain ⟨R, hR⟩ : ∃ R, R = Gram.parts T [Gram.sKid T f d, Gram.sEdge T] [40] (.mk 9 0 [] 0 0 0 0 [] x.at_) (i + 1) := ⟨_, rfl⟩
  have hf9 := hf
  rw [← hR] at hf ⊢
  have hmf := makeFunc_run
  have HH := Lib.hid h
  clear h hxx htx hse
  go_enter Tryz.func146, Tryz.ntmps146
  go_wp2_with (first | (go_at_call 170; refine hsee.mono ?_; rintro e w1 ⟨rfl, hg1⟩) | (go_at_call 36; refine (hy _).mono ?_; rintro e w9 ⟨rfl, hw9⟩; rw [hw9]; clear hw9) | (go_at_call 120; refine (ht _ hg1).mono ?_; rintro e w2 ⟨rfl, hP2, hg2⟩; refine Hid.out ?_))
  have hgT : (w.alloc exp0).grownBy w2 (some b) := (grown_some hg1 b).trans hg2
  have hs2 := hgT.size
  rw [World.size_alloc] at hs2
  have hF0 : Fs (w.alloc exp0) (((w2.alloc (.cells #[.int .i64 x.kind, .string ⟨#[119, 104, 101, 110]⟩, .int .i64 x.n, .int .i64 x.t, .int .i64 0, .int .i64 (x.at_ : Int)] 100)).alloc (.cells #[.int .i64 9, .int .i64 0, .string ⟨#[]⟩, .int .i64 0, .int .i64 0, .int .i64 0, .int .i64 0, .slice none 0 0, .int .i64 (x.at_ : Int)] 28)).alloc (.cells #[.func (.func 175) #[.pointer (some ⟨b, 0, none⟩)] #[], .func (.func 176) #[.pointer (some ⟨b, 0, none⟩)] #[]] 234)) b g cap rv T (w2.heap.size + 1) (i + 1) d 0 (w2.heap.size + 1 + 1 + 1) (w2.heap.size + 1 + 1) (partB b ([(175, Gram.sKid T f d), (176, Gram.sEdge T)].map (·.1))) (.mk 9 0 [] 0 0 0 0 [] x.at_) (.slice none 0 0) :=
    ⟨⟨i, HH.out.alloc exp0⟩, ((hP2.alloc _).alloc _).alloc _, galloc (galloc (galloc hgT _) _) _, by simp; omega, (heap_alloc_old _ _ (by simp)).trans (heap_alloc2_new w2 _ _), by omega, by omega, by omega, by omega, by simp, by
      have e := heap_alloc_new ((w2.alloc (.cells #[.int .i64 x.kind, .string ⟨#[119, 104, 101, 110]⟩, .int .i64 x.n, .int .i64 x.t, .int .i64 0, .int .i64 (x.at_ : Int)] 100)).alloc (.cells #[.int .i64 9, .int .i64 0, .string ⟨#[]⟩, .int .i64 0, .int .i64 0, .int .i64 0, .int .i64 0, .slice none 0 0, .int .i64 (x.at_ : Int)] 28)) (.cells #[.func (.func 175) #[.pointer (some ⟨b, 0, none⟩)] #[], .func (.func 176) #[.pointer (some ⟨b, 0, none⟩)] #[]] 234)
      rw [World.size_alloc, World.size_alloc] at e
      exact e, Growing.nil _ _, by simp [Gram.Exp.kids]⟩
  have hcall : Calls Tryz.prog 174 #[.pointer (some ⟨b, 0, none⟩), .pointer (some ⟨w2.heap.size + 1, 0, none⟩), .slice (some ⟨w2.heap.size + 1 + 1, 0, none⟩) 2 2] (((w2.alloc (.cells #[.int .i64 x.kind, .string ⟨#[119, 104, 101, 110]⟩, .int .i64 x.n, .int .i64 x.t, .int .i64 0, .int .i64 (x.at_ : Int)] 100)).alloc (.cells #[.int .i64 9, .int .i64 0, .string ⟨#[]⟩, .int .i64 0, .int .i64 0, .int .i64 0, .int .i64 0, .slice none 0 0, .int .i64 (x.at_ : Int)] 28)).alloc (.cells #[.func (.func 175) #[.pointer (some ⟨b, 0, none⟩)] #[], .func (.func 176) #[.pointer (some ⟨b, 0, none⟩)] #[]] 234)) fun e w' => fPost (w.alloc exp0) b g cap rv T (w2.heap.size + 1) d (0 + 2) (w2.heap.size + 1 + 1 + 1) (w2.heap.size + 1 + 1) (partB b ([(175, Gram.sKid T f d), (176, Gram.sEdge T)].map (·.1))) R e w' := by
    rw [hR]
    refine gparts_any b g cap rv T d [(175, Gram.sKid T f d), (176, Gram.sEdge T)] ?_ ?_ _ _ _ _ _ _ _ _ _ (by simp) hF0 hf9
    · intro n hn
      simp only [List.mem_cons, List.not_mem_nil, or_false] at hn
      rcases hn with rfl | rfl
      · exact cs_kid b g cap rv T d f (hC f (Nat.le_refl _))
      · exact cs_edgeOf b g cap rv T d
    · intro n hn
      simp only [List.mem_cons, List.not_mem_nil, or_false] at hn
      rcases hn with rfl | rfl
      · exact fun args wx => genters Tryz.func175 (by kernel_rfl) rfl args wx
      · exact fun args wx => genters Tryz.func176 (by kernel_rfl) rfl args wx
  clear hR hf9 hF0
  cases R with
  | fuel => cases hf
  | bad a er =>
    simp only [fPost] at hcall
    refine Lib.hid ?_
    go_wp2_with (first | (go_at_call 174; refine hcall.mono ?_; intro e w5 hb; obtain ⟨rfl, hg5⟩ := hb.at0))
    exact ⟨rfl, rfl, hg5⟩
  | ok y j =>
  cases y with
  | mk f1 s1 nm1 tk1 tl1 n1 m1 ks1 a1 =>
  simp only [fPost] at hcall
  refine Lib.hid ?_
  go_wp2_with (first | (go_at_call 174; refine hcall.mono ?_; rintro e w5 ⟨rfl, v, hF⟩; refine Hid.out ?_))
  obtain ⟨z0, z1, z2, z3, z4, z5, z6, z7, z8, zf⟩ := Nc.of (show w5.heap[w2.heap.size + 1]? = some (.cells #[.int .i64 f1, .int .i64 s1, .string ⟨nm1.toArray⟩, .int .i64 tk1, .int .i64 tl1, .int .i64 n1, .int .i64 m1, v, .int .i64 a1] 28 (0, 0)) from hF.row)
  obtain ⟨ka, kn, kc, rfl⟩ := hF.gro.form
  have hg5 := hF.gr
  have HF := Lib.hid hF
  clear hF
  refine Lib.hid ?_
  go_wp2_with (with_reducible refine hold_st 2 ?_)
  refine Lib.hid ?_
  refine wpList_store_gen rfl _ _ _ rfl w.heap.size _ rfl rfl 28 _ ((hg5.block w.heap.size (by simp) (by simp; omega)).trans (heap_alloc_new w exp0)) (by kernel_rfl) rfl (by simp [Value.oneCell']) ?_
  intro w7 hh7 hg7
  go_wp2
  (try simp only [Exit.inBlock, Exit.then])
  refine bodyPost_ret (results_cell_row rfl _ _ w.heap.size 28 _ (0, 0) _ rfl hh7 Tryz.underlying28 rfl (by kernel_rfl)) rfl ?_
  have hG : w.grownBy w7 (some b) := ((grown_some (World.grownBy_alloc w exp0 none) b).trans hg5).andThen hg7 (fun j e => .inl (by cases e; exact Nat.le_refl _))
  obtain ⟨hk, hs⟩ := HF.out.ends hg7 (by simp) (by omega)
  exact ⟨_, rfl, hk, HH.out.to hG hs HF.out.pa.lt, hG⟩

theorem form_cast (f i : Nat) (t : Lex.Tk) (htx : t.text = [99, 97, 115, 116]) : Gram.form T (f + 1) d t i = Gram.parts T [Gram.sKind T, Gram.sKid T f d] [40] (.mk 11 0 [] 0 0 0 0 [] t.at_) i := by
  unfold Gram.form
  dsimp only
  rw [if_neg (by rw [htx]; decide)]
  rw [if_neg (by rw [htx]; decide)]
  rw [if_neg (by rw [htx]; decide)]
  rw [if_neg (by rw [htx]; decide)]
  rw [if_neg (by rw [htx]; decide)]
  rw [if_pos htx]
  simp only [Gram.parts, Gram.sKid, Gram.sKind, Gram.PR.bind_assoc, Gram.PR.ok_bind, Gram.Exp.setKids, Gram.Exp.setTk, Gram.Exp.kids, List.nil_append]

set_option maxHeartbeats 1600000 in
set_option maxRecDepth 20000 in
theorem gform_cast (f i : Nat) (hC : ∀ f', f' ≤ f → CExp b g cap rv T f') (w : World) (h : Pa w b g cap rv T i d) (htx : (Gram.tk T i).text = [99, 97, 115, 116]) (hf : (Gram.form T (f + 1) d (Gram.tk T i) (i + 1)).isFuel = false) :
    Calls Tryz.prog 146 #[.pointer (some ⟨b, 0, none⟩)] w fun e w' => ePost w b g cap rv T d (Gram.form T (f + 1) d (Gram.tk T i) (i + 1)) e w' := by
  have hbw := h.bl
  have hse : Gram.seesExp T i = true := by unfold Gram.seesExp; rw [htx]; rfl
  have hsee := gexp_sees b g cap rv T i d _ (h.alloc exp0)
  rw [hse] at hsee
  have hy := fun wx => gneed_yes b wx
  have hi := h.next (.inr (by rw [htx]; decide))
  have ht := fun wx (hx : (w.alloc exp0).grownBy wx none) => gtake_any b g cap rv T i d wx ((h.alloc exp0).kept hx) hi
  rw [form_cast T d f (i + 1) (Gram.tk T i) htx] at hf ⊢
  have hxx : tokV (Gram.tk T i) = .agg #[.int .i64 (Gram.tk T i).kind, .string ⟨#[99, 97, 115, 116]⟩, .int .i64 (Gram.tk T i).n, .int .i64 (Gram.tk T i).t, .int .i64 0, .int .i64 ((Gram.tk T i).at_ : Int)] := by rw [← show (Gram.tk T i).text.toArray = #[99, 97, 115, 116] by rw [htx]]; rfl
  rw [hxx] at ht
  generalize Gram.tk T i = x at ht hf ⊢
  obtain ⟨R, hR⟩ : ∃ R, R = Gram.parts T [Gram.sKind T, Gram.sKid T f d] [40] (.mk 11 0 [] 0 0 0 0 [] x.at_) (i + 1) := ⟨_, rfl⟩
  have hf9 := hf
  rw [← hR] at hf ⊢
  have hmf := makeFunc_run
  have HH := Lib.hid h
  clear h hxx htx hse
  go_enter Tryz.func146, Tryz.ntmps146
  go_wp2_with (first | (go_at_call 170; refine hsee.mono ?_; rintro e w1 ⟨rfl, hg1⟩) | (go_at_call 36; refine (hy _).mono ?_; rintro e w9 ⟨rfl, hw9⟩; rw [hw9]; clear hw9) | (go_at_call 120; refine (ht _ hg1).mono ?_; rintro e w2 ⟨rfl, hP2, hg2⟩; refine Hid.out ?_))
  have hgT : (w.alloc exp0).grownBy w2 (some b) := (grown_some hg1 b).trans hg2
  have hs2 := hgT.size
  rw [World.size_alloc] at hs2
  have hF0 : Fs (w.alloc exp0) (((w2.alloc (.cells #[.int .i64 x.kind, .string ⟨#[99, 97, 115, 116]⟩, .int .i64 x.n, .int .i64 x.t, .int .i64 0, .int .i64 (x.at_ : Int)] 100)).alloc (.cells #[.int .i64 11, .int .i64 0, .string ⟨#[]⟩, .int .i64 0, .int .i64 0, .int .i64 0, .int .i64 0, .slice none 0 0, .int .i64 (x.at_ : Int)] 28)).alloc (.cells #[.func (.func 177) #[.pointer (some ⟨b, 0, none⟩)] #[], .func (.func 175) #[.pointer (some ⟨b, 0, none⟩)] #[]] 234)) b g cap rv T (w2.heap.size + 1) (i + 1) d 0 (w2.heap.size + 1 + 1 + 1) (w2.heap.size + 1 + 1) (partB b ([(177, Gram.sKind T), (175, Gram.sKid T f d)].map (·.1))) (.mk 11 0 [] 0 0 0 0 [] x.at_) (.slice none 0 0) :=
    ⟨⟨i, HH.out.alloc exp0⟩, ((hP2.alloc _).alloc _).alloc _, galloc (galloc (galloc hgT _) _) _, by simp; omega, (heap_alloc_old _ _ (by simp)).trans (heap_alloc2_new w2 _ _), by omega, by omega, by omega, by omega, by simp, by
      have e := heap_alloc_new ((w2.alloc (.cells #[.int .i64 x.kind, .string ⟨#[99, 97, 115, 116]⟩, .int .i64 x.n, .int .i64 x.t, .int .i64 0, .int .i64 (x.at_ : Int)] 100)).alloc (.cells #[.int .i64 11, .int .i64 0, .string ⟨#[]⟩, .int .i64 0, .int .i64 0, .int .i64 0, .int .i64 0, .slice none 0 0, .int .i64 (x.at_ : Int)] 28)) (.cells #[.func (.func 177) #[.pointer (some ⟨b, 0, none⟩)] #[], .func (.func 175) #[.pointer (some ⟨b, 0, none⟩)] #[]] 234)
      rw [World.size_alloc, World.size_alloc] at e
      exact e, Growing.nil _ _, by simp [Gram.Exp.kids]⟩
  have hcall : Calls Tryz.prog 174 #[.pointer (some ⟨b, 0, none⟩), .pointer (some ⟨w2.heap.size + 1, 0, none⟩), .slice (some ⟨w2.heap.size + 1 + 1, 0, none⟩) 2 2] (((w2.alloc (.cells #[.int .i64 x.kind, .string ⟨#[99, 97, 115, 116]⟩, .int .i64 x.n, .int .i64 x.t, .int .i64 0, .int .i64 (x.at_ : Int)] 100)).alloc (.cells #[.int .i64 11, .int .i64 0, .string ⟨#[]⟩, .int .i64 0, .int .i64 0, .int .i64 0, .int .i64 0, .slice none 0 0, .int .i64 (x.at_ : Int)] 28)).alloc (.cells #[.func (.func 177) #[.pointer (some ⟨b, 0, none⟩)] #[], .func (.func 175) #[.pointer (some ⟨b, 0, none⟩)] #[]] 234)) fun e w' => fPost (w.alloc exp0) b g cap rv T (w2.heap.size + 1) d (0 + 2) (w2.heap.size + 1 + 1 + 1) (w2.heap.size + 1 + 1) (partB b ([(177, Gram.sKind T), (175, Gram.sKid T f d)].map (·.1))) R e w' := by
    rw [hR]
    refine gparts_any b g cap rv T d [(177, Gram.sKind T), (175, Gram.sKid T f d)] ?_ ?_ _ _ _ _ _ _ _ _ _ (by simp) hF0 hf9
    · intro n hn
      simp only [List.mem_cons, List.not_mem_nil, or_false] at hn
      rcases hn with rfl | rfl
      · exact cs_kindTo b g cap rv T d
      · exact cs_kid b g cap rv T d f (hC f (Nat.le_refl _))
    · intro n hn
      simp only [List.mem_cons, List.not_mem_nil, or_false] at hn
      rcases hn with rfl | rfl
      · exact fun args wx => genters Tryz.func177 (by kernel_rfl) rfl args wx
      · exact fun args wx => genters Tryz.func175 (by kernel_rfl) rfl args wx
  clear hR hf9 hF0
  cases R with
  | fuel => cases hf
  | bad a er =>
    simp only [fPost] at hcall
    refine Lib.hid ?_
    go_wp2_with (first | (go_at_call 174; refine hcall.mono ?_; intro e w5 hb; obtain ⟨rfl, hg5⟩ := hb.at0))
    exact ⟨rfl, rfl, hg5⟩
  | ok y j =>
  cases y with
  | mk f1 s1 nm1 tk1 tl1 n1 m1 ks1 a1 =>
  simp only [fPost] at hcall
  refine Lib.hid ?_
  go_wp2_with (first | (go_at_call 174; refine hcall.mono ?_; rintro e w5 ⟨rfl, v, hF⟩; refine Hid.out ?_))
  obtain ⟨z0, z1, z2, z3, z4, z5, z6, z7, z8, zf⟩ := Nc.of (show w5.heap[w2.heap.size + 1]? = some (.cells #[.int .i64 f1, .int .i64 s1, .string ⟨nm1.toArray⟩, .int .i64 tk1, .int .i64 tl1, .int .i64 n1, .int .i64 m1, v, .int .i64 a1] 28 (0, 0)) from hF.row)
  obtain ⟨ka, kn, kc, rfl⟩ := hF.gro.form
  have hg5 := hF.gr
  have HF := Lib.hid hF
  clear hF
  refine Lib.hid ?_
  go_wp2_with (with_reducible refine hold_st 2 ?_)
  refine Lib.hid ?_
  refine wpList_store_gen rfl _ _ _ rfl w.heap.size _ rfl rfl 28 _ ((hg5.block w.heap.size (by simp) (by simp; omega)).trans (heap_alloc_new w exp0)) (by kernel_rfl) rfl (by simp [Value.oneCell']) ?_
  intro w7 hh7 hg7
  go_wp2
  (try simp only [Exit.inBlock, Exit.then])
  refine bodyPost_ret (results_cell_row rfl _ _ w.heap.size 28 _ (0, 0) _ rfl hh7 Tryz.underlying28 rfl (by kernel_rfl)) rfl ?_
  have hG : w.grownBy w7 (some b) := ((grown_some (World.grownBy_alloc w exp0 none) b).trans hg5).andThen hg7 (fun j e => .inl (by cases e; exact Nat.le_refl _))
  obtain ⟨hk, hs⟩ := HF.out.ends hg7 (by simp) (by omega)
  exact ⟨_, rfl, hk, HH.out.to hG hs HF.out.pa.lt, hG⟩

theorem form_tick (f i : Nat) (t : Lex.Tk) (htx : t.text = [116, 105, 99, 107]) : Gram.form T (f + 1) d t i = Gram.parts T [Gram.sSizeN T, Gram.sSizeM T] [40] (.mk 12 0 [] 0 0 0 0 [] t.at_) i := by
  unfold Gram.form
  dsimp only
  rw [if_neg (by rw [htx]; decide)]
  rw [if_neg (by rw [htx]; decide)]
  rw [if_neg (by rw [htx]; decide)]
  rw [if_neg (by rw [htx]; decide)]
  rw [if_neg (by rw [htx]; decide)]
  rw [if_neg (by rw [htx]; decide)]
  rw [if_pos htx]
  simp only [Gram.parts, Gram.sSizeN, Gram.sSizeM, Gram.PR.bind_assoc, Gram.PR.ok_bind, Gram.Exp.setN, Gram.Exp.setM]

set_option maxHeartbeats 1600000 in
set_option maxRecDepth 20000 in
theorem gform_tick (f i : Nat) (hC : ∀ f', f' ≤ f → CExp b g cap rv T f') (w : World) (h : Pa w b g cap rv T i d) (htx : (Gram.tk T i).text = [116, 105, 99, 107]) (hf : (Gram.form T (f + 1) d (Gram.tk T i) (i + 1)).isFuel = false) :
    Calls Tryz.prog 146 #[.pointer (some ⟨b, 0, none⟩)] w fun e w' => ePost w b g cap rv T d (Gram.form T (f + 1) d (Gram.tk T i) (i + 1)) e w' := by
  have hbw := h.bl
  have hse : Gram.seesExp T i = true := by unfold Gram.seesExp; rw [htx]; rfl
  have hsee := gexp_sees b g cap rv T i d _ (h.alloc exp0)
  rw [hse] at hsee
  have hy := fun wx => gneed_yes b wx
  have hi := h.next (.inr (by rw [htx]; decide))
  have ht := fun wx (hx : (w.alloc exp0).grownBy wx none) => gtake_any b g cap rv T i d wx ((h.alloc exp0).kept hx) hi
  rw [form_tick T d f (i + 1) (Gram.tk T i) htx] at hf ⊢
  have hxx : tokV (Gram.tk T i) = .agg #[.int .i64 (Gram.tk T i).kind, .string ⟨#[116, 105, 99, 107]⟩, .int .i64 (Gram.tk T i).n, .int .i64 (Gram.tk T i).t, .int .i64 0, .int .i64 ((Gram.tk T i).at_ : Int)] := by rw [← show (Gram.tk T i).text.toArray = #[116, 105, 99, 107] by rw [htx]]; rfl
  rw [hxx] at ht
  generalize Gram.tk T i = x at ht hf ⊢
  obtain ⟨R, hR⟩ : ∃ R, R = Gram.parts T [Gram.sSizeN T, Gram.sSizeM T] [40] (.mk 12 0 [] 0 0 0 0 [] x.at_) (i + 1) := ⟨_, rfl⟩
  have hf9 := hf
  rw [← hR] at hf ⊢
  have hmf := makeFunc_run
  have HH := Lib.hid h
  clear h hxx htx hse
  go_enter Tryz.func146, Tryz.ntmps146
  go_wp2_with (first | (go_at_call 170; refine hsee.mono ?_; rintro e w1 ⟨rfl, hg1⟩) | (go_at_call 36; refine (hy _).mono ?_; rintro e w9 ⟨rfl, hw9⟩; rw [hw9]; clear hw9) | (go_at_call 120; refine (ht _ hg1).mono ?_; rintro e w2 ⟨rfl, hP2, hg2⟩; refine Hid.out ?_))
  have hgT : (w.alloc exp0).grownBy w2 (some b) := (grown_some hg1 b).trans hg2
  have hs2 := hgT.size
  rw [World.size_alloc] at hs2
  have hF0 : Fs (w.alloc exp0) (((w2.alloc (.cells #[.int .i64 x.kind, .string ⟨#[116, 105, 99, 107]⟩, .int .i64 x.n, .int .i64 x.t, .int .i64 0, .int .i64 (x.at_ : Int)] 100)).alloc (.cells #[.int .i64 12, .int .i64 0, .string ⟨#[]⟩, .int .i64 0, .int .i64 0, .int .i64 0, .int .i64 0, .slice none 0 0, .int .i64 (x.at_ : Int)] 28)).alloc (.cells #[.func (.func 178) #[.pointer (some ⟨b, 0, none⟩)] #[], .func (.func 179) #[.pointer (some ⟨b, 0, none⟩)] #[]] 234)) b g cap rv T (w2.heap.size + 1) (i + 1) d 0 (w2.heap.size + 1 + 1 + 1) (w2.heap.size + 1 + 1) (partB b ([(178, Gram.sSizeN T), (179, Gram.sSizeM T)].map (·.1))) (.mk 12 0 [] 0 0 0 0 [] x.at_) (.slice none 0 0) :=
    ⟨⟨i, HH.out.alloc exp0⟩, ((hP2.alloc _).alloc _).alloc _, galloc (galloc (galloc hgT _) _) _, by simp; omega, (heap_alloc_old _ _ (by simp)).trans (heap_alloc2_new w2 _ _), by omega, by omega, by omega, by omega, by simp, by
      have e := heap_alloc_new ((w2.alloc (.cells #[.int .i64 x.kind, .string ⟨#[116, 105, 99, 107]⟩, .int .i64 x.n, .int .i64 x.t, .int .i64 0, .int .i64 (x.at_ : Int)] 100)).alloc (.cells #[.int .i64 12, .int .i64 0, .string ⟨#[]⟩, .int .i64 0, .int .i64 0, .int .i64 0, .int .i64 0, .slice none 0 0, .int .i64 (x.at_ : Int)] 28)) (.cells #[.func (.func 178) #[.pointer (some ⟨b, 0, none⟩)] #[], .func (.func 179) #[.pointer (some ⟨b, 0, none⟩)] #[]] 234)
      rw [World.size_alloc, World.size_alloc] at e
      exact e, Growing.nil _ _, by simp [Gram.Exp.kids]⟩
  have hcall : Calls Tryz.prog 174 #[.pointer (some ⟨b, 0, none⟩), .pointer (some ⟨w2.heap.size + 1, 0, none⟩), .slice (some ⟨w2.heap.size + 1 + 1, 0, none⟩) 2 2] (((w2.alloc (.cells #[.int .i64 x.kind, .string ⟨#[116, 105, 99, 107]⟩, .int .i64 x.n, .int .i64 x.t, .int .i64 0, .int .i64 (x.at_ : Int)] 100)).alloc (.cells #[.int .i64 12, .int .i64 0, .string ⟨#[]⟩, .int .i64 0, .int .i64 0, .int .i64 0, .int .i64 0, .slice none 0 0, .int .i64 (x.at_ : Int)] 28)).alloc (.cells #[.func (.func 178) #[.pointer (some ⟨b, 0, none⟩)] #[], .func (.func 179) #[.pointer (some ⟨b, 0, none⟩)] #[]] 234)) fun e w' => fPost (w.alloc exp0) b g cap rv T (w2.heap.size + 1) d (0 + 2) (w2.heap.size + 1 + 1 + 1) (w2.heap.size + 1 + 1) (partB b ([(178, Gram.sSizeN T), (179, Gram.sSizeM T)].map (·.1))) R e w' := by
    rw [hR]
    refine gparts_any b g cap rv T d [(178, Gram.sSizeN T), (179, Gram.sSizeM T)] ?_ ?_ _ _ _ _ _ _ _ _ _ (by simp) hF0 hf9
    · intro n hn
      simp only [List.mem_cons, List.not_mem_nil, or_false] at hn
      rcases hn with rfl | rfl
      · exact cs_sizeN b g cap rv T d
      · exact cs_sizeM b g cap rv T d
    · intro n hn
      simp only [List.mem_cons, List.not_mem_nil, or_false] at hn
      rcases hn with rfl | rfl
      · exact fun args wx => genters Tryz.func178 (by kernel_rfl) rfl args wx
      · exact fun args wx => genters Tryz.func179 (by kernel_rfl) rfl args wx
  clear hR hf9 hF0
  cases R with
  | fuel => cases hf
  | bad a er =>
    simp only [fPost] at hcall
    refine Lib.hid ?_
    go_wp2_with (first | (go_at_call 174; refine hcall.mono ?_; intro e w5 hb; obtain ⟨rfl, hg5⟩ := hb.at0))
    exact ⟨rfl, rfl, hg5⟩
  | ok y j =>
  cases y with
  | mk f1 s1 nm1 tk1 tl1 n1 m1 ks1 a1 =>
  simp only [fPost] at hcall
  refine Lib.hid ?_
  go_wp2_with (first | (go_at_call 174; refine hcall.mono ?_; rintro e w5 ⟨rfl, v, hF⟩; refine Hid.out ?_))
  obtain ⟨z0, z1, z2, z3, z4, z5, z6, z7, z8, zf⟩ := Nc.of (show w5.heap[w2.heap.size + 1]? = some (.cells #[.int .i64 f1, .int .i64 s1, .string ⟨nm1.toArray⟩, .int .i64 tk1, .int .i64 tl1, .int .i64 n1, .int .i64 m1, v, .int .i64 a1] 28 (0, 0)) from hF.row)
  obtain ⟨ka, kn, kc, rfl⟩ := hF.gro.form
  have hg5 := hF.gr
  have HF := Lib.hid hF
  clear hF
  refine Lib.hid ?_
  go_wp2_with (with_reducible refine hold_st 2 ?_)
  refine Lib.hid ?_
  refine wpList_store_gen rfl _ _ _ rfl w.heap.size _ rfl rfl 28 _ ((hg5.block w.heap.size (by simp) (by simp; omega)).trans (heap_alloc_new w exp0)) (by kernel_rfl) rfl (by simp [Value.oneCell']) ?_
  intro w7 hh7 hg7
  go_wp2
  (try simp only [Exit.inBlock, Exit.then])
  refine bodyPost_ret (results_cell_row rfl _ _ w.heap.size 28 _ (0, 0) _ rfl hh7 Tryz.underlying28 rfl (by kernel_rfl)) rfl ?_
  have hG : w.grownBy w7 (some b) := ((grown_some (World.grownBy_alloc w exp0 none) b).trans hg5).andThen hg7 (fun j e => .inl (by cases e; exact Nat.le_refl _))
  obtain ⟨hk, hs⟩ := HF.out.ends hg7 (by simp) (by omega)
  exact ⟨_, rfl, hk, HH.out.to hG hs HF.out.pa.lt, hG⟩

theorem form_reset (f i : Nat) (t : Lex.Tk) (htx : t.text = [114, 101, 115, 101, 116]) : Gram.form T (f + 1) d t i = Gram.parts T [Gram.sCall T f d, Gram.sKid T f d] [40] (.mk 14 0 [] 0 0 0 0 [] t.at_) i := by
  unfold Gram.form
  dsimp only
  rw [if_neg (by rw [htx]; decide)]
  rw [if_neg (by rw [htx]; decide)]
  rw [if_neg (by rw [htx]; decide)]
  rw [if_neg (by rw [htx]; decide)]
  rw [if_neg (by rw [htx]; decide)]
  rw [if_neg (by rw [htx]; decide)]
  rw [if_neg (by rw [htx]; decide)]
  rw [if_pos htx]
  simp only [Gram.parts, Gram.sKid, Gram.sCall, Gram.PR.bind_assoc, Gram.PR.ok_bind, Gram.Exp.setKids, Gram.Exp.setName, Gram.Exp.kids]

set_option maxHeartbeats 1600000 in
set_option maxRecDepth 20000 in
theorem gform_reset (f i : Nat) (hC : ∀ f', f' ≤ f → CExp b g cap rv T f') (w : World) (h : Pa w b g cap rv T i d) (htx : (Gram.tk T i).text = [114, 101, 115, 101, 116]) (hf : (Gram.form T (f + 1) d (Gram.tk T i) (i + 1)).isFuel = false) :
    Calls Tryz.prog 146 #[.pointer (some ⟨b, 0, none⟩)] w fun e w' => ePost w b g cap rv T d (Gram.form T (f + 1) d (Gram.tk T i) (i + 1)) e w' := by
  have hbw := h.bl
  have hse : Gram.seesExp T i = true := by unfold Gram.seesExp; rw [htx]; rfl
  have hsee := gexp_sees b g cap rv T i d _ (h.alloc exp0)
  rw [hse] at hsee
  have hy := fun wx => gneed_yes b wx
  have hi := h.next (.inr (by rw [htx]; decide))
  have ht := fun wx (hx : (w.alloc exp0).grownBy wx none) => gtake_any b g cap rv T i d wx ((h.alloc exp0).kept hx) hi
  rw [form_reset T d f (i + 1) (Gram.tk T i) htx] at hf ⊢
  have hxx : tokV (Gram.tk T i) = .agg #[.int .i64 (Gram.tk T i).kind, .string ⟨#[114, 101, 115, 101, 116]⟩, .int .i64 (Gram.tk T i).n, .int .i64 (Gram.tk T i).t, .int .i64 0, .int .i64 ((Gram.tk T i).at_ : Int)] := by rw [← show (Gram.tk T i).text.toArray = #[114, 101, 115, 101, 116] by rw [htx]]; rfl
  rw [hxx] at ht
  generalize Gram.tk T i = x at ht hf ⊢
  obtain ⟨R, hR⟩ : ∃ R, R = Gram.parts T [Gram.sCall T f d, Gram.sKid T f d] [40] (.mk 14 0 [] 0 0 0 0 [] x.at_) (i + 1) := ⟨_, rfl⟩
  have hf9 := hf
  rw [← hR] at hf ⊢
  have hmf := makeFunc_run
  have HH := Lib.hid h
  clear h hxx htx hse
  go_enter Tryz.func146, Tryz.ntmps146
  go_wp2_with (first | (go_at_call 170; refine hsee.mono ?_; rintro e w1 ⟨rfl, hg1⟩) | (go_at_call 36; refine (hy _).mono ?_; rintro e w9 ⟨rfl, hw9⟩; rw [hw9]; clear hw9) | (go_at_call 120; refine (ht _ hg1).mono ?_; rintro e w2 ⟨rfl, hP2, hg2⟩; refine Hid.out ?_))
  have hgT : (w.alloc exp0).grownBy w2 (some b) := (grown_some hg1 b).trans hg2
  have hs2 := hgT.size
  rw [World.size_alloc] at hs2
  have hF0 : Fs (w.alloc exp0) (((w2.alloc (.cells #[.int .i64 x.kind, .string ⟨#[114, 101, 115, 101, 116]⟩, .int .i64 x.n, .int .i64 x.t, .int .i64 0, .int .i64 (x.at_ : Int)] 100)).alloc (.cells #[.int .i64 14, .int .i64 0, .string ⟨#[]⟩, .int .i64 0, .int .i64 0, .int .i64 0, .int .i64 0, .slice none 0 0, .int .i64 (x.at_ : Int)] 28)).alloc (.cells #[.func (.func 180) #[.pointer (some ⟨b, 0, none⟩)] #[], .func (.func 175) #[.pointer (some ⟨b, 0, none⟩)] #[]] 234)) b g cap rv T (w2.heap.size + 1) (i + 1) d 0 (w2.heap.size + 1 + 1 + 1) (w2.heap.size + 1 + 1) (partB b ([(180, Gram.sCall T f d), (175, Gram.sKid T f d)].map (·.1))) (.mk 14 0 [] 0 0 0 0 [] x.at_) (.slice none 0 0) :=
    ⟨⟨i, HH.out.alloc exp0⟩, ((hP2.alloc _).alloc _).alloc _, galloc (galloc (galloc hgT _) _) _, by simp; omega, (heap_alloc_old _ _ (by simp)).trans (heap_alloc2_new w2 _ _), by omega, by omega, by omega, by omega, by simp, by
      have e := heap_alloc_new ((w2.alloc (.cells #[.int .i64 x.kind, .string ⟨#[114, 101, 115, 101, 116]⟩, .int .i64 x.n, .int .i64 x.t, .int .i64 0, .int .i64 (x.at_ : Int)] 100)).alloc (.cells #[.int .i64 14, .int .i64 0, .string ⟨#[]⟩, .int .i64 0, .int .i64 0, .int .i64 0, .int .i64 0, .slice none 0 0, .int .i64 (x.at_ : Int)] 28)) (.cells #[.func (.func 180) #[.pointer (some ⟨b, 0, none⟩)] #[], .func (.func 175) #[.pointer (some ⟨b, 0, none⟩)] #[]] 234)
      rw [World.size_alloc, World.size_alloc] at e
      exact e, Growing.nil _ _, by simp [Gram.Exp.kids]⟩
  have hcall : Calls Tryz.prog 174 #[.pointer (some ⟨b, 0, none⟩), .pointer (some ⟨w2.heap.size + 1, 0, none⟩), .slice (some ⟨w2.heap.size + 1 + 1, 0, none⟩) 2 2] (((w2.alloc (.cells #[.int .i64 x.kind, .string ⟨#[114, 101, 115, 101, 116]⟩, .int .i64 x.n, .int .i64 x.t, .int .i64 0, .int .i64 (x.at_ : Int)] 100)).alloc (.cells #[.int .i64 14, .int .i64 0, .string ⟨#[]⟩, .int .i64 0, .int .i64 0, .int .i64 0, .int .i64 0, .slice none 0 0, .int .i64 (x.at_ : Int)] 28)).alloc (.cells #[.func (.func 180) #[.pointer (some ⟨b, 0, none⟩)] #[], .func (.func 175) #[.pointer (some ⟨b, 0, none⟩)] #[]] 234)) fun e w' => fPost (w.alloc exp0) b g cap rv T (w2.heap.size + 1) d (0 + 2) (w2.heap.size + 1 + 1 + 1) (w2.heap.size + 1 + 1) (partB b ([(180, Gram.sCall T f d), (175, Gram.sKid T f d)].map (·.1))) R e w' := by
    rw [hR]
    refine gparts_any b g cap rv T d [(180, Gram.sCall T f d), (175, Gram.sKid T f d)] ?_ ?_ _ _ _ _ _ _ _ _ _ (by simp) hF0 hf9
    · intro n hn
      simp only [List.mem_cons, List.not_mem_nil, or_false] at hn
      rcases hn with rfl | rfl
      · exact cs_callf b g cap rv T d f (fun f' h => hC f' (Nat.le_of_lt h))
      · exact cs_kid b g cap rv T d f (hC f (Nat.le_refl _))
    · intro n hn
      simp only [List.mem_cons, List.not_mem_nil, or_false] at hn
      rcases hn with rfl | rfl
      · exact fun args wx => genters Tryz.func180 (by kernel_rfl) rfl args wx
      · exact fun args wx => genters Tryz.func175 (by kernel_rfl) rfl args wx
  clear hR hf9 hF0
  cases R with
  | fuel => cases hf
  | bad a er =>
    simp only [fPost] at hcall
    refine Lib.hid ?_
    go_wp2_with (first | (go_at_call 174; refine hcall.mono ?_; intro e w5 hb; obtain ⟨rfl, hg5⟩ := hb.at0))
    exact ⟨rfl, rfl, hg5⟩
  | ok y j =>
  cases y with
  | mk f1 s1 nm1 tk1 tl1 n1 m1 ks1 a1 =>
  simp only [fPost] at hcall
  refine Lib.hid ?_
  go_wp2_with (first | (go_at_call 174; refine hcall.mono ?_; rintro e w5 ⟨rfl, v, hF⟩; refine Hid.out ?_))
  obtain ⟨z0, z1, z2, z3, z4, z5, z6, z7, z8, zf⟩ := Nc.of (show w5.heap[w2.heap.size + 1]? = some (.cells #[.int .i64 f1, .int .i64 s1, .string ⟨nm1.toArray⟩, .int .i64 tk1, .int .i64 tl1, .int .i64 n1, .int .i64 m1, v, .int .i64 a1] 28 (0, 0)) from hF.row)
  obtain ⟨ka, kn, kc, rfl⟩ := hF.gro.form
  have hg5 := hF.gr
  have HF := Lib.hid hF
  clear hF
  refine Lib.hid ?_
  go_wp2_with (with_reducible refine hold_st 2 ?_)
  refine Lib.hid ?_
  refine wpList_store_gen rfl _ _ _ rfl w.heap.size _ rfl rfl 28 _ ((hg5.block w.heap.size (by simp) (by simp; omega)).trans (heap_alloc_new w exp0)) (by kernel_rfl) rfl (by simp [Value.oneCell']) ?_
  intro w7 hh7 hg7
  go_wp2
  (try simp only [Exit.inBlock, Exit.then])
  refine bodyPost_ret (results_cell_row rfl _ _ w.heap.size 28 _ (0, 0) _ rfl hh7 Tryz.underlying28 rfl (by kernel_rfl)) rfl ?_
  have hG : w.grownBy w7 (some b) := ((grown_some (World.grownBy_alloc w exp0 none) b).trans hg5).andThen hg7 (fun j e => .inl (by cases e; exact Nat.le_refl _))
  obtain ⟨hk, hs⟩ := HF.out.ends hg7 (by simp) (by omega)
  exact ⟨_, rfl, hk, HH.out.to hG hs HF.out.pa.lt, hG⟩
end

end Go.Proofs.YtachmiajldeakaaGreatDoor
