/- My texts GsE GsF, joined. -/
import Derived.Test.YtachmiajldeakaaGreatDoorMgE
set_option linter.unusedVariables false
/- gram's form, on (made by mkform.py). -/
namespace Go.Proofs.YtachmiajldeakaaGreatDoor
open Go.RowKit Go.Maps Go.WideMaps

section
variable (b g cap : Nat) (rv : Value) (T : List Lex.Tk) (d : Nat)

theorem form_rep (f i : Nat) (t : Lex.Tk) (htx : t.text = [114, 101, 112]) : Gram.form T (f + 1) d t i = Gram.parts T [Gram.sKid T f d, Gram.sSizeN T] [40] (.mk 17 0 [] 0 0 0 0 [] t.at_) i := by
  unfold Gram.form
  dsimp only
  rw [if_neg (by rw [htx]; decide)]
  rw [if_neg (by rw [htx]; decide)]
  rw [if_neg (by rw [htx]; decide)]
  rw [if_neg (by rw [htx]; decide)]
  rw [if_neg (by rw [htx]; decide)]
  rw [if_neg (by rw [htx]; decide)]
  rw [if_neg (by rw [htx]; decide)]
  rw [if_neg (by rw [htx]; decide)]
  rw [if_pos htx]
  simp only [Gram.parts, Gram.sKid, Gram.sSizeN, Gram.PR.bind_assoc, Gram.PR.ok_bind, Gram.Exp.setKids, Gram.Exp.setN, Gram.Exp.kids, List.nil_append]

set_option maxHeartbeats 1600000 in
set_option maxRecDepth 20000 in
theorem gform_rep (f i : Nat) (hC : ∀ f', f' ≤ f → CExp b g cap rv T f') (w : World) (h : Pa w b g cap rv T i d) (htx : (Gram.tk T i).text = [114, 101, 112]) (hf : (Gram.form T (f + 1) d (Gram.tk T i) (i + 1)).isFuel = false) :
    Calls Tryz.prog 146 #[.pointer (some ⟨b, 0, none⟩)] w fun e w' => ePost w b g cap rv T d (Gram.form T (f + 1) d (Gram.tk T i) (i + 1)) e w' := by
  have hbw := h.bl
  have hse : Gram.seesExp T i = true := by unfold Gram.seesExp; rw [htx]; rfl
  have hsee := gexp_sees b g cap rv T i d _ (h.alloc exp0)
  rw [hse] at hsee
  have hy := fun wx => gneed_yes b wx
  have hi := h.next (.inr (by rw [htx]; decide))
  have ht := fun wx (hx : (w.alloc exp0).grownBy wx none) => gtake_any b g cap rv T i d wx ((h.alloc exp0).kept hx) hi
  rw [form_rep T d f (i + 1) (Gram.tk T i) htx] at hf ⊢
  have hxx : tokV (Gram.tk T i) = .agg #[.int .i64 (Gram.tk T i).kind, .string ⟨#[114, 101, 112]⟩, .int .i64 (Gram.tk T i).n, .int .i64 (Gram.tk T i).t, .int .i64 0, .int .i64 ((Gram.tk T i).at_ : Int)] := by rw [← show (Gram.tk T i).text.toArray = #[114, 101, 112] by rw [htx]]; rfl
  rw [hxx] at ht
  generalize Gram.tk T i = x at ht hf ⊢
  obtain ⟨R, hR⟩ : ∃ R, R = Gram.parts T [Gram.sKid T f d, Gram.sSizeN T] [40] (.mk 17 0 [] 0 0 0 0 [] x.at_) (i + 1) := ⟨_, rfl⟩
  have hf9 := hf
  rw [← hR] at hf ⊢
  have hmf := makeFunc_run
  have HH := Lib.hid h
  clear h hxx htx hse
  go_enter Tryz.func146, Tryz.ntmps146
  go_wp2_with (first | (go_at_call 170; refine hsee.mono ?_; rintro e w1 ⟨rfl, hg1⟩) | (go_at_call 36; refine (hy _).mono ?_; rintro e w9 ⟨rfl, hw9⟩; rw [hw9]; clear hw9) | (go_at_call 120; refine (ht _ hg1).mono ?_; rintro e w2 ⟨rfl, hP2, hg2⟩; refine Hid.out ?_))
  have hgT : (w.alloc exp0).grownBy w2 (some b) := (grown_some hg1 b).trans hg2
  have hs2 := hgT.size
  rw [World.size_alloc] at hs2
  have hF0 : Fs (w.alloc exp0) (((w2.alloc (.cells #[.int .i64 x.kind, .string ⟨#[114, 101, 112]⟩, .int .i64 x.n, .int .i64 x.t, .int .i64 0, .int .i64 (x.at_ : Int)] 100)).alloc (.cells #[.int .i64 17, .int .i64 0, .string ⟨#[]⟩, .int .i64 0, .int .i64 0, .int .i64 0, .int .i64 0, .slice none 0 0, .int .i64 (x.at_ : Int)] 28)).alloc (.cells #[.func (.func 175) #[.pointer (some ⟨b, 0, none⟩)] #[], .func (.func 178) #[.pointer (some ⟨b, 0, none⟩)] #[]] 234)) b g cap rv T (w2.heap.size + 1) (i + 1) d 0 (w2.heap.size + 1 + 1 + 1) (w2.heap.size + 1 + 1) (partB b ([(175, Gram.sKid T f d), (178, Gram.sSizeN T)].map (·.1))) (.mk 17 0 [] 0 0 0 0 [] x.at_) (.slice none 0 0) :=
    ⟨⟨i, HH.out.alloc exp0⟩, ((hP2.alloc _).alloc _).alloc _, galloc (galloc (galloc hgT _) _) _, by simp; omega, (heap_alloc_old _ _ (by simp)).trans (heap_alloc2_new w2 _ _), by omega, by omega, by omega, by omega, by simp, by
      have e := heap_alloc_new ((w2.alloc (.cells #[.int .i64 x.kind, .string ⟨#[114, 101, 112]⟩, .int .i64 x.n, .int .i64 x.t, .int .i64 0, .int .i64 (x.at_ : Int)] 100)).alloc (.cells #[.int .i64 17, .int .i64 0, .string ⟨#[]⟩, .int .i64 0, .int .i64 0, .int .i64 0, .int .i64 0, .slice none 0 0, .int .i64 (x.at_ : Int)] 28)) (.cells #[.func (.func 175) #[.pointer (some ⟨b, 0, none⟩)] #[], .func (.func 178) #[.pointer (some ⟨b, 0, none⟩)] #[]] 234)
      rw [World.size_alloc, World.size_alloc] at e
      exact e, Growing.nil _ _, by simp [Gram.Exp.kids]⟩
  have hcall : Calls Tryz.prog 174 #[.pointer (some ⟨b, 0, none⟩), .pointer (some ⟨w2.heap.size + 1, 0, none⟩), .slice (some ⟨w2.heap.size + 1 + 1, 0, none⟩) 2 2] (((w2.alloc (.cells #[.int .i64 x.kind, .string ⟨#[114, 101, 112]⟩, .int .i64 x.n, .int .i64 x.t, .int .i64 0, .int .i64 (x.at_ : Int)] 100)).alloc (.cells #[.int .i64 17, .int .i64 0, .string ⟨#[]⟩, .int .i64 0, .int .i64 0, .int .i64 0, .int .i64 0, .slice none 0 0, .int .i64 (x.at_ : Int)] 28)).alloc (.cells #[.func (.func 175) #[.pointer (some ⟨b, 0, none⟩)] #[], .func (.func 178) #[.pointer (some ⟨b, 0, none⟩)] #[]] 234)) fun e w' => fPost (w.alloc exp0) b g cap rv T (w2.heap.size + 1) d (0 + 2) (w2.heap.size + 1 + 1 + 1) (w2.heap.size + 1 + 1) (partB b ([(175, Gram.sKid T f d), (178, Gram.sSizeN T)].map (·.1))) R e w' := by
    rw [hR]
    refine gparts_any b g cap rv T d [(175, Gram.sKid T f d), (178, Gram.sSizeN T)] ?_ ?_ _ _ _ _ _ _ _ _ _ (by simp) hF0 hf9
    · intro n hn
      simp only [List.mem_cons, List.not_mem_nil, or_false] at hn
      rcases hn with rfl | rfl
      · exact cs_kid b g cap rv T d f (hC f (Nat.le_refl _))
      · exact cs_sizeN b g cap rv T d
    · intro n hn
      simp only [List.mem_cons, List.not_mem_nil, or_false] at hn
      rcases hn with rfl | rfl
      · exact fun args wx => genters Tryz.func175 (by kernel_rfl) rfl args wx
      · exact fun args wx => genters Tryz.func178 (by kernel_rfl) rfl args wx
  clear hR hf9 hF0
  cases R with
  | fuel => cases hf
  | bad a er =>
    simp only [fPost] at hcall
    refine Lib.hid ?_
    go_wp2_with (first | (go_at_call 174; refine hcall.mono ?_; intro e w5 hb; obtain ⟨rfl, hg5⟩ := hb.at0))
    exact ⟨rfl, rfl, hg5⟩
  | ok y j =>
  cases y with
  | mk f1 s1 nm1 tk1 tl1 n1 m1 ks1 a1 =>
  simp only [fPost] at hcall
  refine Lib.hid ?_
  go_wp2_with (first | (go_at_call 174; refine hcall.mono ?_; rintro e w5 ⟨rfl, v, hF⟩; refine Hid.out ?_))
  obtain ⟨z0, z1, z2, z3, z4, z5, z6, z7, z8, zf⟩ := Nc.of (show w5.heap[w2.heap.size + 1]? = some (.cells #[.int .i64 f1, .int .i64 s1, .string ⟨nm1.toArray⟩, .int .i64 tk1, .int .i64 tl1, .int .i64 n1, .int .i64 m1, v, .int .i64 a1] 28 (0, 0)) from hF.row)
  obtain ⟨ka, kn, kc, rfl⟩ := hF.gro.form
  have hg5 := hF.gr
  have HF := Lib.hid hF
  clear hF
  refine Lib.hid ?_
  go_wp2_with (with_reducible refine hold_st 2 ?_)
  refine Lib.hid ?_
  refine wpList_store_gen rfl _ _ _ rfl w.heap.size _ rfl rfl 28 _ ((hg5.block w.heap.size (by simp) (by simp; omega)).trans (heap_alloc_new w exp0)) (by kernel_rfl) rfl (by simp [Value.oneCell']) ?_
  intro w7 hh7 hg7
  go_wp2
  (try simp only [Exit.inBlock, Exit.then])
  refine bodyPost_ret (results_cell_row rfl _ _ w.heap.size 28 _ (0, 0) _ rfl hh7 Tryz.underlying28 rfl (by kernel_rfl)) rfl ?_
  have hG : w.grownBy w7 (some b) := ((grown_some (World.grownBy_alloc w exp0 none) b).trans hg5).andThen hg7 (fun j e => .inl (by cases e; exact Nat.le_refl _))
  obtain ⟨hk, hs⟩ := HF.out.ends hg7 (by simp) (by omega)
  exact ⟨_, rfl, hk, HH.out.to hG hs HF.out.pa.lt, hG⟩

theorem form_map (f i : Nat) (t : Lex.Tk) (htx : t.text = [109, 97, 112]) : Gram.form T (f + 1) d t i = Gram.parts T [Gram.sName T, Gram.sKids T f d] [40] (.mk 18 0 [] 0 0 0 0 [] t.at_) i := by
  unfold Gram.form
  dsimp only
  rw [if_neg (by rw [htx]; decide)]
  rw [if_neg (by rw [htx]; decide)]
  rw [if_neg (by rw [htx]; decide)]
  rw [if_neg (by rw [htx]; decide)]
  rw [if_neg (by rw [htx]; decide)]
  rw [if_neg (by rw [htx]; decide)]
  rw [if_neg (by rw [htx]; decide)]
  rw [if_neg (by rw [htx]; decide)]
  rw [if_neg (by rw [htx]; decide)]
  rw [if_pos htx]
  simp only [Gram.parts, Gram.sKids, Gram.sName, Gram.PR.bind_assoc, Gram.PR.ok_bind, Gram.Exp.setKids, Gram.Exp.setName]

set_option maxHeartbeats 1600000 in
set_option maxRecDepth 20000 in
theorem gform_map (f i : Nat) (hC : ∀ f', f' ≤ f → CExp b g cap rv T f') (w : World) (h : Pa w b g cap rv T i d) (htx : (Gram.tk T i).text = [109, 97, 112]) (hf : (Gram.form T (f + 1) d (Gram.tk T i) (i + 1)).isFuel = false) :
    Calls Tryz.prog 146 #[.pointer (some ⟨b, 0, none⟩)] w fun e w' => ePost w b g cap rv T d (Gram.form T (f + 1) d (Gram.tk T i) (i + 1)) e w' := by
  have hbw := h.bl
  have hse : Gram.seesExp T i = true := by unfold Gram.seesExp; rw [htx]; rfl
  have hsee := gexp_sees b g cap rv T i d _ (h.alloc exp0)
  rw [hse] at hsee
  have hy := fun wx => gneed_yes b wx
  have hi := h.next (.inr (by rw [htx]; decide))
  have ht := fun wx (hx : (w.alloc exp0).grownBy wx none) => gtake_any b g cap rv T i d wx ((h.alloc exp0).kept hx) hi
  rw [form_map T d f (i + 1) (Gram.tk T i) htx] at hf ⊢
  have hxx : tokV (Gram.tk T i) = .agg #[.int .i64 (Gram.tk T i).kind, .string ⟨#[109, 97, 112]⟩, .int .i64 (Gram.tk T i).n, .int .i64 (Gram.tk T i).t, .int .i64 0, .int .i64 ((Gram.tk T i).at_ : Int)] := by rw [← show (Gram.tk T i).text.toArray = #[109, 97, 112] by rw [htx]]; rfl
  rw [hxx] at ht
  generalize Gram.tk T i = x at ht hf ⊢
  obtain ⟨R, hR⟩ : ∃ R, R = Gram.parts T [Gram.sName T, Gram.sKids T f d] [40] (.mk 18 0 [] 0 0 0 0 [] x.at_) (i + 1) := ⟨_, rfl⟩
  have hf9 := hf
  rw [← hR] at hf ⊢
  have hmf := makeFunc_run
  have HH := Lib.hid h
  clear h hxx htx hse
  go_enter Tryz.func146, Tryz.ntmps146
  go_wp2_with (first | (go_at_call 170; refine hsee.mono ?_; rintro e w1 ⟨rfl, hg1⟩) | (go_at_call 36; refine (hy _).mono ?_; rintro e w9 ⟨rfl, hw9⟩; rw [hw9]; clear hw9) | (go_at_call 120; refine (ht _ hg1).mono ?_; rintro e w2 ⟨rfl, hP2, hg2⟩; refine Hid.out ?_))
  have hgT : (w.alloc exp0).grownBy w2 (some b) := (grown_some hg1 b).trans hg2
  have hs2 := hgT.size
  rw [World.size_alloc] at hs2
  have hF0 : Fs (w.alloc exp0) (((w2.alloc (.cells #[.int .i64 x.kind, .string ⟨#[109, 97, 112]⟩, .int .i64 x.n, .int .i64 x.t, .int .i64 0, .int .i64 (x.at_ : Int)] 100)).alloc (.cells #[.int .i64 18, .int .i64 0, .string ⟨#[]⟩, .int .i64 0, .int .i64 0, .int .i64 0, .int .i64 0, .slice none 0 0, .int .i64 (x.at_ : Int)] 28)).alloc (.cells #[.func (.func 181) #[.pointer (some ⟨b, 0, none⟩)] #[], .func (.func 182) #[.pointer (some ⟨b, 0, none⟩)] #[]] 234)) b g cap rv T (w2.heap.size + 1) (i + 1) d 0 (w2.heap.size + 1 + 1 + 1) (w2.heap.size + 1 + 1) (partB b ([(181, Gram.sName T), (182, Gram.sKids T f d)].map (·.1))) (.mk 18 0 [] 0 0 0 0 [] x.at_) (.slice none 0 0) :=
    ⟨⟨i, HH.out.alloc exp0⟩, ((hP2.alloc _).alloc _).alloc _, galloc (galloc (galloc hgT _) _) _, by simp; omega, (heap_alloc_old _ _ (by simp)).trans (heap_alloc2_new w2 _ _), by omega, by omega, by omega, by omega, by simp, by
      have e := heap_alloc_new ((w2.alloc (.cells #[.int .i64 x.kind, .string ⟨#[109, 97, 112]⟩, .int .i64 x.n, .int .i64 x.t, .int .i64 0, .int .i64 (x.at_ : Int)] 100)).alloc (.cells #[.int .i64 18, .int .i64 0, .string ⟨#[]⟩, .int .i64 0, .int .i64 0, .int .i64 0, .int .i64 0, .slice none 0 0, .int .i64 (x.at_ : Int)] 28)) (.cells #[.func (.func 181) #[.pointer (some ⟨b, 0, none⟩)] #[], .func (.func 182) #[.pointer (some ⟨b, 0, none⟩)] #[]] 234)
      rw [World.size_alloc, World.size_alloc] at e
      exact e, Growing.nil _ _, by simp [Gram.Exp.kids]⟩
  have hcall : Calls Tryz.prog 174 #[.pointer (some ⟨b, 0, none⟩), .pointer (some ⟨w2.heap.size + 1, 0, none⟩), .slice (some ⟨w2.heap.size + 1 + 1, 0, none⟩) 2 2] (((w2.alloc (.cells #[.int .i64 x.kind, .string ⟨#[109, 97, 112]⟩, .int .i64 x.n, .int .i64 x.t, .int .i64 0, .int .i64 (x.at_ : Int)] 100)).alloc (.cells #[.int .i64 18, .int .i64 0, .string ⟨#[]⟩, .int .i64 0, .int .i64 0, .int .i64 0, .int .i64 0, .slice none 0 0, .int .i64 (x.at_ : Int)] 28)).alloc (.cells #[.func (.func 181) #[.pointer (some ⟨b, 0, none⟩)] #[], .func (.func 182) #[.pointer (some ⟨b, 0, none⟩)] #[]] 234)) fun e w' => fPost (w.alloc exp0) b g cap rv T (w2.heap.size + 1) d (0 + 2) (w2.heap.size + 1 + 1 + 1) (w2.heap.size + 1 + 1) (partB b ([(181, Gram.sName T), (182, Gram.sKids T f d)].map (·.1))) R e w' := by
    rw [hR]
    refine gparts_any b g cap rv T d [(181, Gram.sName T), (182, Gram.sKids T f d)] ?_ ?_ _ _ _ _ _ _ _ _ _ (by simp) hF0 hf9
    · intro n hn
      simp only [List.mem_cons, List.not_mem_nil, or_false] at hn
      rcases hn with rfl | rfl
      · exact cs_nameOf b g cap rv T d
      · exact cs_kids b g cap rv T d f (fun f' h => hC f' (Nat.le_of_lt h))
    · intro n hn
      simp only [List.mem_cons, List.not_mem_nil, or_false] at hn
      rcases hn with rfl | rfl
      · exact fun args wx => genters Tryz.func181 (by kernel_rfl) rfl args wx
      · exact fun args wx => genters Tryz.func182 (by kernel_rfl) rfl args wx
  clear hR hf9 hF0
  cases R with
  | fuel => cases hf
  | bad a er =>
    simp only [fPost] at hcall
    refine Lib.hid ?_
    go_wp2_with (first | (go_at_call 174; refine hcall.mono ?_; intro e w5 hb; obtain ⟨rfl, hg5⟩ := hb.at0))
    exact ⟨rfl, rfl, hg5⟩
  | ok y j =>
  cases y with
  | mk f1 s1 nm1 tk1 tl1 n1 m1 ks1 a1 =>
  simp only [fPost] at hcall
  refine Lib.hid ?_
  go_wp2_with (first | (go_at_call 174; refine hcall.mono ?_; rintro e w5 ⟨rfl, v, hF⟩; refine Hid.out ?_))
  obtain ⟨z0, z1, z2, z3, z4, z5, z6, z7, z8, zf⟩ := Nc.of (show w5.heap[w2.heap.size + 1]? = some (.cells #[.int .i64 f1, .int .i64 s1, .string ⟨nm1.toArray⟩, .int .i64 tk1, .int .i64 tl1, .int .i64 n1, .int .i64 m1, v, .int .i64 a1] 28 (0, 0)) from hF.row)
  obtain ⟨ka, kn, kc, rfl⟩ := hF.gro.form
  have hg5 := hF.gr
  have HF := Lib.hid hF
  clear hF
  refine Lib.hid ?_
  go_wp2_with (with_reducible refine hold_st 2 ?_)
  refine Lib.hid ?_
  refine wpList_store_gen rfl _ _ _ rfl w.heap.size _ rfl rfl 28 _ ((hg5.block w.heap.size (by simp) (by simp; omega)).trans (heap_alloc_new w exp0)) (by kernel_rfl) rfl (by simp [Value.oneCell']) ?_
  intro w7 hh7 hg7
  go_wp2
  (try simp only [Exit.inBlock, Exit.then])
  refine bodyPost_ret (results_cell_row rfl _ _ w.heap.size 28 _ (0, 0) _ rfl hh7 Tryz.underlying28 rfl (by kernel_rfl)) rfl ?_
  have hG : w.grownBy w7 (some b) := ((grown_some (World.grownBy_alloc w exp0 none) b).trans hg5).andThen hg7 (fun j e => .inl (by cases e; exact Nat.le_refl _))
  obtain ⟨hk, hs⟩ := HF.out.ends hg7 (by simp) (by omega)
  exact ⟨_, rfl, hk, HH.out.to hG hs HF.out.pa.lt, hG⟩

theorem form_merge (f i : Nat) (t : Lex.Tk) (htx : t.text = [109, 101, 114, 103, 101]) : Gram.form T (f + 1) d t i = Gram.parts T [Gram.sName T, Gram.sKid T f d, Gram.sKid T f d] [40] (.mk 10 0 [] 0 0 0 0 [] t.at_) i := by
  unfold Gram.form
  dsimp only
  rw [if_neg (by rw [htx]; decide)]
  rw [if_neg (by rw [htx]; decide)]
  rw [if_neg (by rw [htx]; decide)]
  rw [if_neg (by rw [htx]; decide)]
  rw [if_neg (by rw [htx]; decide)]
  rw [if_neg (by rw [htx]; decide)]
  rw [if_neg (by rw [htx]; decide)]
  rw [if_neg (by rw [htx]; decide)]
  rw [if_neg (by rw [htx]; decide)]
  rw [if_neg (by rw [htx]; decide)]
  rw [if_pos htx]
  simp only [Gram.parts, Gram.sKid, Gram.sName, Gram.PR.bind_assoc, Gram.PR.ok_bind, Gram.Exp.setKids, Gram.Exp.setName, Gram.Exp.kids, List.nil_append, List.cons_append]

set_option maxHeartbeats 1600000 in
set_option maxRecDepth 20000 in
theorem gform_merge (f i : Nat) (hC : ∀ f', f' ≤ f → CExp b g cap rv T f') (w : World) (h : Pa w b g cap rv T i d) (htx : (Gram.tk T i).text = [109, 101, 114, 103, 101]) (hf : (Gram.form T (f + 1) d (Gram.tk T i) (i + 1)).isFuel = false) :
    Calls Tryz.prog 146 #[.pointer (some ⟨b, 0, none⟩)] w fun e w' => ePost w b g cap rv T d (Gram.form T (f + 1) d (Gram.tk T i) (i + 1)) e w' := by
  have hbw := h.bl
  have hse : Gram.seesExp T i = true := by unfold Gram.seesExp; rw [htx]; rfl
  have hsee := gexp_sees b g cap rv T i d _ (h.alloc exp0)
  rw [hse] at hsee
  have hy := fun wx => gneed_yes b wx
  have hi := h.next (.inr (by rw [htx]; decide))
  have ht := fun wx (hx : (w.alloc exp0).grownBy wx none) => gtake_any b g cap rv T i d wx ((h.alloc exp0).kept hx) hi
  rw [form_merge T d f (i + 1) (Gram.tk T i) htx] at hf ⊢
  have hxx : tokV (Gram.tk T i) = .agg #[.int .i64 (Gram.tk T i).kind, .string ⟨#[109, 101, 114, 103, 101]⟩, .int .i64 (Gram.tk T i).n, .int .i64 (Gram.tk T i).t, .int .i64 0, .int .i64 ((Gram.tk T i).at_ : Int)] := by rw [← show (Gram.tk T i).text.toArray = #[109, 101, 114, 103, 101] by rw [htx]]; rfl
  rw [hxx] at ht
  generalize Gram.tk T i = x at ht hf ⊢
  obtain ⟨R, hR⟩ : ∃ R, R = Gram.parts T [Gram.sName T, Gram.sKid T f d, Gram.sKid T f d] [40] (.mk 10 0 [] 0 0 0 0 [] x.at_) (i + 1) := ⟨_, rfl⟩
  have hf9 := hf
  rw [← hR] at hf ⊢
  have hmf := makeFunc_run
  have HH := Lib.hid h
  clear h hxx htx hse
  go_enter Tryz.func146, Tryz.ntmps146
  go_wp2_with (first | (go_at_call 170; refine hsee.mono ?_; rintro e w1 ⟨rfl, hg1⟩) | (go_at_call 36; refine (hy _).mono ?_; rintro e w9 ⟨rfl, hw9⟩; rw [hw9]; clear hw9) | (go_at_call 120; refine (ht _ hg1).mono ?_; rintro e w2 ⟨rfl, hP2, hg2⟩; refine Hid.out ?_))
  have hgT : (w.alloc exp0).grownBy w2 (some b) := (grown_some hg1 b).trans hg2
  have hs2 := hgT.size
  rw [World.size_alloc] at hs2
  have hF0 : Fs (w.alloc exp0) (((w2.alloc (.cells #[.int .i64 x.kind, .string ⟨#[109, 101, 114, 103, 101]⟩, .int .i64 x.n, .int .i64 x.t, .int .i64 0, .int .i64 (x.at_ : Int)] 100)).alloc (.cells #[.int .i64 10, .int .i64 0, .string ⟨#[]⟩, .int .i64 0, .int .i64 0, .int .i64 0, .int .i64 0, .slice none 0 0, .int .i64 (x.at_ : Int)] 28)).alloc (.cells #[.func (.func 181) #[.pointer (some ⟨b, 0, none⟩)] #[], .func (.func 175) #[.pointer (some ⟨b, 0, none⟩)] #[], .func (.func 175) #[.pointer (some ⟨b, 0, none⟩)] #[]] 234)) b g cap rv T (w2.heap.size + 1) (i + 1) d 0 (w2.heap.size + 1 + 1 + 1) (w2.heap.size + 1 + 1) (partB b ([(181, Gram.sName T), (175, Gram.sKid T f d), (175, Gram.sKid T f d)].map (·.1))) (.mk 10 0 [] 0 0 0 0 [] x.at_) (.slice none 0 0) :=
    ⟨⟨i, HH.out.alloc exp0⟩, ((hP2.alloc _).alloc _).alloc _, galloc (galloc (galloc hgT _) _) _, by simp; omega, (heap_alloc_old _ _ (by simp)).trans (heap_alloc2_new w2 _ _), by omega, by omega, by omega, by omega, by simp, by
      have e := heap_alloc_new ((w2.alloc (.cells #[.int .i64 x.kind, .string ⟨#[109, 101, 114, 103, 101]⟩, .int .i64 x.n, .int .i64 x.t, .int .i64 0, .int .i64 (x.at_ : Int)] 100)).alloc (.cells #[.int .i64 10, .int .i64 0, .string ⟨#[]⟩, .int .i64 0, .int .i64 0, .int .i64 0, .int .i64 0, .slice none 0 0, .int .i64 (x.at_ : Int)] 28)) (.cells #[.func (.func 181) #[.pointer (some ⟨b, 0, none⟩)] #[], .func (.func 175) #[.pointer (some ⟨b, 0, none⟩)] #[], .func (.func 175) #[.pointer (some ⟨b, 0, none⟩)] #[]] 234)
      rw [World.size_alloc, World.size_alloc] at e
      exact e, Growing.nil _ _, by simp [Gram.Exp.kids]⟩
  have hcall : Calls Tryz.prog 174 #[.pointer (some ⟨b, 0, none⟩), .pointer (some ⟨w2.heap.size + 1, 0, none⟩), .slice (some ⟨w2.heap.size + 1 + 1, 0, none⟩) 3 3] (((w2.alloc (.cells #[.int .i64 x.kind, .string ⟨#[109, 101, 114, 103, 101]⟩, .int .i64 x.n, .int .i64 x.t, .int .i64 0, .int .i64 (x.at_ : Int)] 100)).alloc (.cells #[.int .i64 10, .int .i64 0, .string ⟨#[]⟩, .int .i64 0, .int .i64 0, .int .i64 0, .int .i64 0, .slice none 0 0, .int .i64 (x.at_ : Int)] 28)).alloc (.cells #[.func (.func 181) #[.pointer (some ⟨b, 0, none⟩)] #[], .func (.func 175) #[.pointer (some ⟨b, 0, none⟩)] #[], .func (.func 175) #[.pointer (some ⟨b, 0, none⟩)] #[]] 234)) fun e w' => fPost (w.alloc exp0) b g cap rv T (w2.heap.size + 1) d (0 + 3) (w2.heap.size + 1 + 1 + 1) (w2.heap.size + 1 + 1) (partB b ([(181, Gram.sName T), (175, Gram.sKid T f d), (175, Gram.sKid T f d)].map (·.1))) R e w' := by
    rw [hR]
    refine gparts_any b g cap rv T d [(181, Gram.sName T), (175, Gram.sKid T f d), (175, Gram.sKid T f d)] ?_ ?_ _ _ _ _ _ _ _ _ _ (by simp) hF0 hf9
    · intro n hn
      simp only [List.mem_cons, List.not_mem_nil, or_false] at hn
      rcases hn with rfl | rfl | rfl
      · exact cs_nameOf b g cap rv T d
      · exact cs_kid b g cap rv T d f (hC f (Nat.le_refl _))
      · exact cs_kid b g cap rv T d f (hC f (Nat.le_refl _))
    · intro n hn
      simp only [List.mem_cons, List.not_mem_nil, or_false] at hn
      rcases hn with rfl | rfl | rfl
      · exact fun args wx => genters Tryz.func181 (by kernel_rfl) rfl args wx
      · exact fun args wx => genters Tryz.func175 (by kernel_rfl) rfl args wx
      · exact fun args wx => genters Tryz.func175 (by kernel_rfl) rfl args wx
  clear hR hf9 hF0
  cases R with
  | fuel => cases hf
  | bad a er =>
    simp only [fPost] at hcall
    refine Lib.hid ?_
    go_wp2_with (first | (go_at_call 174; refine hcall.mono ?_; intro e w5 hb; obtain ⟨rfl, hg5⟩ := hb.at0))
    exact ⟨rfl, rfl, hg5⟩
  | ok y j =>
  cases y with
  | mk f1 s1 nm1 tk1 tl1 n1 m1 ks1 a1 =>
  simp only [fPost] at hcall
  refine Lib.hid ?_
  go_wp2_with (first | (go_at_call 174; refine hcall.mono ?_; rintro e w5 ⟨rfl, v, hF⟩; refine Hid.out ?_))
  obtain ⟨z0, z1, z2, z3, z4, z5, z6, z7, z8, zf⟩ := Nc.of (show w5.heap[w2.heap.size + 1]? = some (.cells #[.int .i64 f1, .int .i64 s1, .string ⟨nm1.toArray⟩, .int .i64 tk1, .int .i64 tl1, .int .i64 n1, .int .i64 m1, v, .int .i64 a1] 28 (0, 0)) from hF.row)
  obtain ⟨ka, kn, kc, rfl⟩ := hF.gro.form
  have hg5 := hF.gr
  have HF := Lib.hid hF
  clear hF
  refine Lib.hid ?_
  go_wp2_with (with_reducible refine hold_st 2 ?_)
  refine Lib.hid ?_
  refine wpList_store_gen rfl _ _ _ rfl w.heap.size _ rfl rfl 28 _ ((hg5.block w.heap.size (by simp) (by simp; omega)).trans (heap_alloc_new w exp0)) (by kernel_rfl) rfl (by simp [Value.oneCell']) ?_
  intro w7 hh7 hg7
  go_wp2
  (try simp only [Exit.inBlock, Exit.then])
  refine bodyPost_ret (results_cell_row rfl _ _ w.heap.size 28 _ (0, 0) _ rfl hh7 Tryz.underlying28 rfl (by kernel_rfl)) rfl ?_
  have hG : w.grownBy w7 (some b) := ((grown_some (World.grownBy_alloc w exp0 none) b).trans hg5).andThen hg7 (fun j e => .inl (by cases e; exact Nat.le_refl _))
  obtain ⟨hk, hs⟩ := HF.out.ends hg7 (by simp) (by omega)
  exact ⟨_, rfl, hk, HH.out.to hG hs HF.out.pa.lt, hG⟩

theorem form_fold (f i : Nat) (t : Lex.Tk) (htx : t.text = [102, 111, 108, 100]) : Gram.form T (f + 1) d t i = Gram.parts T [Gram.sName T, Gram.sKid T f d, Gram.sKid T f d] [40] (.mk 19 0 [] 0 0 0 0 [] t.at_) i := by
  unfold Gram.form
  dsimp only
  rw [if_neg (by rw [htx]; decide)]
  rw [if_neg (by rw [htx]; decide)]
  rw [if_neg (by rw [htx]; decide)]
  rw [if_neg (by rw [htx]; decide)]
  rw [if_neg (by rw [htx]; decide)]
  rw [if_neg (by rw [htx]; decide)]
  rw [if_neg (by rw [htx]; decide)]
  rw [if_neg (by rw [htx]; decide)]
  rw [if_neg (by rw [htx]; decide)]
  rw [if_neg (by rw [htx]; decide)]
  rw [if_neg (by rw [htx]; decide)]
  simp only [Gram.parts, Gram.sKid, Gram.sName, Gram.PR.bind_assoc, Gram.PR.ok_bind, Gram.Exp.setKids, Gram.Exp.setName, Gram.Exp.kids, List.nil_append, List.cons_append]

set_option maxHeartbeats 1600000 in
set_option maxRecDepth 20000 in
theorem gform_fold (f i : Nat) (hC : ∀ f', f' ≤ f → CExp b g cap rv T f') (w : World) (h : Pa w b g cap rv T i d) (htx : (Gram.tk T i).text = [102, 111, 108, 100]) (hf : (Gram.form T (f + 1) d (Gram.tk T i) (i + 1)).isFuel = false) :
    Calls Tryz.prog 146 #[.pointer (some ⟨b, 0, none⟩)] w fun e w' => ePost w b g cap rv T d (Gram.form T (f + 1) d (Gram.tk T i) (i + 1)) e w' := by
  have hbw := h.bl
  have hse : Gram.seesExp T i = true := by unfold Gram.seesExp; rw [htx]; rfl
  have hsee := gexp_sees b g cap rv T i d _ (h.alloc exp0)
  rw [hse] at hsee
  have hy := fun wx => gneed_yes b wx
  have hi := h.next (.inr (by rw [htx]; decide))
  have ht := fun wx (hx : (w.alloc exp0).grownBy wx none) => gtake_any b g cap rv T i d wx ((h.alloc exp0).kept hx) hi
  rw [form_fold T d f (i + 1) (Gram.tk T i) htx] at hf ⊢
  have hxx : tokV (Gram.tk T i) = .agg #[.int .i64 (Gram.tk T i).kind, .string ⟨#[102, 111, 108, 100]⟩, .int .i64 (Gram.tk T i).n, .int .i64 (Gram.tk T i).t, .int .i64 0, .int .i64 ((Gram.tk T i).at_ : Int)] := by rw [← show (Gram.tk T i).text.toArray = #[102, 111, 108, 100] by rw [htx]]; rfl
  rw [hxx] at ht
  generalize Gram.tk T i = x at ht hf ⊢
  obtain ⟨R, hR⟩ : ∃ R, R = Gram.parts T [Gram.sName T, Gram.sKid T f d, Gram.sKid T f d] [40] (.mk 19 0 [] 0 0 0 0 [] x.at_) (i + 1) := ⟨_, rfl⟩
  have hf9 := hf
  rw [← hR] at hf ⊢
  have hmf := makeFunc_run
  have HH := Lib.hid h
  clear h hxx htx hse
  go_enter Tryz.func146, Tryz.ntmps146
  go_wp2_with (first | (go_at_call 170; refine hsee.mono ?_; rintro e w1 ⟨rfl, hg1⟩) | (go_at_call 36; refine (hy _).mono ?_; rintro e w9 ⟨rfl, hw9⟩; rw [hw9]; clear hw9) | (go_at_call 120; refine (ht _ hg1).mono ?_; rintro e w2 ⟨rfl, hP2, hg2⟩; refine Hid.out ?_))
  have hgT : (w.alloc exp0).grownBy w2 (some b) := (grown_some hg1 b).trans hg2
  have hs2 := hgT.size
  rw [World.size_alloc] at hs2
  have hF0 : Fs (w.alloc exp0) (((w2.alloc (.cells #[.int .i64 x.kind, .string ⟨#[102, 111, 108, 100]⟩, .int .i64 x.n, .int .i64 x.t, .int .i64 0, .int .i64 (x.at_ : Int)] 100)).alloc (.cells #[.int .i64 19, .int .i64 0, .string ⟨#[]⟩, .int .i64 0, .int .i64 0, .int .i64 0, .int .i64 0, .slice none 0 0, .int .i64 (x.at_ : Int)] 28)).alloc (.cells #[.func (.func 181) #[.pointer (some ⟨b, 0, none⟩)] #[], .func (.func 175) #[.pointer (some ⟨b, 0, none⟩)] #[], .func (.func 175) #[.pointer (some ⟨b, 0, none⟩)] #[]] 234)) b g cap rv T (w2.heap.size + 1) (i + 1) d 0 (w2.heap.size + 1 + 1 + 1) (w2.heap.size + 1 + 1) (partB b ([(181, Gram.sName T), (175, Gram.sKid T f d), (175, Gram.sKid T f d)].map (·.1))) (.mk 19 0 [] 0 0 0 0 [] x.at_) (.slice none 0 0) :=
    ⟨⟨i, HH.out.alloc exp0⟩, ((hP2.alloc _).alloc _).alloc _, galloc (galloc (galloc hgT _) _) _, by simp; omega, (heap_alloc_old _ _ (by simp)).trans (heap_alloc2_new w2 _ _), by omega, by omega, by omega, by omega, by simp, by
      have e := heap_alloc_new ((w2.alloc (.cells #[.int .i64 x.kind, .string ⟨#[102, 111, 108, 100]⟩, .int .i64 x.n, .int .i64 x.t, .int .i64 0, .int .i64 (x.at_ : Int)] 100)).alloc (.cells #[.int .i64 19, .int .i64 0, .string ⟨#[]⟩, .int .i64 0, .int .i64 0, .int .i64 0, .int .i64 0, .slice none 0 0, .int .i64 (x.at_ : Int)] 28)) (.cells #[.func (.func 181) #[.pointer (some ⟨b, 0, none⟩)] #[], .func (.func 175) #[.pointer (some ⟨b, 0, none⟩)] #[], .func (.func 175) #[.pointer (some ⟨b, 0, none⟩)] #[]] 234)
      rw [World.size_alloc, World.size_alloc] at e
      exact e, Growing.nil _ _, by simp [Gram.Exp.kids]⟩
  have hcall : Calls Tryz.prog 174 #[.pointer (some ⟨b, 0, none⟩), .pointer (some ⟨w2.heap.size + 1, 0, none⟩), .slice (some ⟨w2.heap.size + 1 + 1, 0, none⟩) 3 3] (((w2.alloc (.cells #[.int .i64 x.kind, .string ⟨#[102, 111, 108, 100]⟩, .int .i64 x.n, .int .i64 x.t, .int .i64 0, .int .i64 (x.at_ : Int)] 100)).alloc (.cells #[.int .i64 19, .int .i64 0, .string ⟨#[]⟩, .int .i64 0, .int .i64 0, .int .i64 0, .int .i64 0, .slice none 0 0, .int .i64 (x.at_ : Int)] 28)).alloc (.cells #[.func (.func 181) #[.pointer (some ⟨b, 0, none⟩)] #[], .func (.func 175) #[.pointer (some ⟨b, 0, none⟩)] #[], .func (.func 175) #[.pointer (some ⟨b, 0, none⟩)] #[]] 234)) fun e w' => fPost (w.alloc exp0) b g cap rv T (w2.heap.size + 1) d (0 + 3) (w2.heap.size + 1 + 1 + 1) (w2.heap.size + 1 + 1) (partB b ([(181, Gram.sName T), (175, Gram.sKid T f d), (175, Gram.sKid T f d)].map (·.1))) R e w' := by
    rw [hR]
    refine gparts_any b g cap rv T d [(181, Gram.sName T), (175, Gram.sKid T f d), (175, Gram.sKid T f d)] ?_ ?_ _ _ _ _ _ _ _ _ _ (by simp) hF0 hf9
    · intro n hn
      simp only [List.mem_cons, List.not_mem_nil, or_false] at hn
      rcases hn with rfl | rfl | rfl
      · exact cs_nameOf b g cap rv T d
      · exact cs_kid b g cap rv T d f (hC f (Nat.le_refl _))
      · exact cs_kid b g cap rv T d f (hC f (Nat.le_refl _))
    · intro n hn
      simp only [List.mem_cons, List.not_mem_nil, or_false] at hn
      rcases hn with rfl | rfl | rfl
      · exact fun args wx => genters Tryz.func181 (by kernel_rfl) rfl args wx
      · exact fun args wx => genters Tryz.func175 (by kernel_rfl) rfl args wx
      · exact fun args wx => genters Tryz.func175 (by kernel_rfl) rfl args wx
  clear hR hf9 hF0
  cases R with
  | fuel => cases hf
  | bad a er =>
    simp only [fPost] at hcall
    refine Lib.hid ?_
    go_wp2_with (first | (go_at_call 174; refine hcall.mono ?_; intro e w5 hb; obtain ⟨rfl, hg5⟩ := hb.at0))
    exact ⟨rfl, rfl, hg5⟩
  | ok y j =>
  cases y with
  | mk f1 s1 nm1 tk1 tl1 n1 m1 ks1 a1 =>
  simp only [fPost] at hcall
  refine Lib.hid ?_
  go_wp2_with (first | (go_at_call 174; refine hcall.mono ?_; rintro e w5 ⟨rfl, v, hF⟩; refine Hid.out ?_))
  obtain ⟨z0, z1, z2, z3, z4, z5, z6, z7, z8, zf⟩ := Nc.of (show w5.heap[w2.heap.size + 1]? = some (.cells #[.int .i64 f1, .int .i64 s1, .string ⟨nm1.toArray⟩, .int .i64 tk1, .int .i64 tl1, .int .i64 n1, .int .i64 m1, v, .int .i64 a1] 28 (0, 0)) from hF.row)
  obtain ⟨ka, kn, kc, rfl⟩ := hF.gro.form
  have hg5 := hF.gr
  have HF := Lib.hid hF
  clear hF
  refine Lib.hid ?_
  go_wp2_with (with_reducible refine hold_st 2 ?_)
  refine Lib.hid ?_
  refine wpList_store_gen rfl _ _ _ rfl w.heap.size _ rfl rfl 28 _ ((hg5.block w.heap.size (by simp) (by simp; omega)).trans (heap_alloc_new w exp0)) (by kernel_rfl) rfl (by simp [Value.oneCell']) ?_
  intro w7 hh7 hg7
  go_wp2
  (try simp only [Exit.inBlock, Exit.then])
  refine bodyPost_ret (results_cell_row rfl _ _ w.heap.size 28 _ (0, 0) _ rfl hh7 Tryz.underlying28 rfl (by kernel_rfl)) rfl ?_
  have hG : w.grownBy w7 (some b) := ((grown_some (World.grownBy_alloc w exp0 none) b).trans hg5).andThen hg7 (fun j e => .inl (by cases e; exact Nat.le_refl _))
  obtain ⟨hk, hs⟩ := HF.out.ends hg7 (by simp) (by omega)
  exact ⟨_, rfl, hk, HH.out.to hG hs HF.out.pa.lt, hG⟩
end

end Go.Proofs.YtachmiajldeakaaGreatDoor

/- gram's prim and unary; and read, by induction on the steps (made by mkprim.py). -/
namespace Go.Proofs.YtachmiajldeakaaGreatDoor
open Go.RowKit Go.Maps Go.WideMaps

section
variable (b g cap : Nat) (rv : Value) (T : List Lex.Tk)

theorem gform_any (f i d : Nat) (hC : ∀ f', f' ≤ f → CExp b g cap rv T f') (w : World) (h : Pa w b g cap rv T i d) (hw : Gram.expWords.contains (Gram.tk T i).text = true) (n1 : ¬ (Gram.tk T i).text = [110, 111, 116]) (n2 : ¬ (Gram.tk T i).text = [45]) (n3 : ¬ (Gram.tk T i).text = [112, 114, 101]) (n4 : ¬ (Gram.tk T i).text = [40]) (hf : (Gram.form T (f + 1) d (Gram.tk T i) (i + 1)).isFuel = false) :
    Calls Tryz.prog 146 #[.pointer (some ⟨b, 0, none⟩)] w fun e w' => ePost w b g cap rv T d (Gram.form T (f + 1) d (Gram.tk T i) (i + 1)) e w' := by
  have hm : (Gram.tk T i).text ∈ Gram.expWords := by simpa using hw
  simp only [Gram.expWords, List.mem_cons, List.not_mem_nil, or_false] at hm
  rcases hm with e | e | e | e | e | e | e | e | e | e | e | e | e | e | e | e
  · exact absurd e n1
  · exact absurd e n2
  · exact absurd e n3
  · exact absurd e n4
  · exact gform_arr b g cap rv T d f i hC w h e hf
  · exact gform_true b g cap rv T d f i hC w h e hf
  · exact gform_false b g cap rv T d f i hC w h e hf
  · exact gform_if b g cap rv T d f i hC w h e hf
  · exact gform_when b g cap rv T d f i hC w h e hf
  · exact gform_merge b g cap rv T d f i hC w h e hf
  · exact gform_cast b g cap rv T d f i hC w h e hf
  · exact gform_tick b g cap rv T d f i hC w h e hf
  · exact gform_reset b g cap rv T d f i hC w h e hf
  · exact gform_rep b g cap rv T d f i hC w h e hf
  · exact gform_map b g cap rv T d f i hC w h e hf
  · exact gform_fold b g cap rv T d f i hC w h e hf

/- prim's ways, each by what the part does that it hands on -/

set_option maxHeartbeats 1600000 in
set_option maxRecDepth 20000 in
theorem gprim_value (i d : Nat) (R : Gram.PR Gram.Exp) (hf : R.isFuel = false) (w : World) (h : Pa w b g cap rv T i d) (hv : Gram.isVal T i = true) (hc : ∀ wx, Pa wx b g cap rv T i d → Calls Tryz.prog 143 #[.pointer (some ⟨b, 0, none⟩)] wx fun e w' => ePost wx b g cap rv T d R e w') :
    Calls Tryz.prog 119 #[.pointer (some ⟨b, 0, none⟩)] w fun e w' => ePost w b g cap rv T d R e w' := by
  have hbw := h.bl
  have hV := gval_sees b g cap rv T i d _ (h.alloc exp0)
  rw [hv] at hV
  have hcc := fun wx (hx : (w.alloc exp0).grownBy wx none) => hc wx ((h.alloc exp0).kept hx)
  have HH := Lib.hid h
  clear h hc
  cases R with
  | fuel => cases hf
  | bad a er =>
    simp only [ePost] at hcc
    go_enter Tryz.func119, Tryz.ntmps119
    go_wp2_with (first | (go_at_call 139; refine hV.mono ?_; rintro e w1 ⟨rfl, hg1⟩) | (go_at_call 143; refine (hcc _ hg1).mono ?_; rintro e w5 ⟨rfl, hg5⟩))
    exact ⟨rfl, rfl, (grown_some ((World.grownBy_alloc w exp0 none).trans hg1) b).trans hg5⟩
  | ok y j =>
    cases y with
    | mk f1 s1 nm1 tk1 tl1 n1 m1 ks1 a1 =>
    simp only [ePost, expV] at hcc
    go_enter Tryz.func119, Tryz.ntmps119
    go_wp2_with (first | (go_at_call 139; refine hV.mono ?_; rintro e w1 ⟨rfl, hg1⟩) | (go_at_call 143; refine (hcc _ hg1).mono ?_; rintro e w5 ⟨k5, rfl, hk5, hP5, hg5⟩; refine Hid.out ?_))
    have hgA : (w.alloc exp0).grownBy w5 (some b) := (grown_some hg1 b).trans hg5
    have hsA := (hg1).size
    rw [World.size_alloc] at hsA
    obtain ⟨ka, kn, kc, rfl⟩ := hk5.form
    refine Lib.hid ?_
    go_wp2_with (with_reducible refine hold_st 2 ?_)
    refine Lib.hid ?_
    refine wpList_store_gen rfl _ _ _ rfl w.heap.size _ rfl rfl 28 _ ((hgA.block w.heap.size (by simp) (by simp; omega)).trans (heap_alloc_new w exp0)) (by kernel_rfl) rfl (by simp [Value.oneCell']) ?_
    intro w7 hh7 hg7
    go_wp2
    (try simp only [Exit.inBlock, Exit.then])
    refine bodyPost_ret (results_cell_row rfl _ _ w.heap.size 28 _ (0, 0) _ rfl hh7 Tryz.underlying28 rfl (by kernel_rfl)) rfl ?_
    have hG : w.grownBy w7 (some b) := ((grown_some (World.grownBy_alloc w exp0 none) b).trans hgA).andThen hg7 (fun j e => .inl (by cases e; exact Nat.le_refl _))
    exact ⟨_, rfl, (hk5.kept hg7 (by omega)).mono (by omega), HH.out.to hG (hP5.st.kept hg7 (by simp; omega)) hP5.lt, hG⟩

set_option maxHeartbeats 1600000 in
set_option maxRecDepth 20000 in
theorem gprim_named (i d : Nat) (R : Gram.PR Gram.Exp) (hf : R.isFuel = false) (w : World) (h : Pa w b g cap rv T i d) (hv : Gram.isVal T i = false) (hn : Gram.isName T i = true) (hc : ∀ wx, Pa wx b g cap rv T i d → Calls Tryz.prog 144 #[.pointer (some ⟨b, 0, none⟩)] wx fun e w' => ePost wx b g cap rv T d R e w') :
    Calls Tryz.prog 119 #[.pointer (some ⟨b, 0, none⟩)] w fun e w' => ePost w b g cap rv T d R e w' := by
  have hbw := h.bl
  have hV := gval_sees b g cap rv T i d _ (h.alloc exp0)
  rw [hv] at hV
  have hN := fun wx (hx : (w.alloc exp0).grownBy wx none) => gname_sees b g cap rv T i d wx ((h.alloc exp0).kept hx)
  simp only [hn] at hN
  have hcc := fun wx (hx : (w.alloc exp0).grownBy wx none) => hc wx ((h.alloc exp0).kept hx)
  have HH := Lib.hid h
  clear h hc
  cases R with
  | fuel => cases hf
  | bad a er =>
    simp only [ePost] at hcc
    go_enter Tryz.func119, Tryz.ntmps119
    go_wp2_with (first | (go_at_call 139; refine hV.mono ?_; rintro e w1 ⟨rfl, hg1⟩) | (go_at_call 121; refine (hN _ hg1).mono ?_; rintro e w2 ⟨rfl, hg2⟩) | (go_at_call 144; refine (hcc _ (hg1.trans hg2)).mono ?_; rintro e w5 ⟨rfl, hg5⟩))
    exact ⟨rfl, rfl, (grown_some ((World.grownBy_alloc w exp0 none).trans (hg1.trans hg2)) b).trans hg5⟩
  | ok y j =>
    cases y with
    | mk f1 s1 nm1 tk1 tl1 n1 m1 ks1 a1 =>
    simp only [ePost, expV] at hcc
    go_enter Tryz.func119, Tryz.ntmps119
    go_wp2_with (first | (go_at_call 139; refine hV.mono ?_; rintro e w1 ⟨rfl, hg1⟩) | (go_at_call 121; refine (hN _ hg1).mono ?_; rintro e w2 ⟨rfl, hg2⟩) | (go_at_call 144; refine (hcc _ (hg1.trans hg2)).mono ?_; rintro e w5 ⟨k5, rfl, hk5, hP5, hg5⟩; refine Hid.out ?_))
    have hgA : (w.alloc exp0).grownBy w5 (some b) := (grown_some (hg1.trans hg2) b).trans hg5
    have hsA := ((hg1.trans hg2)).size
    rw [World.size_alloc] at hsA
    obtain ⟨ka, kn, kc, rfl⟩ := hk5.form
    refine Lib.hid ?_
    go_wp2_with (with_reducible refine hold_st 2 ?_)
    refine Lib.hid ?_
    refine wpList_store_gen rfl _ _ _ rfl w.heap.size _ rfl rfl 28 _ ((hgA.block w.heap.size (by simp) (by simp; omega)).trans (heap_alloc_new w exp0)) (by kernel_rfl) rfl (by simp [Value.oneCell']) ?_
    intro w7 hh7 hg7
    go_wp2
    (try simp only [Exit.inBlock, Exit.then])
    refine bodyPost_ret (results_cell_row rfl _ _ w.heap.size 28 _ (0, 0) _ rfl hh7 Tryz.underlying28 rfl (by kernel_rfl)) rfl ?_
    have hG : w.grownBy w7 (some b) := ((grown_some (World.grownBy_alloc w exp0 none) b).trans hgA).andThen hg7 (fun j e => .inl (by cases e; exact Nat.le_refl _))
    exact ⟨_, rfl, (hk5.kept hg7 (by omega)).mono (by omega), HH.out.to hG (hP5.st.kept hg7 (by simp; omega)) hP5.lt, hG⟩

set_option maxHeartbeats 1600000 in
set_option maxRecDepth 20000 in
theorem gprim_form (i d : Nat) (R : Gram.PR Gram.Exp) (hf : R.isFuel = false) (w : World) (h : Pa w b g cap rv T i d) (hv : Gram.isVal T i = false) (hn : Gram.isName T i = false) (hs : Gram.sees T i [40] = false) (hc : ∀ wx, Pa wx b g cap rv T i d → Calls Tryz.prog 146 #[.pointer (some ⟨b, 0, none⟩)] wx fun e w' => ePost wx b g cap rv T d R e w') :
    Calls Tryz.prog 119 #[.pointer (some ⟨b, 0, none⟩)] w fun e w' => ePost w b g cap rv T d R e w' := by
  have hbw := h.bl
  have hV := gval_sees b g cap rv T i d _ (h.alloc exp0)
  rw [hv] at hV
  have hN := fun wx (hx : (w.alloc exp0).grownBy wx none) => gname_sees b g cap rv T i d wx ((h.alloc exp0).kept hx)
  simp only [hn] at hN
  have hA := fun wx (hx : (w.alloc exp0).grownBy wx none) => gaccept_no b g cap rv T i d ⟨#[40]⟩ wx ((h.alloc exp0).kept hx) hs
  have hcc := fun wx (hx : (w.alloc exp0).grownBy wx none) => hc wx ((h.alloc exp0).kept hx)
  have HH := Lib.hid h
  clear h hc
  cases R with
  | fuel => cases hf
  | bad a er =>
    simp only [ePost] at hcc
    go_enter Tryz.func119, Tryz.ntmps119
    go_wp2_with (first | (go_at_call 139; refine hV.mono ?_; rintro e w1 ⟨rfl, hg1⟩) | (go_at_call 121; refine (hN _ hg1).mono ?_; rintro e w2 ⟨rfl, hg2⟩) | (go_at_call 123; refine (hA _ (hg1.trans hg2)).mono ?_; rintro e w3 ⟨rfl, hg3⟩) | (go_at_call 146; refine (hcc _ ((hg1.trans hg2).trans hg3)).mono ?_; rintro e w5 ⟨rfl, hg5⟩))
    exact ⟨rfl, rfl, (grown_some ((World.grownBy_alloc w exp0 none).trans ((hg1.trans hg2).trans hg3)) b).trans hg5⟩
  | ok y j =>
    cases y with
    | mk f1 s1 nm1 tk1 tl1 n1 m1 ks1 a1 =>
    simp only [ePost, expV] at hcc
    go_enter Tryz.func119, Tryz.ntmps119
    go_wp2_with (first | (go_at_call 139; refine hV.mono ?_; rintro e w1 ⟨rfl, hg1⟩) | (go_at_call 121; refine (hN _ hg1).mono ?_; rintro e w2 ⟨rfl, hg2⟩) | (go_at_call 123; refine (hA _ (hg1.trans hg2)).mono ?_; rintro e w3 ⟨rfl, hg3⟩) | (go_at_call 146; refine (hcc _ ((hg1.trans hg2).trans hg3)).mono ?_; rintro e w5 ⟨k5, rfl, hk5, hP5, hg5⟩; refine Hid.out ?_))
    have hgA : (w.alloc exp0).grownBy w5 (some b) := (grown_some ((hg1.trans hg2).trans hg3) b).trans hg5
    have hsA := (((hg1.trans hg2).trans hg3)).size
    rw [World.size_alloc] at hsA
    obtain ⟨ka, kn, kc, rfl⟩ := hk5.form
    refine Lib.hid ?_
    go_wp2_with (with_reducible refine hold_st 2 ?_)
    refine Lib.hid ?_
    refine wpList_store_gen rfl _ _ _ rfl w.heap.size _ rfl rfl 28 _ ((hgA.block w.heap.size (by simp) (by simp; omega)).trans (heap_alloc_new w exp0)) (by kernel_rfl) rfl (by simp [Value.oneCell']) ?_
    intro w7 hh7 hg7
    go_wp2
    (try simp only [Exit.inBlock, Exit.then])
    refine bodyPost_ret (results_cell_row rfl _ _ w.heap.size 28 _ (0, 0) _ rfl hh7 Tryz.underlying28 rfl (by kernel_rfl)) rfl ?_
    have hG : w.grownBy w7 (some b) := ((grown_some (World.grownBy_alloc w exp0 none) b).trans hgA).andThen hg7 (fun j e => .inl (by cases e; exact Nat.le_refl _))
    exact ⟨_, rfl, (hk5.kept hg7 (by omega)).mono (by omega), HH.out.to hG (hP5.st.kept hg7 (by simp; omega)) hP5.lt, hG⟩

set_option maxHeartbeats 1600000 in
set_option maxRecDepth 20000 in
theorem gprim_brackets (i d f : Nat) (w : World) (h : Pa w b g cap rv T i d) (hv : Gram.isVal T i = false) (hn : Gram.isName T i = false) (hs : Gram.sees T i [40] = true) (hE : CExp b g cap rv T f) (hf : ((Gram.exp T f d (i + 1)).bind fun e j => (Gram.expect T j [41]).bind fun _ k => Gram.PR.ok e k).isFuel = false) :
    Calls Tryz.prog 119 #[.pointer (some ⟨b, 0, none⟩)] w fun e w' => ePost w b g cap rv T d ((Gram.exp T f d (i + 1)).bind fun e j => (Gram.expect T j [41]).bind fun _ k => Gram.PR.ok e k) e w' := by
  have hbw := h.bl
  obtain ⟨R, hR⟩ : ∃ R, R = (Gram.exp T f d (i + 1)).bind fun e j => (Gram.expect T j [41]).bind fun _ k => Gram.PR.ok e k := ⟨_, rfl⟩
  rw [← hR] at hf ⊢
  have HR := Lib.hid hR
  clear hR
  have hV := gval_sees b g cap rv T i d _ (h.alloc exp0)
  rw [hv] at hV
  have hN := fun wx (hx : (w.alloc exp0).grownBy wx none) => gname_sees b g cap rv T i d wx ((h.alloc exp0).kept hx)
  simp only [hn] at hN
  have hA := fun wx (hx : (w.alloc exp0).grownBy wx none) => gaccept_yes b g cap rv T i d ⟨#[40]⟩ wx ((h.alloc exp0).kept hx) hs (h.nextSees hs (by decide))
  have HH := Lib.hid h
  clear h
  have hEf : (Gram.exp T f d (i + 1)).isFuel = false := by rw [HR.out] at hf; exact Gram.PR.bind_fuel hf
  have hX := fun wx (hx : Pa wx b g cap rv T (i + 1) d) => hE d (i + 1) wx hx hEf
  cases hr : Gram.exp T f d (i + 1) with
  | fuel => rw [hr] at hEf; cases hEf
  | bad a er =>
    simp only [hr, ePost] at hX
    go_enter Tryz.func119, Tryz.ntmps119
    go_wp2_with (first | (go_at_call 139; refine hV.mono ?_; rintro e w1 ⟨rfl, hg1⟩) | (go_at_call 121; refine (hN _ hg1).mono ?_; rintro e w2 ⟨rfl, hg2⟩) | (go_at_call 123; refine (hA _ (hg1.trans hg2)).mono ?_; rintro e w3 ⟨rfl, hP3, hg3⟩) | (go_at_call 145; refine (hX _ hP3).mono ?_; rintro e w4 ⟨rfl, hg4⟩))
    refine ⟨rfl, ?_⟩
    rw [HR.out, hr]
    exact ⟨rfl, ((grown_some ((World.grownBy_alloc w exp0 none).trans (hg1.trans hg2)) b).trans hg3).trans hg4⟩
  | ok y j =>
    cases y with
    | mk f1 s1 nm1 tk1 tl1 n1 m1 ks1 a1 =>
    simp only [hr, ePost, expV] at hX
    have HR1 : Hid (R = (Gram.expect T j [41]).bind fun _ k => Gram.PR.ok (.mk f1 s1 nm1 tk1 tl1 n1 m1 ks1 a1) k) := by show _ = _; rw [HR.out, hr]; rfl
    clear HR hr hEf hf
    go_enter Tryz.func119, Tryz.ntmps119
    go_wp2_with (first | (go_at_call 139; refine hV.mono ?_; rintro e w1 ⟨rfl, hg1⟩) | (go_at_call 121; refine (hN _ hg1).mono ?_; rintro e w2 ⟨rfl, hg2⟩) | (go_at_call 123; refine (hA _ (hg1.trans hg2)).mono ?_; rintro e w3 ⟨rfl, hP3, hg3⟩) | (go_at_call 145; refine (hX _ hP3).mono ?_; rintro e w4 ⟨k4, rfl, hk4, hP4, hg4⟩; obtain ⟨ka, kn, kc, rfl⟩ := hk4.form; refine Hid.out ?_))
    have hPE := hP4.alloc (.cells #[.int .i64 f1, .int .i64 s1, .string ⟨nm1.toArray⟩, .int .i64 tk1, .int .i64 tl1, .int .i64 n1, .int .i64 m1, .slice ka kn kc, .int .i64 a1] 28)
    have hgB : (w.alloc exp0).grownBy w4 (some b) := ((grown_some (hg1.trans hg2) b).trans hg3).trans hg4
    have hs3 := hg3.size
    have hs2 := (hg1.trans hg2).size
    have hs4 := hg4.size
    rw [World.size_alloc] at hs2
    rcases Bool.eq_false_or_eq_true (Gram.sees T j [41]) with s1' | s1'
    case inr =>
      have hN1 := gexpect_no b g cap rv T j d ⟨#[41]⟩ _ hPE s1'
      refine Lib.hid ?_
      go_wp2_with (first | (go_at_call 77; refine hN1.mono ?_; rintro e w5 ⟨rfl, hg5⟩))
      refine ⟨rfl, ?_⟩
      rw [HR1.out, Gram.expect_no s1']
      exact ⟨rfl, (grown_some (World.grownBy_alloc w exp0 none) b).trans ((galloc hgB _).trans hg5)⟩
    have hN1 := gexpect_yes b g cap rv T j d ⟨#[41]⟩ _ hPE s1' (hPE.nextSees s1' (by decide))
    have HRR : Hid (R = Gram.PR.ok (.mk f1 s1 nm1 tk1 tl1 n1 m1 ks1 a1) (j + 1)) := by show _ = _; rw [HR1.out, Gram.expect_yes s1']; rfl
    clear HR1 hPE
    refine Lib.hid ?_
    go_wp2_with (first | (go_at_call 77; refine hN1.mono ?_; rintro e w5 ⟨rfl, hP5, hg5⟩; refine Hid.out ?_))
    have hgA : (w.alloc exp0).grownBy w5 (some b) := (galloc hgB _).trans hg5
    obtain ⟨z0, z1, z2, z3, z4, z5, z6, z7, z8, zf⟩ := Nc.of ((hg5.block w4.heap.size (by simp) (by simp; omega)).trans (heap_alloc_new w4 _))
    have hk5 : Kids w5 w3.heap.size ks1 (.slice ka kn kc) := (hk4.kept0 (World.grownBy_alloc w4 _ none)).kept hg5 (by omega)
    refine Lib.hid ?_
    go_wp2_with (with_reducible refine hold_st 2 ?_)
    refine Lib.hid ?_
    refine wpList_store_gen rfl _ _ _ rfl w.heap.size _ rfl rfl 28 _ ((hgA.block w.heap.size (by simp) (by simp; omega)).trans (heap_alloc_new w exp0)) (by kernel_rfl) rfl (by simp [Value.oneCell']) ?_
    intro w7 hh7 hg7
    go_wp2
    (try simp only [Exit.inBlock, Exit.then])
    refine bodyPost_ret (results_cell_row rfl _ _ w.heap.size 28 _ (0, 0) _ rfl hh7 Tryz.underlying28 rfl (by kernel_rfl)) rfl ?_
    have hG : w.grownBy w7 (some b) := ((grown_some (World.grownBy_alloc w exp0 none) b).trans hgA).andThen hg7 (fun j e => .inl (by cases e; exact Nat.le_refl _))
    rw [HRR.out]
    exact ⟨_, rfl, (hk5.kept hg7 (by omega)).mono (by omega), HH.out.to hG (hP5.st.kept hg7 (by simp; omega)) hP5.lt, hG⟩

set_option maxHeartbeats 800000 in
set_option maxRecDepth 20000 in
theorem gform_not (i d : Nat) (w : World) (h : Pa w b g cap rv T i d) (hs : Gram.seesExp T i = false) :
    Calls Tryz.prog 146 #[.pointer (some ⟨b, 0, none⟩)] w fun e w' => gBad w b ((Gram.tk T i).at_ : Int) 12 e w' := by
  have hn := gexp_sees b g cap rv T i d _ (h.alloc exp0)
  rw [hs] at hn
  have ht := fun wx (hx : (w.alloc exp0).grownBy wx none) => gneed_no b g cap rv T i d wx ((h.alloc exp0).kept hx)
  have HH := Lib.hid h
  clear h
  go_enter Tryz.func146, Tryz.ntmps146
  go_wp2_with (first | (go_at_call 170; refine hn.mono ?_; rintro e w1 ⟨rfl, hg1⟩) | (go_at_call 36; refine (ht _ hg1).mono ?_; rintro e w2 ⟨rfl, hg2⟩))
  exact ⟨rfl, rfl, (grown_some ((World.grownBy_alloc w exp0 none).trans hg1) b).trans hg2⟩

theorem gprim_any (f d i : Nat) (hC : ∀ f', f' ≤ f → CExp b g cap rv T f') (w : World) (h : Pa w b g cap rv T i d) (n1 : ¬ (Gram.tk T i).text = [110, 111, 116]) (n2 : ¬ (Gram.tk T i).text = [45]) (n3 : ¬ (Gram.tk T i).text = [112, 114, 101]) (hf : (Gram.prim T (f + 1) d i).isFuel = false) :
    Calls Tryz.prog 119 #[.pointer (some ⟨b, 0, none⟩)] w fun e w' => ePost w b g cap rv T d (Gram.prim T (f + 1) d i) e w' := by
  unfold Gram.prim at hf ⊢
  rcases Bool.eq_false_or_eq_true (Gram.isVal T i) with hv | hv
  · rw [if_pos hv] at hf ⊢
    exact gprim_value b g cap rv T i d _ hf w h hv (fun wx hx => gvalue_any b g cap rv T i d hv wx hx)
  rw [if_neg (by rw [hv]; decide)] at hf ⊢
  rcases Bool.eq_false_or_eq_true (Gram.isName T i) with hn | hn
  · rw [if_pos hn] at hf ⊢
    rcases Bool.eq_false_or_eq_true (Gram.sees T (i + 1) [40]) with hs | hs
    · rw [if_pos hs] at hf ⊢
      cases f with
      | zero => unfold Gram.args at hf; cases hf
      | succ f => exact gprim_named b g cap rv T i d _ hf w h hv hn (fun wx hx => gnamed_call b g cap rv T f (fun f' h => hC f' (by omega)) d i wx hx hn hs (Gram.PR.bind_fuel hf))
    · rw [if_neg (by rw [hs]; decide)] at hf ⊢
      exact gprim_named b g cap rv T i d _ hf w h hv hn (fun wx hx => gnamed_var b g cap rv T d i wx hx hn hs)
  rw [if_neg (by rw [hn]; decide)] at hf ⊢
  rcases Bool.eq_false_or_eq_true (Gram.sees T i [40]) with hs | hs
  · rw [if_pos hs] at hf ⊢
    exact gprim_brackets b g cap rv T i d f w h hv hn hs (hC f (Nat.le_refl _)) hf
  rw [if_neg (by rw [hs]; decide)] at hf ⊢
  have n4 : ¬ (Gram.tk T i).text = [40] := by unfold Gram.sees at hs; simpa using hs
  refine gprim_form b g cap rv T i d _ hf w h hv hn hs (fun wx hx => ?_)
  unfold Gram.need at hf ⊢
  rcases Bool.eq_false_or_eq_true (Gram.seesExp T i) with he | he
  · rw [if_pos he] at hf ⊢
    cases f with
    | zero => unfold Gram.form at hf; cases hf
    | succ f =>
      have hw : Gram.expWords.contains (Gram.tk T i).text = true := by unfold Gram.seesExp at he; rw [hn, hv] at he; simpa using he
      exact gform_any b g cap rv T f i d (fun f' h => hC f' (by omega)) wx hx hw n1 n2 n3 n4 hf
  · rw [if_neg (by rw [he]; decide)]
    exact gform_not b g cap rv T i d wx hx he

set_option maxHeartbeats 1600000 in
set_option maxRecDepth 20000 in
theorem gunary_prefix (i d : Nat) (lv : Int) (R : Gram.PR Gram.Exp) (hf : R.isFuel = false) (w : World) (h : Pa w b g cap rv T i d) (hq : (Gram.tk T i).text = [110, 111, 116] ∨ (Gram.tk T i).text = [45] ∨ (Gram.tk T i).text = [112, 114, 101]) (hc : ∀ wx, Pa wx b g cap rv T i d → Calls Tryz.prog 116 #[.pointer (some ⟨b, 0, none⟩), .func (.func 117) #[.pointer (some ⟨b, 0, none⟩)] #[]] wx fun e w' => ePost wx b g cap rv T d R e w') :
    Calls Tryz.prog 74 #[.pointer (some ⟨b, 0, none⟩), .int .i64 lv] w fun e w' => ePost w b g cap rv T d R e w' := by
  have hbw := h.bl
  have hnx := gnext_any b g cap rv T i d _ (h.alloc exp0)
  have hcc := fun wx (hx : (w.alloc exp0).grownBy wx none) => hc wx ((h.alloc exp0).kept hx)
  have q1 : True := trivial
  have q2 : True := trivial
  have q3 : True := trivial
  clear q1 q2 q3
  generalize Gram.tk T i = x at hnx hq
  have hfl := fldText x
  have hmf := makeFunc_run
  have HH := Lib.hid h
  clear h hc
  have HQ := Lib.hid hq
  clear hq
  cases R with
  | fuel => cases hf
  | bad a er =>
    simp only [ePost] at hcc
    rcases HQ.out with q | q | q
    all_goals (have q0 := q; rw [q] at hfl; clear HQ)
    all_goals go_enter Tryz.func74, Tryz.ntmps74
    all_goals go_wp2_with (first | (go_at_call 37; refine hnx.mono ?_; rintro e w1 ⟨rfl, hg1⟩) | (go_at_call 116; refine (hcc _ hg1).mono ?_; rintro e w5 ⟨rfl, hg5⟩))
    all_goals exact ⟨rfl, rfl, (grown_some ((World.grownBy_alloc w exp0 none).trans hg1) b).trans hg5⟩
  | ok y j =>
    cases y with
    | mk f1 s1 nm1 tk1 tl1 n1 m1 ks1 a1 =>
    simp only [ePost, expV] at hcc
    rcases HQ.out with q | q | q
    all_goals (have q0 := q; rw [q] at hfl; clear HQ)
    all_goals go_enter Tryz.func74, Tryz.ntmps74
    all_goals go_wp2_with (first | (go_at_call 37; refine hnx.mono ?_; rintro e w1 ⟨rfl, hg1⟩) | (go_at_call 116; refine (hcc _ hg1).mono ?_; rintro e w5 ⟨k5, rfl, hk5, hP5, hg5⟩; refine Hid.out ?_))
    all_goals have hgA : (w.alloc exp0).grownBy w5 (some b) := (grown_some hg1 b).trans hg5
    all_goals have hsA := hg1.size
    all_goals rw [World.size_alloc] at hsA
    · obtain ⟨ka, kn, kc, rfl⟩ := hk5.form
      refine Lib.hid ?_
      go_wp2_with (with_reducible refine hold_st 4 ?_)
      refine Lib.hid ?_
      refine wpList_store_gen rfl _ _ _ rfl w.heap.size _ rfl rfl 28 _ ((hgA.block w.heap.size (by simp) (by simp; omega)).trans (heap_alloc_new w exp0)) (by kernel_rfl) rfl (by simp [Value.oneCell']) ?_
      intro w7 hh7 hg7
      go_wp2
      (try simp only [Exit.inBlock, Exit.then])
      refine bodyPost_ret (results_cell_row rfl _ _ w.heap.size 28 _ (0, 0) _ rfl hh7 Tryz.underlying28 rfl (by kernel_rfl)) rfl ?_
      have hG : w.grownBy w7 (some b) := ((grown_some (World.grownBy_alloc w exp0 none) b).trans hgA).andThen hg7 (fun j e => .inl (by cases e; exact Nat.le_refl _))
      exact ⟨_, rfl, (hk5.kept hg7 (by omega)).mono (by omega), HH.out.to hG (hP5.st.kept hg7 (by simp; omega)) hP5.lt, hG⟩
    · obtain ⟨ka, kn, kc, rfl⟩ := hk5.form
      refine Lib.hid ?_
      go_wp2_with (with_reducible refine hold_st 4 ?_)
      refine Lib.hid ?_
      refine wpList_store_gen rfl _ _ _ rfl w.heap.size _ rfl rfl 28 _ ((hgA.block w.heap.size (by simp) (by simp; omega)).trans (heap_alloc_new w exp0)) (by kernel_rfl) rfl (by simp [Value.oneCell']) ?_
      intro w7 hh7 hg7
      go_wp2
      (try simp only [Exit.inBlock, Exit.then])
      refine bodyPost_ret (results_cell_row rfl _ _ w.heap.size 28 _ (0, 0) _ rfl hh7 Tryz.underlying28 rfl (by kernel_rfl)) rfl ?_
      have hG : w.grownBy w7 (some b) := ((grown_some (World.grownBy_alloc w exp0 none) b).trans hgA).andThen hg7 (fun j e => .inl (by cases e; exact Nat.le_refl _))
      exact ⟨_, rfl, (hk5.kept hg7 (by omega)).mono (by omega), HH.out.to hG (hP5.st.kept hg7 (by simp; omega)) hP5.lt, hG⟩
    · obtain ⟨ka, kn, kc, rfl⟩ := hk5.form
      refine Lib.hid ?_
      go_wp2_with (with_reducible refine hold_st 4 ?_)
      refine Lib.hid ?_
      refine wpList_store_gen rfl _ _ _ rfl w.heap.size _ rfl rfl 28 _ ((hgA.block w.heap.size (by simp) (by simp; omega)).trans (heap_alloc_new w exp0)) (by kernel_rfl) rfl (by simp [Value.oneCell']) ?_
      intro w7 hh7 hg7
      go_wp2
      (try simp only [Exit.inBlock, Exit.then])
      refine bodyPost_ret (results_cell_row rfl _ _ w.heap.size 28 _ (0, 0) _ rfl hh7 Tryz.underlying28 rfl (by kernel_rfl)) rfl ?_
      have hG : w.grownBy w7 (some b) := ((grown_some (World.grownBy_alloc w exp0 none) b).trans hgA).andThen hg7 (fun j e => .inl (by cases e; exact Nat.le_refl _))
      exact ⟨_, rfl, (hk5.kept hg7 (by omega)).mono (by omega), HH.out.to hG (hP5.st.kept hg7 (by simp; omega)) hP5.lt, hG⟩

set_option maxHeartbeats 1600000 in
set_option maxRecDepth 20000 in
theorem gunary_prim (i d : Nat) (lv : Int) (R : Gram.PR Gram.Exp) (hf : R.isFuel = false) (w : World) (h : Pa w b g cap rv T i d) (q1 : ((Gram.tk T i).text == [110, 111, 116]) = false) (q2 : ((Gram.tk T i).text == [45]) = false) (q3 : ((Gram.tk T i).text == [112, 114, 101]) = false) (R1 : Gram.PR Gram.Exp) (f : Nat) (hR1 : R = R1.bind fun e j => Gram.indexed T f e j) (hc : ∀ wx, Pa wx b g cap rv T i d → Calls Tryz.prog 119 #[.pointer (some ⟨b, 0, none⟩)] wx fun e w' => ePost wx b g cap rv T d R1 e w') :
    Calls Tryz.prog 74 #[.pointer (some ⟨b, 0, none⟩), .int .i64 lv] w fun e w' => ePost w b g cap rv T d R e w' := by
  have hbw := h.bl
  have hnx := gnext_any b g cap rv T i d _ (h.alloc exp0)
  have hcc := fun wx (hx : (w.alloc exp0).grownBy wx none) => hc wx ((h.alloc exp0).kept hx)
  have HR1 := Lib.hid hR1
  clear hR1
  generalize Gram.tk T i = x at hnx q1 q2 q3
  have hfl := fldText x
  have hmf := makeFunc_run
  have HH := Lib.hid h
  clear h hc
  cases R1 with
  | fuel => rw [HR1.out] at hf; cases hf
  | bad a er =>
    simp only [ePost] at hcc
    go_enter Tryz.func74, Tryz.ntmps74
    go_wp2_with (first | (go_at_call 37; refine hnx.mono ?_; rintro e w1 ⟨rfl, hg1⟩) | (go_at_call 119; refine (hcc _ hg1).mono ?_; rintro e w5 ⟨rfl, hg5⟩))
    refine ⟨rfl, ?_⟩
    rw [HR1.out]
    exact ⟨rfl, (grown_some ((World.grownBy_alloc w exp0 none).trans hg1) b).trans hg5⟩
  | ok x0 j0 =>
    have hIf : (Gram.indexed T f x0 j0).isFuel = false := by rw [HR1.out] at hf; exact hf
    have HR2 : Hid (R = Gram.indexed T f x0 j0) := HR1
    clear HR1
    have hI := fun (B : Nat) (k0 : Value) (wx : World) h1 h2 h3 h4 => gindexed_any b g cap rv T f d j0 B x0 k0 wx h1 h2 h3 h4 hIf
    cases x0 with
    | mk f2 s2 nm2 tk2 tl2 n2 m2 ks2 a2 =>
    simp only [ePost, expV] at hcc
    cases hr : Gram.indexed T f (.mk f2 s2 nm2 tk2 tl2 n2 m2 ks2 a2) j0 with
    | fuel => rw [hr] at hIf; cases hIf
    | bad a er =>
      simp only [hr, ePostB, expV] at hI
      go_enter Tryz.func74, Tryz.ntmps74
      go_wp2_with (first | (go_at_call 37; refine hnx.mono ?_; rintro e w1 ⟨rfl, hg1⟩) | (go_at_call 119; refine (hcc _ hg1).mono ?_; rintro e w3 ⟨k3, rfl, hk3, hP3, hg3⟩; obtain ⟨kb, kn2, kc2, rfl⟩ := hk3.form; have hI3 := hI _ _ w3 hg3.size (by have := hg1.size; rw [World.size_alloc] at this; omega) hP3 hk3) | (go_at_call 118; refine hI3.mono ?_; rintro e w5 ⟨rfl, hg5⟩))
      refine ⟨rfl, ?_⟩
      rw [HR2.out, hr]
      exact ⟨rfl, ((grown_some ((World.grownBy_alloc w exp0 none).trans hg1) b).trans hg3).trans hg5⟩
    | ok y j =>
      have HRR : Hid (R = .ok y j) := by show _ = _; rw [HR2.out, hr]
      clear HR2
      cases y with
      | mk f1 s1 nm1 tk1 tl1 n1 m1 ks1 a1 =>
      simp only [hr, ePostB, expV] at hI
      go_enter Tryz.func74, Tryz.ntmps74
      go_wp2_with (first | (go_at_call 37; refine hnx.mono ?_; rintro e w1 ⟨rfl, hg1⟩) | (go_at_call 119; refine (hcc _ hg1).mono ?_; rintro e w3 ⟨k3, rfl, hk3, hP3, hg3⟩; obtain ⟨kb, kn2, kc2, rfl⟩ := hk3.form; have hI3 := hI _ _ w3 hg3.size (by have := hg1.size; rw [World.size_alloc] at this; omega) hP3 hk3) | (go_at_call 118; refine hI3.mono ?_; rintro e w5 ⟨k5, rfl, hk5, hP5, hg5⟩; refine Hid.out ?_))
      have hgA : (w.alloc exp0).grownBy w5 (some b) := ((grown_some hg1 b).trans hg3).trans hg5
      have hsA := hg1.size
      rw [World.size_alloc] at hsA
      have hs3 := hg3.size
      obtain ⟨ka, kn, kc, rfl⟩ := hk5.form
      refine Lib.hid ?_
      go_wp2_with (with_reducible refine hold_st 4 ?_)
      refine Lib.hid ?_
      refine wpList_store_gen rfl _ _ _ rfl w.heap.size _ rfl rfl 28 _ ((hgA.block w.heap.size (by simp) (by simp; omega)).trans (heap_alloc_new w exp0)) (by kernel_rfl) rfl (by simp [Value.oneCell']) ?_
      intro w7 hh7 hg7
      go_wp2
      (try simp only [Exit.inBlock, Exit.then])
      refine bodyPost_ret (results_cell_row rfl _ _ w.heap.size 28 _ (0, 0) _ rfl hh7 Tryz.underlying28 rfl (by kernel_rfl)) rfl ?_
      have hG : w.grownBy w7 (some b) := ((grown_some (World.grownBy_alloc w exp0 none) b).trans hgA).andThen hg7 (fun j e => .inl (by cases e; exact Nat.le_refl _))
      rw [HRR.out]
      exact ⟨_, rfl, (hk5.kept hg7 (by omega)).mono (by omega), HH.out.to hG (hP5.st.kept hg7 (by simp; omega)) hP5.lt, hG⟩

theorem pre_enters (args : Array Value) (w : World) : (callFunc 117 args).run Tryz.prog w = .ok (.enter 117 args) w := genters Tryz.func117 (by kernel_rfl) rfl args w

/-- prefixed does as the model does, by what read does at the tightest level -/
theorem gprefixed_any (f d i : Nat) (hR : CRead b g cap rv T f) (w : World) (h : Pa w b g cap rv T i d) (hq : Gram.sees T i [110, 111, 116] = true ∨ Gram.sees T i [45] = true ∨ Gram.sees T i [112, 114, 101] = true) (hf : (Gram.prefixed T (f + 1) d i).isFuel = false) :
    Calls Tryz.prog 117 #[.pointer (some ⟨b, 0, none⟩)] w fun e w' => ePost w b g cap rv T d (Gram.prefixed T (f + 1) d i) e w' := by
  have hT : (Gram.read T f d 11 (i + 1)).isFuel = false → ∀ wx, Pa wx b g cap rv T (i + 1) d → Calls Tryz.prog 141 #[.pointer (some ⟨b, 0, none⟩)] wx fun e w' => ePost wx b g cap rv T d (Gram.read T f d 11 (i + 1)) e w' :=
    fun h1 wx hx => gtightest_any b g cap rv T d (i + 1) _ h1 wx hx (hR d 11 (i + 1) _ (by omega) (hx.alloc exp0) h1)
  unfold Gram.prefixed at hf ⊢
  rcases Bool.eq_false_or_eq_true (Gram.sees T i [112, 114, 101]) with hp | hp
  · rw [if_pos hp] at hf ⊢
    exact gprefixed_pre b g cap rv T i d _ (Gram.PR.bind_fuel hf) w h hp (hT (Gram.PR.bind_fuel hf))
  rw [if_neg (by rw [hp]; decide)] at hf ⊢
  rcases Bool.eq_false_or_eq_true (Gram.sees T i [110, 111, 116]) with hn | hn
  · rw [if_pos hn] at hf ⊢
    exact gprefixed_not b g cap rv T i d _ (Gram.PR.bind_fuel hf) w h hn (hT (Gram.PR.bind_fuel hf))
  rw [if_neg (by rw [hn]; decide)] at hf ⊢
  have hm : Gram.sees T i [45] = true := by
    rcases hq with q | q | q
    · rw [hn] at q; cases q
    · exact q
    · rw [hp] at q; cases q
  rcases Bool.eq_false_or_eq_true (Gram.isVal T (i + 1)) with hv | hv
  · rw [if_pos hv] at hf ⊢
    exact gprefixed_val b g cap rv T f i d w h hm hv hf
  · rw [if_neg (by rw [hv]; decide)] at hf ⊢
    exact gprefixed_neg b g cap rv T i d _ (Gram.PR.bind_fuel hf) w h hm hv (hT (Gram.PR.bind_fuel hf))

theorem sees_text {T : List Lex.Tk} {i : Nat} {s : Gram.B} : Gram.sees T i s = true ↔ (Gram.tk T i).text = s := by unfold Gram.sees; rw [beq_iff_eq]

/-- all levels, by induction on the steps -/
theorem cread_all (b g cap : Nat) (rv : Value) (T : List Lex.Tk) : ∀ f, CRead b g cap rv T f := by
  intro f
  induction f using Nat.strongRecOn with
  | ind f ih =>
    cases f with
    | zero => intro d lv i w _ _ hf; unfold Gram.read at hf; cases hf
    | succ f =>
      have hE : ∀ f', f' ≤ f → CExp b g cap rv T f' := fun f' h => by
        cases f' with
        | zero => intro d i w _ hf; unfold Gram.exp at hf; cases hf
        | succ f' => exact cexp_of b g cap rv T f' (ih f' (by omega))
      intro d lv i w hlv h hf
      refine gread_disp b g cap rv T d i lv (by omega) _ hf w h ?_
      have hP := h.alloc exp0
      unfold Gram.read at hf ⊢
      unfold ruleFn
      by_cases h2 : lv ≤ 2
      · rw [if_pos h2] at hf ⊢
        rw [if_pos h2]
        exact gright_any b g cap rv T f (ih f (by omega)) d lv i _ (by omega) hP hf
      rw [if_neg h2] at hf ⊢
      rw [if_neg h2]
      by_cases h5 : lv = 5
      · rw [if_pos h5] at hf ⊢
        rw [if_pos h5]
        exact gonce_any b g cap rv T f (ih f (by omega)) d lv i _ (by omega) hP hf
      rw [if_neg h5] at hf ⊢
      rw [if_neg h5]
      by_cases h10 : lv ≤ 10
      · rw [if_pos h10] at hf ⊢
        rw [if_pos h10]
        exact gleft_any b g cap rv T f (fun f' h => ih f' (by omega)) d lv i _ (by omega) hP hf
      rw [if_neg h10] at hf ⊢
      rw [if_neg h10]
      by_cases hq : (Gram.sees T i [110, 111, 116] || Gram.sees T i [45] || Gram.sees T i [112, 114, 101]) = true
      · rw [if_pos hq] at hf ⊢
        have hq2 : Gram.sees T i [110, 111, 116] = true ∨ Gram.sees T i [45] = true ∨ Gram.sees T i [112, 114, 101] = true := by
          simp only [Bool.or_eq_true] at hq
          rcases hq with (q | q) | q
          · exact .inl q
          · exact .inr (.inl q)
          · exact .inr (.inr q)
        unfold Gram.room at hf ⊢
        refine gunary_prefix b g cap rv T i d _ _ hf _ hP (by simpa only [sees_text] using hq2) (fun wx hx => ?_)
        by_cases hd : 40 ≤ d
        · rw [if_pos hd]
          exact gwithin_no b g cap rv T _ d i wx hx hd
        · rw [if_neg hd] at hf ⊢
          cases f with
          | zero => unfold Gram.prefixed at hf; cases hf
          | succ f => exact gwithin_yes b g cap rv T _ pre_enters d i _ hf wx hx (by omega) (fun wy hy => gprefixed_any b g cap rv T f (d + 1) i (ih f (by omega)) wy hy hq2 hf)
      · rw [if_neg hq] at hf ⊢
        simp only [Bool.or_eq_true, not_or, Bool.not_eq_true] at hq
        obtain ⟨⟨q1, q2⟩, q3⟩ := hq
        cases f with
        | zero => unfold Gram.prim at hf; cases hf
        | succ f =>
          refine gunary_prim b g cap rv T i d _ _ hf _ hP q1 q2 q3 _ _ rfl (fun wx hx => ?_)
          exact gprim_any b g cap rv T f d i (fun f' h => hE f' (by omega)) wx hx (fun e => by rw [sees_text.2 e] at q1; cases q1) (fun e => by rw [sees_text.2 e] at q2; cases q2) (fun e => by rw [sees_text.2 e] at q3; cases q3) (Gram.PR.bind_fuel hf)

theorem cexp_all (f : Nat) : CExp b g cap rv T f := by
  cases f with
  | zero => intro d i w _ hf; unfold Gram.exp at hf; cases hf
  | succ f => exact cexp_of b g cap rv T f (cread_all b g cap rv T f)
end

end Go.Proofs.YtachmiajldeakaaGreatDoor
