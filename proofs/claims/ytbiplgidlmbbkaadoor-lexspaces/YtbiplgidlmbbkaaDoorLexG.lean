/- lex's reader, on: the walk of its method next: blanks and comments are passed over, and the token behind them is read. -/
import Derived.Test.YtbiplgidlmbbkaaDoorLexF
import Derived.Deep.RegionWith
namespace Go.Proofs.YtbiplgidlmbbkaaDoor
open Go.RowKit Go.Maps Go.WideMaps

theorem enter_chF (l : List UInt8) : ∀ args w, (callFunc (chF l) args).run Tryd.prog w = .ok (.enter (chF l) args) w := by
  intro args w
  unfold chF
  split
  · kernel_rfl
  · split
    · kernel_rfl
    · split <;> kernel_rfl

theorem disp_any (b : Nat) (s : ByteArray) (i m : Nat) (hs : s.size ≤ 65536) (hi : i ≤ s.size) (hbm : m ≠ b) (hb1 : b ≠ 1) (w : World) (h : Rd w b s i m) (hW : WMap w m) (hl : LaidR w) :
    Calls Tryd.prog (chF (s.data.toList.drop i)) #[.pointer (some ⟨b, 0, none⟩)] w fun e w' => rdPost b s i m w (Lex.tokAt (s.data.toList.drop i)) e w' := by
  by_cases hlt : i < s.size
  · have hlt2 : i < s.data.toList.length := by simpa using hlt
    have hl2 : s.data.toList.drop i = s.data.toList[i] :: s.data.toList.drop (i + 1) := List.drop_eq_getElem_cons hlt2
    have hn := number_any b s i m hs hlt
    have hnm := name_any b s i m hs hi hbm w h hW
    have hsg := sign_any b s i m hs hlt w h
    rcases Bool.eq_false_or_eq_true (Lex.digit s.data.toList[i]) with h1 | h1
    · have hn := hn h1 hbm hb1 w h hW hl
      have e1 : chF (s.data.toList.drop i) = 41 := by rw [hl2]; simp only [chF, h1, if_true]
      have e2 : Lex.tokAt (s.data.toList.drop i) = Lex.numTok (s.data.toList.drop i) := by
        conv => lhs; rw [hl2]
        unfold Lex.tokAt
        dsimp only
        rw [if_pos h1, ← hl2]
      rw [e1, e2]; exact hn
    · rcases Bool.eq_false_or_eq_true (Lex.word s.data.toList[i]) with h2 | h2
      · have e1 : chF (s.data.toList.drop i) = 43 := by rw [hl2]; simp only [chF, h1, h2]; rfl
        have e2 : Lex.tokAt (s.data.toList.drop i) = Lex.nameTok (s.data.toList.drop i) := by
          conv => lhs; rw [hl2]
          unfold Lex.tokAt
          dsimp only
          rw [if_neg (by rw [h1]; decide), if_pos h2, ← hl2]
        rw [e1, e2]; exact hnm
      · have e1 : chF (s.data.toList.drop i) = 44 := by rw [hl2]; simp only [chF, h1, h2]; rfl
        have e2 : Lex.tokAt (s.data.toList.drop i) = Lex.signTok (s.data.toList.drop i) := by
          conv => lhs; rw [hl2]
          unfold Lex.tokAt
          dsimp only
          rw [if_neg (by rw [h1]; decide), if_neg (by rw [h2]; decide), ← hl2]
        rw [e1, e2]; exact hsg
  · have hl2 : s.data.toList.drop i = [] := List.drop_eq_nil_of_le (by simpa using hlt)
    rw [hl2]
    exact end_any b s i m w hi h

theorem clone_any (x : ByteArray) (hx : x.size ≤ 65536) (w : World) :
    Calls Tryd.prog 28 #[.string x] w fun e w' => e = .returned (.string x) ∧ w.grownBy w' none := by
  go_enter Tryd.func28, Tryd.ntmps28
  go_wp2_with (go_at_call 45; refine (Tryd.stringslite_Clone x _ (by omega)).mono ?_; rintro e w' ⟨rfl, hb⟩)
  go_ret
  exact ⟨rfl, grown_of_below hb⟩

/-- block b is a token -/
def Tkb (w : World) (b : Nat) (v0 v1 v2 v3 v4 v5 : Value) : Prop := w.heap[b]? = some (.cells #[v0, v1, v2, v3, v4, v5] 30 (0, 0))

theorem Tkb.kept {w w' : World} {b : Nat} {v0 v1 v2 v3 v4 v5 : Value} {row : Option Nat} (h : Tkb w b v0 v1 v2 v3 v4 v5) (hg : w.grownBy w' row) (hne : some b ≠ row) : Tkb w' b v0 v1 v2 v3 v4 v5 :=
  (hg.block b (Array.getElem?_eq_some_iff.1 h).1 hne).trans h
theorem Tkb.six {w : World} {b : Nat} {v0 v1 v2 v3 v4 v5 : Value} (h : Tkb w b v0 v1 v2 v3 v4 v5) : Six w b := ⟨_, _, _, _, _, _, h⟩
theorem Tkb.c {w : World} {b : Nat} {v0 v1 v2 v3 v4 v5 : Value} (h : Tkb w b v0 v1 v2 v3 v4 v5) : w.cell? ⟨b, 0, none⟩ = some v0 ∧ w.cell? ⟨b, 1, none⟩ = some v1 ∧ w.cell? ⟨b, 2, none⟩ = some v2 ∧ w.cell? ⟨b, 3, none⟩ = some v3 ∧ w.cell? ⟨b, 4, none⟩ = some v4 ∧ w.cell? ⟨b, 5, none⟩ = some v5 :=
  ⟨cell_of_row w b 0 _ _ _ h, cell_of_row w b 1 _ _ _ h, cell_of_row w b 2 _ _ _ h, cell_of_row w b 3 _ _ _ h, cell_of_row w b 4 _ _ _ h, cell_of_row w b 5 _ _ _ h⟩

theorem Six.kept {w w' : World} {b : Nat} {row : Option Nat} (h : Six w b) (hg : w.grownBy w' row) (hne : some b ≠ row) : Six w' b := by
  obtain ⟨x0, x1, x2, x3, x4, x5, h⟩ := h
  exact ⟨x0, x1, x2, x3, x4, x5, (hg.block b (Array.getElem?_eq_some_iff.1 h).1 hne).trans h⟩
theorem Tkb.new (w : World) (v0 v1 v2 v3 v4 v5 : Value) : Tkb (w.alloc (.cells #[v0, v1, v2, v3, v4, v5] 30)) w.heap.size v0 v1 v2 v3 v4 v5 := heap_alloc_new w _

theorem tokAt_bad {l : List UInt8} {er : Int} (h : Lex.tokAt l = .bad er) : (er != 0) = true := by
  have key : er = 11 ∨ er = 2 ∨ er = 10 := by
    unfold Lex.tokAt at h
    split at h
    · cases h
    · split at h
      · unfold Lex.numTok at h
        dsimp only at h
        repeat' split at h
        all_goals (first | cases h; done | (injection h with h; omega))
      · split at h
        · unfold Lex.nameTok at h
          dsimp only at h
          repeat' split at h
          all_goals (first | cases h; done | (injection h with h; omega))
        · unfold Lex.signTok at h
          dsimp only at h
          repeat' split at h
          all_goals (first | cases h; done | (injection h with h; omega))
  rw [bne_iff_ne]
  omega

/-- what next answers, and where the reader stands then -/
def nxPost (b : Nat) (s : ByteArray) (p m : Nat) (w : World) (x : Lex.Tok) (e : Ending) (w' : World) : Prop :=
  (match x with
    | .bad er => e = .returned (.tuple #[.agg #[.int .i64 0, .string ⟨#[]⟩, .int .i64 0, .int .i64 0, .int .i64 0, .int .i64 (p : Int)], .int .i64 er]) ∧ (¬ er = 0)
    | .tok kd n t len => e = .returned (.tuple #[.agg #[.int .i64 kd, .string (s.extract p (p + len)), .int .i64 n, .int .i64 t, .int .i64 0, .int .i64 (p : Int)], .int .i64 0]) ∧ p + len ≤ s.size ∧ Rd w' b s (p + len) m) ∧ w.grownBy w' (some b)

set_option maxHeartbeats 3200000 in
theorem next_any (b : Nat) (s : ByteArray) (i m : Nat) (hs : s.size ≤ 65536) (hi : i ≤ s.size) (hbm : m ≠ b) (hb1 : b ≠ 1) (w : World) (h : Rd w b s i m) (hW : WMap w m) (hl : LaidR w) :
    Calls Tryd.prog 20 #[.pointer (some ⟨b, 0, none⟩)] w fun e w' => nxPost b s (i + Lex.skp false (s.data.toList.drop i)) m w (Lex.tokAt (s.data.toList.drop (i + Lex.skp false (s.data.toList.drop i)))) e w' := by
  have hR1 : Rd (w.alloc tk0) b s i m := h.alloc _
  have hW1 : WMap (w.alloc tk0) m := hW.kept (World.grownBy_alloc w tk0 none) (by simp)
  have hl1 : LaidR (w.alloc tk0) := hl.on (World.grownBy_alloc w tk0 none) (by simp)
  have hsk := skip_any b s i m hs hi _ hR1
  have hle := Lex.skp_le false (s.data.toList.drop i)
  rw [List.length_drop] at hle
  have hsz : s.data.toList.length = s.size := by simp
  have hbw := h.lt
  generalize Lex.skp false (s.data.toList.drop i) = k at hsk hle
  have hp : i + k ≤ s.size := by omega
  generalize i + k = p at hsk hp
  have hch := fun wx hx => choose_any b s p m hp wx hx
  have hD := fun wx hx hy hz => disp_any b s p m hs hp hbm hb1 wx hx hy hz
  have hen := enter_chF (s.data.toList.drop p)
  generalize chF (s.data.toList.drop p) = F at hch hD hen
  unfold tk0 at hsk hW1 hl1
  clear hle
  cases htk : Lex.tokAt (s.data.toList.drop p) with
  | bad er =>
    have hne := tokAt_bad htk
    rw [htk] at hD
    have hD2 : ∀ wx, Rd wx b s p m → WMap wx m → LaidR wx → Calls Tryd.prog F #[.pointer (some ⟨b, 0, none⟩)] wx fun e w' => e = .returned (.tuple #[.agg #[.int .i64 0, .string ⟨#[]⟩, .int .i64 0, .int .i64 0, .int .i64 0, .int .i64 0], .int .i64 er]) ∧ wx.grownBy w' (some b) :=
      fun wx hx hy hz => (hD wx hx hy hz).mono fun e w' hq => ⟨hq.1.1, hq.2⟩
    clear hD htk
    go_enter Tryd.func20, Tryd.ntmps20
    go_wp2_with (go_at_call 26; refine hsk.mono ?_; rintro e w1 ⟨⟨v, rfl⟩, hR2, hg1⟩; refine Hid.out ?_)
    have r1 := hR2.c1
    have hc1 := hch w1 hR2
    refine Lib.hid ?_
    go_wp2_with (go_at_call 27; refine hc1.mono ?_; rintro e w2 ⟨rfl, k2, rfl⟩; refine Hid.out ?_)
    have hW2 : WMap (w1.drewN k2) m := (hW1.kept hg1 (fun e => hbm (Option.some.inj e))).kept (grown_drewN w1 k2 none) (by simp)
    have hl2 : LaidR (w1.drewN k2) := (hl1.on hg1 (fun e => hb1 (Option.some.inj e))).on (grown_drewN w1 k2 none) (by simp)
    have hF := hD2 (w1.drewN k2) (hR2.drewN k2) hW2 hl2
    clear hc1 r1
    refine Lib.hid ?_
    go_wp2_with (with_reducible refine hF.mono ?_; rintro e w3 ⟨rfl, hg3⟩; refine Hid.out ?_)
    have hg13 := (gdrewN hg1 k2).trans hg3
    have h6 : Six w3 w.heap.size := Six.of hg13 (fun e => by have := Option.some.inj e; omega)
    obtain ⟨⟨x0, c0⟩, ⟨x1, c1⟩, ⟨x2, c2⟩, ⟨x3, c3⟩, ⟨x4, c4⟩, ⟨x5, c5⟩⟩ := h6.c
    have f0 := h6.f 0
    have f1 := h6.f 1
    have f2 := h6.f 2
    have f3 := h6.f 3
    have f4 := h6.f 4
    have f5 := h6.f 5
    have hlt3 : w.heap.size < w3.heap.size := by
      have := hg13.size
      simp only [World.size_alloc] at this
      omega
    refine Lib.hid ?_
    go_wp2
    (try simp only [Exit.inBlock, Exit.then])
    refine bodyPost_ret (v := .tuple #[.agg #[.int .i64 0, .string ⟨#[]⟩, .int .i64 0, .int .i64 0, .int .i64 0, .int .i64 (p : Int)], .int .i64 er]) ?_ rfl ?_
    · rw [results_cell_tmp rfl]
      go_simp
    · go_light
      have hg0 := (World.grownBy_alloc w _ _).trans hg13
      refine ⟨⟨rfl, bne_iff_ne.1 hne⟩, ?_⟩
      repeat (first | with_reducible exact hg0 | with_reducible refine galloc ?_ _ | with_reducible refine gset ?_ (.inl (Nat.le_refl _)) _)
  | tok kd n t len =>
    rw [htk] at hD
    obtain ⟨q, hqe⟩ : ∃ q, q = p + len := ⟨_, rfl⟩
    have hD2 : ∀ wx, Rd wx b s p m → WMap wx m → LaidR wx → Calls Tryd.prog F #[.pointer (some ⟨b, 0, none⟩)] wx fun e w' => e = .returned (.tuple #[.agg #[.int .i64 kd, .string ⟨#[]⟩, .int .i64 n, .int .i64 t, .int .i64 0, .int .i64 0], .int .i64 0]) ∧ (p ≤ q ∧ q ≤ s.size) ∧ Rd w' b s q m ∧ wx.grownBy w' (some b) :=
      fun wx hx hy hz => (hD wx hx hy hz).mono fun e w' hh => ⟨hh.1.1, ⟨by omega, by rw [hqe]; exact hh.1.2.1⟩, by rw [hqe]; exact hh.1.2.2, hh.2⟩
    rw [show nxPost b s p m w (.tok kd n t len) = fun e w' => (e = .returned (.tuple #[.agg #[.int .i64 kd, .string (s.extract p q), .int .i64 n, .int .i64 t, .int .i64 0, .int .i64 (p : Int)], .int .i64 0]) ∧ q ≤ s.size ∧ Rd w' b s q m) ∧ w.grownBy w' (some b) by rw [hqe]; rfl]
    have hsl := fun h1 h2 wx => slc_str s p q h1 h2 wx
    have hsx : (s.extract p q).size ≤ 65536 := by rw [ByteArray.size_extract]; omega
    have hcl := fun wx => clone_any (s.extract p q) hsx wx
    clear hD htk hqe hsx
    generalize s.extract p q = x at hsl hcl
    go_enter Tryd.func20, Tryd.ntmps20
    go_wp2_with (go_at_call 26; refine hsk.mono ?_; rintro e w1 ⟨⟨v, rfl⟩, hR2, hg1⟩; refine Hid.out ?_)
    have r1 := hR2.c1
    have hc1 := hch w1 hR2
    refine Lib.hid ?_
    go_wp2_with (go_at_call 27; refine hc1.mono ?_; rintro e w2 ⟨rfl, k2, rfl⟩; refine Hid.out ?_)
    have hW2 : WMap (w1.drewN k2) m := (hW1.kept hg1 (fun e => hbm (Option.some.inj e))).kept (grown_drewN w1 k2 none) (by simp)
    have hl2 : LaidR (w1.drewN k2) := (hl1.on hg1 (fun e => hb1 (Option.some.inj e))).on (grown_drewN w1 k2 none) (by simp)
    have hF := hD2 (w1.drewN k2) (hR2.drewN k2) hW2 hl2
    clear hc1 r1
    refine Lib.hid ?_
    go_wp2_with (with_reducible refine hF.mono ?_; rintro e w3 ⟨rfl, ⟨hpq, hq⟩, hR3, hg3⟩; refine Hid.out ?_)
    have hsl := hsl hpq hq
    have hg13 := (gdrewN hg1 k2).trans hg3
    have h6 : Six w3 w.heap.size := Six.of hg13 (fun e => by have := Option.some.inj e; omega)
    have hlt3 : w.heap.size < w3.heap.size := by
      have := hg13.size
      simp only [World.size_alloc] at this
      omega
    have hb3 := hR3.lt
    have r0 := hR3.c0
    have r1 := hR3.c1
    refine Lib.hid ?_
    go_wp2
    have hcl2 : Calls Tryd.prog 28 #[.string x] (w3.alloc (.cells #[.int .i64 kd, .string ⟨#[]⟩, .int .i64 n, .int .i64 t, .int .i64 0, .int .i64 (p : Int)] 30)).drew fun e w4 => e = .returned (.string x) ∧ w4.cell? ⟨w3.heap.size, 1, none⟩ = some (.string ⟨#[]⟩) ∧ w4.frozen? ⟨w3.heap.size, 1, none⟩ = false ∧ (w3.alloc (.cells #[.int .i64 kd, .string ⟨#[]⟩, .int .i64 n, .int .i64 t, .int .i64 0, .int .i64 (p : Int)] 30)).grownBy w4 none := by
      refine (hcl _).mono fun e w4 hh => ?_
      have hg : (w3.alloc (.cells #[.int .i64 kd, .string ⟨#[]⟩, .int .i64 n, .int .i64 t, .int .i64 0, .int .i64 (p : Int)] 30)).grownBy w4 none := ⟨hh.2.os, hh.2.tape, hh.2.output, hh.2.size, hh.2.block⟩
      have hT := Tkb.kept (Tkb.new w3 _ _ _ _ _ _) hg (by simp)
      exact ⟨hh.1, hT.c.2.1, hT.six.f 1, hg⟩
    go_region_with (go_at_call 28; refine hcl2.mono ?_; rintro e w4 ⟨rfl, t1, u1, hg4⟩)
    all_goals refine Hid.out ?_
    all_goals obtain ⟨t0, -, t2, t3, t4, t5⟩ := (Tkb.kept (Tkb.new w3 _ _ _ _ _ _) hg4 (by simp)).c
    all_goals have h64 := (h6.kept (World.grownBy_alloc w3 _ none) (by simp)).kept hg4 (by simp)
    all_goals obtain ⟨⟨x0, c0⟩, ⟨x1, c1⟩, ⟨x2, c2⟩, ⟨x3, c3⟩, ⟨x4, c4⟩, ⟨x5, c5⟩⟩ := h64.c
    all_goals have f0 := h64.f 0
    all_goals have f1 := h64.f 1
    all_goals have f2 := h64.f 2
    all_goals have f3 := h64.f 3
    all_goals have f4 := h64.f 4
    all_goals have f5 := h64.f 5
    all_goals have hne2 : ¬ w.heap.size = w3.heap.size := by omega
    all_goals refine Lib.hid ?_
    all_goals go_wp2
    all_goals (try simp only [Exit.inBlock, Exit.then])
    all_goals refine bodyPost_ret (v := .tuple #[.agg #[.int .i64 kd, .string x, .int .i64 n, .int .i64 t, .int .i64 0, .int .i64 (p : Int)], .int .i64 0]) ?_ rfl ?_
    all_goals first
      | (rw [results_cell_tmp rfl]; go_simp; done)
      | (go_light
         have hg0 := galloc ((World.grownBy_alloc w _ _).trans hg13) (.cells #[.int .i64 kd, .string ⟨#[]⟩, .int .i64 n, .int .i64 t, .int .i64 0, .int .i64 (p : Int)] 30)
         have hg5 := hg0.trans (hg4.but _)
         have hR4 := (hR3.alloc (.cells #[.int .i64 kd, .string ⟨#[]⟩, .int .i64 n, .int .i64 t, .int .i64 0, .int .i64 (p : Int)] 30)).kept hg4 (by simp)
         refine ⟨⟨rfl, hq, ?_⟩, ?_⟩
         · repeat (first | with_reducible exact hR4 | with_reducible refine Rd.other ?_ (by show ¬ b = w.heap.size; omega) _ | with_reducible refine Rd.other ?_ (by show ¬ b = w3.heap.size; omega) _)
         · repeat (first | with_reducible exact hg5 | with_reducible refine gset ?_ (.inl (Nat.le_refl _)) _ | with_reducible refine gset ?_ (.inl (Nat.le_of_lt hlt3)) _))

end Go.Proofs.YtbiplgidlmbbkaaDoor
