/- lex's reader, on: the walk of its method number. -/
import Derived.Test.YtbiplgidlmbbkaaDoorLexE
namespace Go.Proofs.YtbiplgidlmbbkaaDoor
open Go.RowKit Go.Maps Go.WideMaps

theorem lit_inj {a c : Int} (h : (DataW.lit (.int .i64 c) : DataW Unit) = .lit (.int .i64 a)) : c = a := by
  injection h with h; injection h

theorem digits_take (l : List UInt8) : Lex.digits (l.take (Lex.spn Lex.digit l)) := by
  rw [spn_take]
  intro c hc
  have := List.all_takeWhile (p := Lex.digit) (l := l)
  rw [List.all_eq_true] at this
  exact (digit_iff c).1 (this c hc)

set_option maxHeartbeats 3200000 in
theorem number_any (b : Nat) (s : ByteArray) (i m : Nat) (hs : s.size ≤ 65536) (hi : i < s.size) (hdg : Lex.digit (s.data.toList[i]'(by simpa using hi)) = true) (hbm : m ≠ b) (hb1 : b ≠ 1) (w : World) (h : Rd w b s i m) (hW : WMap w m) (hl : LaidR w) :
    Calls Tryd.prog 41 #[.pointer (some ⟨b, 0, none⟩)] w fun e w' => rdPost b s i m w (Lex.numTok (s.data.toList.drop i)) e w' := by
  have hR1 : Rd (w.alloc tk0) b s i m := h.alloc _
  have hsz : s.data.toList.length = s.size := by simp
  have hT := take_any 40 Lex.digit enterDigit lexDigit_any b s i m hs (by omega) _ hR1
  have hle := Lex.spn_le Lex.digit (s.data.toList.drop i)
  rw [List.length_drop] at hle
  have hpos : 0 < Lex.spn Lex.digit (s.data.toList.drop i) := by
    rw [Lex.spn_step (by simpa using hi) hdg]; omega
  have hdig := digits_take (s.data.toList.drop i)
  have ht : Lex.numTok (s.data.toList.drop i) =
      if Lex.spn Lex.word ((s.data.toList.drop i).drop (Lex.spn Lex.digit (s.data.toList.drop i))) = 0 then (if Lex.plainOk ((s.data.toList.drop i).take (Lex.spn Lex.digit (s.data.toList.drop i))) then .tok 2 (Lex.numVal ((s.data.toList.drop i).take (Lex.spn Lex.digit (s.data.toList.drop i)))) 0 (Lex.spn Lex.digit (s.data.toList.drop i)) else .bad 11)
      else if Lex.kindOk (Lex.kindOf (((s.data.toList.drop i).drop (Lex.spn Lex.digit (s.data.toList.drop i))).take (Lex.spn Lex.word ((s.data.toList.drop i).drop (Lex.spn Lex.digit (s.data.toList.drop i)))))) ((s.data.toList.drop i).take (Lex.spn Lex.digit (s.data.toList.drop i))) then .tok 2 (Bv.wrp (Lex.kindOf (((s.data.toList.drop i).drop (Lex.spn Lex.digit (s.data.toList.drop i))).take (Lex.spn Lex.word ((s.data.toList.drop i).drop (Lex.spn Lex.digit (s.data.toList.drop i)))))) (wrap64 (Lex.numVal ((s.data.toList.drop i).take (Lex.spn Lex.digit (s.data.toList.drop i)))))) (Lex.kindOf (((s.data.toList.drop i).drop (Lex.spn Lex.digit (s.data.toList.drop i))).take (Lex.spn Lex.word ((s.data.toList.drop i).drop (Lex.spn Lex.digit (s.data.toList.drop i)))))) (Lex.spn Lex.digit (s.data.toList.drop i) + Lex.spn Lex.word ((s.data.toList.drop i).drop (Lex.spn Lex.digit (s.data.toList.drop i)))) else .bad 11 := rfl
  rw [ht]
  clear ht
  generalize Lex.spn Lex.digit (s.data.toList.drop i) = k at hT hle hpos hdig
  rw [List.drop_drop]
  have hT2 := fun wx hx => take_any 42 Lex.word enterWord lexWord_any b s (i + k) m hs (by omega) wx hx
  have hle2 := Lex.spn_le Lex.word (s.data.toList.drop (i + k))
  rw [List.length_drop] at hle2
  generalize Lex.spn Lex.word (s.data.toList.drop (i + k)) = k2 at hT2 hle2
  have hes := ext_size s i k (by omega)
  have hes2 := ext_size s (i + k) k2 (by omega)
  rw [← ext_list s i k] at hdig ⊢
  rw [← ext_list s (i + k) k2]
  generalize s.extract i (i + k) = d at hT hes hdig
  generalize s.extract (i + k) (i + k + k2) = x at hT2 hes2
  have hne : d.data.toList ≠ [] := by
    intro hh
    have : d.data.toList.length = 0 := by rw [hh]; rfl
    have h2 : d.data.toList.length = d.size := by simp
    omega
  have hW1 : WMap (w.alloc tk0) m := hW.kept (World.grownBy_alloc w tk0 none) (by simp)
  have hl1 : LaidR (w.alloc tk0) := hl.on (World.grownBy_alloc w tk0 none) (by simp)
  have hwat := words_at x.data.toList
  have hkl := keyOf_string_mk (P := Tryd.prog) (k := 9) Tryd.underlying9 (s := x) (by unfold maxLen; omega)
  have hk9 := kindOf_le x.data.toList
  unfold tk0 at hT hW1 hl1
  have hbw := h.lt
  have hlen : d.data.toList.length = d.size := by simp
  by_cases h0 : k2 = 0
  · rw [if_pos h0]
    have hE : x.toList.isEmpty = true := by
      have h3 : x.toList.length = x.size := by rw [ByteArray.toList_eq]; simp
      have : x.toList.length = 0 := by omega
      rw [List.isEmpty_iff]; exact List.eq_nil_of_length_eq_zero this
    subst h0
    by_cases hp : d.size ≤ 9
    · rw [if_pos (by rw [Lex.plainOk, decide_eq_true_iff, hlen]; exact hp)]
      have hP : ∀ wx, LaidR wx → _ := fun wx (_ : LaidR wx) => plainNumber_ok d hdig hne hp wx
      unfold tkv at hP
      generalize (Lex.numVal d.data.toList : Int) = nv at hP
      clear hwat hkl hdig hne hes hes2
      go_enter Tryd.func41, Tryd.ntmps41
      go_wp2_with (go_at_call 37; refine hT.mono ?_; rintro e w1 ⟨rfl, hR2, hg1⟩; refine Hid.out ?_)
      have hT2 := hT2 w1 hR2
      refine Lib.hid ?_
      go_wp2_with (go_at_call 37; refine hT2.mono ?_; rintro e w2 ⟨rfl, hR3, hg2⟩; refine Hid.out ?_)
      have hg12 := hg1.trans hg2
      have hl2 := hl1.on hg12 (fun e => hb1 (Option.some.inj e))
      have hP := hP w2 hl2
      refine Lib.hid ?_
      go_wp2_with (go_at_call 46; refine hP.mono ?_; rintro e w3 ⟨rfl, hg23⟩; refine Hid.out ?_)
      have hR4 := hR3.kept hg23 (by simp)
      have hg3 := hg12.trans (hg23.but _)
      have h6 := Six.of hg3 (fun e => by have := Option.some.inj e; omega)
      obtain ⟨⟨x0, c0⟩, ⟨x1, c1⟩, ⟨x2, c2⟩, ⟨x3, c3⟩, ⟨x4, c4⟩, ⟨x5, c5⟩⟩ := h6.c
      have f0 := h6.f 0
      have f1 := h6.f 1
      have f2 := h6.f 2
      have f3 := h6.f 3
      have f4 := h6.f 4
      have f5 := h6.f 5
      refine Lib.hid ?_
      go_wp2
      (try simp only [Exit.inBlock, Exit.then])
      refine bodyPost_ret (v := .tuple #[tkv 2 nv 0, .int .i64 0]) ?_ rfl ?_
      · rw [results_cell_tmp rfl]
        unfold tkv
        go_simp
      · go_light
        have hR4' : Rd _ b s (i + k) m := hR4
        have hg4 := (World.grownBy_alloc w _ _).trans hg3
        refine ⟨⟨rfl, by omega, ?_⟩, ?_⟩
        · repeat (first | with_reducible exact hR4' | with_reducible refine Rd.other ?_ (by show ¬ b = w.heap.size; omega) _)
        · repeat (first | with_reducible exact hg4 | with_reducible refine gset ?_ (.inl (Nat.le_refl _)) _)
    · rw [if_neg (by rw [Lex.plainOk, decide_eq_true_iff, hlen]; exact hp)]
      have hP := fun wx hx => plainNumber_bad d hdig hne (by omega) (by omega) wx hx
      unfold tkv at hP
      clear hwat hkl hdig hne hes hes2
      go_enter Tryd.func41, Tryd.ntmps41
      go_wp2_with (go_at_call 37; refine hT.mono ?_; rintro e w1 ⟨rfl, hR2, hg1⟩; refine Hid.out ?_)
      have hT2 := hT2 w1 hR2
      refine Lib.hid ?_
      go_wp2_with (go_at_call 37; refine hT2.mono ?_; rintro e w2 ⟨rfl, hR3, hg2⟩; refine Hid.out ?_)
      have hg12 := hg1.trans hg2
      have hl2 := hl1.on hg12 (fun e => hb1 (Option.some.inj e))
      have hP := hP w2 hl2
      refine Lib.hid ?_
      go_wp2_with (go_at_call 46; refine hP.mono ?_; rintro e w3 ⟨rfl, hg23⟩; refine Hid.out ?_)
      have hR4 := hR3.kept hg23 (by simp)
      have hg3 := hg12.trans (hg23.but _)
      have h6 := Six.of hg3 (fun e => by have := Option.some.inj e; omega)
      obtain ⟨⟨x0, c0⟩, ⟨x1, c1⟩, ⟨x2, c2⟩, ⟨x3, c3⟩, ⟨x4, c4⟩, ⟨x5, c5⟩⟩ := h6.c
      have f0 := h6.f 0
      have f1 := h6.f 1
      have f2 := h6.f 2
      have f3 := h6.f 3
      have f4 := h6.f 4
      have f5 := h6.f 5
      refine Lib.hid ?_
      go_wp2
      (try simp only [Exit.inBlock, Exit.then])
      refine bodyPost_ret (v := .tuple #[tkv 0 0 0, .int .i64 11]) ?_ rfl ?_
      · rw [results_cell_tmp rfl]
        unfold tkv
        go_simp
      · go_light
        have hR4' : Rd _ b s (i + k) m := hR4
        have hg4 := (World.grownBy_alloc w _ _).trans hg3
        refine ⟨⟨rfl, by decide, i + k, by omega, ?_⟩, ?_⟩
        · repeat (first | with_reducible exact hR4' | with_reducible refine Rd.other ?_ (by show ¬ b = w.heap.size; omega) _)
        · repeat (first | with_reducible exact hg4 | with_reducible refine gset ?_ (.inl (Nat.le_refl _)) _)
  · rw [if_neg h0]
    have hE : x.toList.isEmpty = false := by
      have h3 : x.toList.length = x.size := by rw [ByteArray.toList_eq]; simp
      have : ¬ x.toList.length = 0 := by omega
      rw [List.isEmpty_eq_false_iff]; intro hh; rw [hh] at this; exact this rfl
    obtain ⟨kd, hkd⟩ : ∃ kd, kd = Lex.kindOf x.data.toList := ⟨_, rfl⟩
    rw [← hkd] at hwat hk9 ⊢
    clear hkd
    rcases Bool.eq_false_or_eq_true (Lex.kindOk kd d.data.toList) with hp | hp
    · rw [if_pos hp]
      have hP : ∀ wx, LaidR wx → _ := fun wx (_ : LaidR wx) => numberOf_ok kd d hdig hne hk9 hp wx
      unfold tkv at hP
      generalize Bv.wrp kd (wrap64 (Lex.numVal d.data.toList)) = nv at hP
      clear hdig hne hes hes2 hp
      go_enter Tryd.func41, Tryd.ntmps41
      go_wp2_with (go_at_call 37; refine hT.mono ?_; rintro e w1 ⟨rfl, hR2, hg1⟩; refine Hid.out ?_)
      have hT2 := hT2 w1 hR2
      refine Lib.hid ?_
      go_wp2_with (go_at_call 37; refine hT2.mono ?_; rintro e w2 ⟨rfl, hR3, hg2⟩; refine Hid.out ?_)
      have hg12 := hg1.trans hg2
      have hl2 := hl1.on hg12 (fun e => hb1 (Option.some.inj e))
      have r2 := hR3.c2
      obtain ⟨n1, hown⟩ := hW1.kept hg12 (fun e => hbm (Option.some.inj e))
      have hP := hP w2 hl2
      refine Lib.hid ?_
      go_wp2_with (first | (at_lookup; refine wpList_lookup_own_int _ rfl _ _ 45 rfl 9 3 .i64 lawK Tryd.underlying45 Tryd.underlying3 (zeroInt _) m n1 wordsD rfl hown _ _ rfl hkl ?_; intro c hat _; rw [show c = kd from lit_inj (hat.symm.trans hwat)]) | (go_at_call 47; refine hP.mono ?_; rintro e w3 ⟨rfl, hg23⟩; refine Hid.out ?_))
      have hR4 := hR3.kept hg23 (by simp)
      have hg3 := hg12.trans (hg23.but _)
      have h6 := Six.of hg3 (fun e => by have := Option.some.inj e; omega)
      obtain ⟨⟨x0, c0⟩, ⟨x1, c1⟩, ⟨x2, c2⟩, ⟨x3, c3⟩, ⟨x4, c4⟩, ⟨x5, c5⟩⟩ := h6.c
      have f0 := h6.f 0
      have f1 := h6.f 1
      have f2 := h6.f 2
      have f3 := h6.f 3
      have f4 := h6.f 4
      have f5 := h6.f 5
      refine Lib.hid ?_
      go_wp2
      (try simp only [Exit.inBlock, Exit.then])
      refine bodyPost_ret (v := .tuple #[tkv 2 nv kd, .int .i64 0]) ?_ rfl ?_
      · rw [results_cell_tmp rfl]
        unfold tkv
        go_simp
      · go_light
        have hR4' := hR4
        rw [Nat.add_assoc] at hR4'
        have hg4 := (World.grownBy_alloc w _ _).trans hg3
        refine ⟨⟨rfl, by omega, ?_⟩, ?_⟩
        · repeat (first | with_reducible exact hR4' | with_reducible refine Rd.other ?_ (by show ¬ b = w.heap.size; omega) _)
        · repeat (first | with_reducible exact hg4 | with_reducible refine gset ?_ (.inl (Nat.le_refl _)) _)
    · rw [if_neg (by rw [hp]; decide)]
      have hP := fun wx hx => numberOf_bad kd d hdig hne hk9 (by omega) hp wx hx
      unfold tkv at hP
      clear hdig hne hes hes2 hp
      go_enter Tryd.func41, Tryd.ntmps41
      go_wp2_with (go_at_call 37; refine hT.mono ?_; rintro e w1 ⟨rfl, hR2, hg1⟩; refine Hid.out ?_)
      have hT2 := hT2 w1 hR2
      refine Lib.hid ?_
      go_wp2_with (go_at_call 37; refine hT2.mono ?_; rintro e w2 ⟨rfl, hR3, hg2⟩; refine Hid.out ?_)
      have hg12 := hg1.trans hg2
      have hl2 := hl1.on hg12 (fun e => hb1 (Option.some.inj e))
      have r2 := hR3.c2
      obtain ⟨n1, hown⟩ := hW1.kept hg12 (fun e => hbm (Option.some.inj e))
      have hP := hP w2 hl2
      refine Lib.hid ?_
      go_wp2_with (first | (at_lookup; refine wpList_lookup_own_int _ rfl _ _ 45 rfl 9 3 .i64 lawK Tryd.underlying45 Tryd.underlying3 (zeroInt _) m n1 wordsD rfl hown _ _ rfl hkl ?_; intro c hat _; rw [show c = kd from lit_inj (hat.symm.trans hwat)]) | (go_at_call 47; refine hP.mono ?_; rintro e w3 ⟨rfl, hg23⟩; refine Hid.out ?_))
      have hR4 := hR3.kept hg23 (by simp)
      have hg3 := hg12.trans (hg23.but _)
      have h6 := Six.of hg3 (fun e => by have := Option.some.inj e; omega)
      obtain ⟨⟨x0, c0⟩, ⟨x1, c1⟩, ⟨x2, c2⟩, ⟨x3, c3⟩, ⟨x4, c4⟩, ⟨x5, c5⟩⟩ := h6.c
      have f0 := h6.f 0
      have f1 := h6.f 1
      have f2 := h6.f 2
      have f3 := h6.f 3
      have f4 := h6.f 4
      have f5 := h6.f 5
      refine Lib.hid ?_
      go_wp2
      (try simp only [Exit.inBlock, Exit.then])
      refine bodyPost_ret (v := .tuple #[tkv 0 0 0, .int .i64 11]) ?_ rfl ?_
      · rw [results_cell_tmp rfl]
        unfold tkv
        go_simp
      · go_light
        have hg4 := (World.grownBy_alloc w _ _).trans hg3
        refine ⟨⟨rfl, by decide, i + k + k2, by omega, ?_⟩, ?_⟩
        · repeat (first | with_reducible exact hR4 | with_reducible refine Rd.other ?_ (by show ¬ b = w.heap.size; omega) _)
        · repeat (first | with_reducible exact hg4 | with_reducible refine gset ?_ (.inl (Nat.le_refl _)) _)

end Go.Proofs.YtbiplgidlmbbkaaDoor
