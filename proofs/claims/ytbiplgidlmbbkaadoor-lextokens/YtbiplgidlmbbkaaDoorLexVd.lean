/- The document's own tokens, on: its token at a number, and at a sign. -/
import Derived.Test.YtbiplgidlmbbkaaDoorLexVc
import Derived.Test.YtbiplgidlmbbkaaDoorLexQ
namespace Go.Proofs.YtbiplgidlmbbkaaDoor
open Go.RowKit Go.Maps Go.WideMaps

theorem tbl_kinds : (Lex.tbl.all fun p => decide (0 ≤ p.2) && decide (p.2 ≤ 9)) = true := by kernel_rfl
theorem kindOf_both (l : List UInt8) : 0 ≤ Lex.kindOf l ∧ Lex.kindOf l ≤ 9 := by
  unfold Lex.kindOf Lex.look
  cases e : Lex.tbl.find? (fun p => p.1 == l) with
  | none => exact ⟨by decide, by decide⟩
  | some p =>
    have h1 := List.all_eq_true.1 tbl_kinds p (List.mem_of_find?_eq_some e)
    simp at h1
    exact h1
theorem kindOf_nine (l : List UInt8) : Lex.kindOf l ≤ 9 := (kindOf_both l).2
theorem kindOf_ge (l : List UInt8) : 0 ≤ Lex.kindOf l := (kindOf_both l).1
theorem Lex.take_digits (l : List UInt8) : Lex.digits (l.take (Lex.spn Lex.digit l)) := by
  have e : l.take (Lex.spn Lex.digit l) = l.takeWhile Lex.digit := by
    unfold Lex.spn
    exact (List.prefix_iff_eq_take.1 (List.takeWhile_prefix Lex.digit)).symm
  rw [e]
  intro c hc
  have h2 : Lex.digit c = true := by
    induction l with
    | nil => simp at hc
    | cons x r ih =>
      rw [List.takeWhile_cons] at hc
      cases hx : Lex.digit x with
      | false => rw [hx] at hc; simp at hc
      | true =>
        rw [hx] at hc
        rcases List.mem_cons.1 hc with rfl | h
        · exact hx
        · refine ih ?_ h
          unfold Lex.spn
          exact (List.prefix_iff_eq_take.1 (List.takeWhile_prefix Lex.digit)).symm
  simpa [Lex.digit] using h2

/-- how a number's text goes in parts -/
def numSplit (l : List UInt8) (A B : Nat) (k : Int) (d : List UInt8) : Prop :=
  A = Lex.spn Lex.digit l ∧ B = Lex.spn Lex.word (l.drop A) ∧ d = l.take A ∧ k = Lex.kindOf ((l.drop A).take B)
theorem numTok_bad {l : List UInt8} {A B : Nat} {k : Int} {d : List UInt8} (hb : ¬ B = 0) (h : numSplit l A B k d) (hk : k < 2) : Lex.numTok l = .bad 11 := by
  obtain ⟨rfl, rfl, rfl, rfl⟩ := h
  unfold Lex.numTok
  dsimp only
  rw [if_neg hb, if_neg]
  unfold Lex.kindOk
  generalize Lex.kindOf _ = k at hk
  have e : decide (2 ≤ k) = false := by rw [decide_eq_false_iff_not]; omega
  rw [e]
  simp
theorem numTok_go {l : List UInt8} {A B : Nat} {k : Int} {d : List UInt8} (hb : B = 0 ∨ ¬ k < 2) (h : numSplit l A B k d) (hok : numOk k d = true) : Lex.numTok l = .tok 2 (numN k d) k (A + B) := by
  obtain ⟨rfl, rfl, rfl, rfl⟩ := h
  unfold Lex.numTok
  dsimp only
  by_cases h0 : Lex.spn Lex.word (List.drop (Lex.spn Lex.digit l) l) = 0
  · rw [h0] at hok ⊢
    rw [if_pos rfl]
    have e : Lex.kindOf (List.take 0 (List.drop (Lex.spn Lex.digit l) l)) = 0 := rfl
    rw [e] at hok ⊢
    unfold numOk at hok
    rw [if_pos rfl] at hok
    rw [if_pos hok]
    unfold numN
    rw [if_pos rfl]
    rfl
  · have hk := hb.resolve_left h0
    rw [if_neg h0]
    unfold numOk at hok
    rw [if_neg (by omega)] at hok
    rw [if_pos hok]
    unfold numN
    rw [if_neg (by omega)]
theorem numTok_no {l : List UInt8} {A B : Nat} {k : Int} {d : List UInt8} (hb : B = 0 ∨ ¬ k < 2) (h : numSplit l A B k d) (hok : numOk k d = false) : Lex.numTok l = .bad 11 := by
  obtain ⟨rfl, rfl, rfl, rfl⟩ := h
  unfold Lex.numTok
  dsimp only
  by_cases h0 : Lex.spn Lex.word (List.drop (Lex.spn Lex.digit l) l) = 0
  · rw [h0] at hok ⊢
    rw [if_pos rfl]
    have e : Lex.kindOf (List.take 0 (List.drop (Lex.spn Lex.digit l) l)) = 0 := rfl
    rw [e] at hok
    unfold numOk at hok
    rw [if_pos rfl] at hok
    rw [if_neg (by rw [hok]; decide)]
  · have hk := hb.resolve_left h0
    rw [if_neg h0]
    unfold numOk at hok
    rw [if_neg (by omega)] at hok
    rw [if_neg (by rw [hok]; decide)]

theorem numYes {k : Int} {d : List UInt8} {x : ByteArray} {w : World} {f : Nat} (hok : numOk k d = true) (h : Calls Tryd.prog f #[.string x, .int .i64 k] w fun e w' => numPost k d w e w') :
    Calls Tryd.prog f #[.string x, .int .i64 k] w fun e w' => e = .returned (.tuple #[.int .i64 (numN k d), .bool true]) ∧ w' = w :=
  h.mono fun e w' hp => by
    obtain ⟨⟨n, he, hn⟩, hw⟩ := hp
    rw [hn hok, hok] at he
    exact ⟨he, hw⟩
def numNone (w : World) (e : Ending) (w' : World) : Prop := ∃ n : Int, e = .returned (.tuple #[.int .i64 n, .bool false]) ∧ w' = w
theorem numPost_none {w : World} {e : Ending} {w' : World} (h : numNone w e w') : ∃ n : Int, e = .returned (.tuple #[.int .i64 n, .bool false]) ∧ w' = w := h
theorem numNo {k : Int} {d : List UInt8} {x : ByteArray} {w : World} {f : Nat} (hok : numOk k d = false) (h : Calls Tryd.prog f #[.string x, .int .i64 k] w fun e w' => numPost k d w e w') :
    Calls Tryd.prog f #[.string x, .int .i64 k] w fun e w' => numNone w e w' :=
  h.mono fun e w' hp => by
    obtain ⟨⟨n, he, hn⟩, hw⟩ := hp
    rw [hok] at he
    exact ⟨n, he, hw⟩

set_option maxHeartbeats 6400000 in
set_option maxRecDepth 20000 in
theorem rtoken_num (s : ByteArray) (i : Nat) (hs : s.size ≤ 65536) (hi : i < s.size) (hD : Lex.digit (s.data.toList[i]'(by simpa using hi)) = true) (w : World) :
    Calls Tryd.prog 21 #[.string s, .int .i64 (i : Int)] w fun e w' => rtPost s i w (Lex.numTok (s.data.toList.drop i)) e w' := by
  have hsz : s.data.toList.length = s.size := by simp
  have hx := fun wx => idx_str s i hi (i : Int) rfl wx
  obtain ⟨c, hc⟩ : ∃ c : UInt8, c = s.data.toList[i]'(by simpa using hi) := ⟨_, rfl⟩
  have hp : Lex.pk s.data.toList i = c.toNat := by rw [Lex.pk_eq (by simpa using hi), hc]
  simp only [hp] at hx
  rw [← hc] at hD
  clear hc hp
  have hLf := fun wx => rletter_any c wx
  have hDt := fun wx => rdigit_any c wx
  rw [show Lex.letter c = false by unfold Lex.letter; rw [hD]; simp] at hLf
  rw [hD] at hDt
  clear hD
  obtain ⟨A, hA⟩ : ∃ A, A = Lex.spn Lex.digit (s.data.toList.drop i) := ⟨_, rfl⟩
  obtain ⟨B, hB⟩ : ∃ B, B = Lex.spn Lex.word (s.data.toList.drop (i + A)) := ⟨_, rfl⟩
  obtain ⟨d, hd⟩ : ∃ d, s.extract i (i + A) = d := ⟨_, rfl⟩
  obtain ⟨y, hy⟩ : ∃ y, s.extract (i + A) (i + A + B) = y := ⟨_, rfl⟩
  have hdl : d.data.toList = (s.data.toList.drop i).take A := by rw [← hd, ext_list]
  have hyl : y.data.toList = (s.data.toList.drop (i + A)).take B := by rw [← hy, ext_list]
  have hdig : Lex.digits d.data.toList := by rw [hdl, hA]; exact Lex.take_digits _
  have hAs : i + A ≤ s.size := by
    have := Lex.spn_le Lex.digit (s.data.toList.drop i)
    rw [List.length_drop] at this
    omega
  have hds : d.size ≤ 65536 := by
    have e1 : d.data.toList.length = d.size := Array.length_toList
    rw [hdl, List.length_take, List.length_drop] at e1
    omega
  have hkd := fun wx => rkind_any y wx
  obtain ⟨kk, hkk⟩ : ∃ kk, kk = Lex.kindOf y.data.toList := ⟨_, rfl⟩
  rw [← hkk] at hkd
  have hnum := fun (hk : kk = 0 ∨ (2 ≤ kk ∧ kk ≤ 9)) wx => rnumber_any d hdig hds kk hk wx
  have hT : numSplit (s.data.toList.drop i) A B kk d.data.toList := ⟨hA, by rw [hB, List.drop_drop], hdl, by rw [hkk, hyl, List.drop_drop]⟩
  have HT := Lib.hid hT
  have HA := Lib.hid hA
  have HB := Lib.hid hB
  have HD := Lib.hid hd
  have HY := Lib.hid hy
  have hk9 : kk ≤ 9 := by rw [hkk]; exact kindOf_nine _
  have hk0 : 0 ≤ kk := by rw [hkk]; exact kindOf_ge _
  have hkB : B = 0 → kk = 0 := by intro h; rw [hkk, hyl, h]; rfl
  have hnum : ∀ wx, (B = 0 ∨ ¬ kk < 2) → Calls Tryd.prog 33 #[.string d, .int .i64 kk] wx fun e w' => numPost kk d.data.toList wx e w' :=
    fun wx h => hnum (by rcases h with h | h; exact .inl (hkB h); exact .inr ⟨by omega, hk9⟩) wx
  clear hT hA hB hd hy hdl hyl hkk hdig hkB
  go_enter Tryd.func21, Tryd.ntmps21
  go_wp2_with (first | (go_at_call 29; refine (hLf _).mono ?_; rintro e w' ⟨rfl, rfl⟩) | (go_at_call 30; refine (hDt _).mono ?_; rintro e w' ⟨rfl, rfl⟩))
  go_loop [6] (fun a => ∃ j : Nat, i ≤ j ∧ j ≤ s.size ∧ a = .int .i64 (j : Int) ∧ Hid (j + Lex.spn Lex.digit (s.data.toList.drop j) = i + A)) (fun a => s.size - (intOf a).toNat)
  case atStart => exact ⟨i, Nat.le_refl _, Nat.le_of_lt hi, rfl, Lib.hid (by rw [HA.out])⟩
  case round =>
    obtain ⟨j, hij, hj, rfl, HJ0⟩ := hrel
    by_cases hlt : j < s.size
    · have hx2 := fun wx => idx_str s j hlt (j : Int) rfl wx
      obtain ⟨c2, hc2⟩ : ∃ c2 : UInt8, c2 = s.data.toList[j]'(by simpa using hlt) := ⟨_, rfl⟩
      have hp2 : Lex.pk s.data.toList j = c2.toNat := by rw [Lex.pk_eq (by simpa using hlt), hc2]
      simp only [hp2] at hx2
      have hd2 := fun wx => rdigit_any c2 wx
      have hstep := Lex.spn_step (p := Lex.digit) (l := s.data.toList) (j := j) (by simpa using hlt)
      have hstop := Lex.spn_stop (p := Lex.digit) (l := s.data.toList) (j := j) (by simpa using hlt)
      rw [← hc2] at hstep hstop
      have HSTEP := Lib.hid hstep
      have HSTOP := Lib.hid hstop
      clear hstep hstop hc2 hp2
      rcases Bool.eq_false_or_eq_true (Lex.digit c2) with hr | hr
      · rw [hr] at hd2
        have e1 := HJ0.out
        have e2 := HSTEP.out hr
        have HN : Hid (j + 1 + Lex.spn Lex.digit (s.data.toList.drop (j + 1)) = i + A) := Lib.hid (by omega)
        clear e1 e2 HSTEP HSTOP HJ0
        go_wp2_with (go_at_call 30; refine (hd2 _).mono ?_; rintro e w' ⟨rfl, rfl⟩)
        go_round
        case rel => exact ⟨j + 1, by omega, by omega, by go_num, HN⟩
        case measure => simp [intOf]; omega
      · rw [hr] at hd2
        have e1 := HJ0.out
        have e2 := HSTOP.out hr
        have HJ : Hid (j = i + A) := Lib.hid (by omega)
        clear e1 e2 HSTEP HSTOP HJ0
        have hsl := fun wx => slc_str s i j hij hj wx
        rw [show s.extract i j = d by rw [HJ.out]; exact HD.out] at hsl
        go_wp2_with (go_at_call 30; refine (hd2 _).mono ?_; rintro e w' ⟨rfl, rfl⟩)
        go_loop [10] (fun a => ∃ e : Nat, j ≤ e ∧ e ≤ s.size ∧ a = .int .i64 (e : Int) ∧ Hid (e + Lex.spn Lex.word (s.data.toList.drop e) = i + A + B)) (fun a => s.size - (intOf a).toNat)
        case atStart => exact ⟨j, Nat.le_refl _, hj, rfl, Lib.hid (by rw [HJ.out, HB.out])⟩
        case round =>
          obtain ⟨e, hje, he, rfl, H3⟩ := hrel
          by_cases hlt3 : e < s.size
          · have hx3 := fun wx => idx_str s e hlt3 (e : Int) rfl wx
            obtain ⟨c3, hc3⟩ : ∃ c3 : UInt8, c3 = s.data.toList[e]'(by simpa using hlt3) := ⟨_, rfl⟩
            have hp3 : Lex.pk s.data.toList e = c3.toNat := by rw [Lex.pk_eq (by simpa using hlt3), hc3]
            simp only [hp3] at hx3
            have hl3 := fun wx => rletter_any c3 wx
            have hd3 := fun wx => rdigit_any c3 wx
            have hstep := Lex.spn_step (p := Lex.word) (l := s.data.toList) (j := e) (by simpa using hlt3)
            have hstop := Lex.spn_stop (p := Lex.word) (l := s.data.toList) (j := e) (by simpa using hlt3)
            rw [← hc3, word_or] at hstep hstop
            have HSTEP := Lib.hid hstep
            have HSTOP := Lib.hid hstop
            clear hstep hstop hc3 hp3
            rcases Bool.eq_false_or_eq_true (Lex.letter c3) with hq | hq
            · rw [hq] at hl3
              have e1 := H3.out
              have e2 := HSTEP.out (by rw [hq]; rfl)
              have HN : Hid (e + 1 + Lex.spn Lex.word (s.data.toList.drop (e + 1)) = i + A + B) := Lib.hid (by omega)
              clear e1 e2 HSTEP HSTOP H3
              go_wp2_with (first | (go_at_call 29; refine (hl3 _).mono ?_; rintro e w' ⟨rfl, rfl⟩) | (go_at_call 30; refine (hd3 _).mono ?_; rintro e w' ⟨rfl, rfl⟩))
              go_round
              case rel => exact ⟨e + 1, by omega, by omega, by go_num, HN⟩
              case measure => simp [intOf]; omega
            · rcases Bool.eq_false_or_eq_true (Lex.digit c3) with hr | hr
              · rw [hq] at hl3
                rw [hr] at hd3
                have e1 := H3.out
                have e2 := HSTEP.out (by rw [hq, hr]; rfl)
                have HN : Hid (e + 1 + Lex.spn Lex.word (s.data.toList.drop (e + 1)) = i + A + B) := Lib.hid (by omega)
                clear e1 e2 HSTEP HSTOP H3
                go_wp2_with (first | (go_at_call 29; refine (hl3 _).mono ?_; rintro e w' ⟨rfl, rfl⟩) | (go_at_call 30; refine (hd3 _).mono ?_; rintro e w' ⟨rfl, rfl⟩))
                go_round
                case rel => exact ⟨e + 1, by omega, by omega, by go_num, HN⟩
                case measure => simp [intOf]; omega
              · rw [hq] at hl3
                rw [hr] at hd3
                have e1 := H3.out
                have e2 := HSTOP.out (by rw [hq, hr]; rfl)
                have HE : Hid (e = i + A + B) := Lib.hid (by omega)
                clear e1 e2 HSTEP HSTOP H3
                have hsl2 := fun wx => slc_str s j e hje he wx
                rw [show s.extract j e = y by rw [HJ.out, HE.out]; exact HY.out] at hsl2
                have hsl3 := fun wx => slc_str s i e (by omega) he wx
                obtain ⟨z, hz⟩ : ∃ z, z = s.extract i e := ⟨_, rfl⟩
                rw [← hz] at hsl3
                have HZ : Hid (s.extract i (i + (A + B)) = z) := Lib.hid (by rw [hz, HE.out, Nat.add_assoc])
                have hes : i + (A + B) ≤ s.size := by have := HE.out; omega
                clear hz
                by_cases hb0 : B = 0
                · have hd1 : ¬ j < e := by have := HJ.out; have := HE.out; omega
                  rcases Bool.eq_false_or_eq_true (numOk kk d.data.toList) with hok | hok
                  · have HTok := Lib.hid (numTok_go (by omega) HT.out hok)
                    have hny := fun wx => numYes hok (hnum wx (by omega))
                    generalize numN kk d.data.toList = N at hny HTok
                    clear hok hnum hb0
                    go_wp2_with (first | (go_at_call 32; refine (hkd _).mono ?_; rintro e w1 ⟨rfl, hg1⟩; refine Hid.out ?_) | (go_at_call 29; refine (hl3 _).mono ?_; rintro e w' ⟨rfl, rfl⟩) | (go_at_call 30; refine (hd3 _).mono ?_; rintro e w' ⟨rfl, rfl⟩))
                    have h6 := Six.of hg1 (by simp)
                    obtain ⟨⟨x0, c0⟩, ⟨x1, c1⟩, ⟨x2, c2⟩, ⟨x3, c3⟩, ⟨x4, c4⟩, ⟨x5, c5⟩⟩ := h6.c
                    have f0 := h6.f 0
                    have f1 := h6.f 1
                    have f2 := h6.f 2
                    have f3 := h6.f 3
                    have f4 := h6.f 4
                    have f5 := h6.f 5
                    clear h6
                    refine Lib.hid ?_
                    go_wp2_with (go_at_call 33; refine (hny _).mono ?_; rintro e w' ⟨rfl, rfl⟩)
                    (try simp only [Exit.inBlock, Exit.then])
                    refine bodyPost_ret (v := .tuple #[.agg #[.int .i64 2, .string z, .int .i64 N, .int .i64 kk, .int .i64 0, .int .i64 (i : Int)], .int .i64 0]) ?_ rfl ?_
                    · rw [results_cell_tmp rfl]
                      go_simp
                    · go_light
                      have hg2 := (World.grownBy_alloc w tk0 none).trans hg1
                      rw [HTok.out]
                      refine ⟨⟨by rw [HZ.out], hes⟩, ?_⟩
                      repeat (first | with_reducible exact hg2 | with_reducible refine gset ?_ (.inl (Nat.le_refl _)) _)
                  · have HTok := Lib.hid (numTok_no (by omega) HT.out hok)
                    have hnn := fun wx => numNo hok (hnum wx (by omega))
                    clear hok hnum hb0
                    go_wp2_with (first | (go_at_call 32; refine (hkd _).mono ?_; rintro e w1 ⟨rfl, hg1⟩; refine Hid.out ?_) | (go_at_call 29; refine (hl3 _).mono ?_; rintro e w' ⟨rfl, rfl⟩) | (go_at_call 30; refine (hd3 _).mono ?_; rintro e w' ⟨rfl, rfl⟩))
                    have h6 := Six.of hg1 (by simp)
                    obtain ⟨⟨x0, c0⟩, ⟨x1, c1⟩, ⟨x2, c2⟩, ⟨x3, c3⟩, ⟨x4, c4⟩, ⟨x5, c5⟩⟩ := h6.c
                    have f0 := h6.f 0
                    have f1 := h6.f 1
                    have f2 := h6.f 2
                    have f3 := h6.f 3
                    have f4 := h6.f 4
                    have f5 := h6.f 5
                    clear h6
                    refine Lib.hid ?_
                    go_wp2_with (go_at_call 33; refine (hnn _).mono ?_; rintro e w' hp; obtain ⟨n0, rfl, rfl⟩ := numPost_none hp)
                    (try simp only [Exit.inBlock, Exit.then])
                    refine bodyPost_ret (v := .tuple #[.agg #[.int .i64 0, .string ⟨#[]⟩, .int .i64 0, .int .i64 0, .int .i64 0, .int .i64 0], .int .i64 11]) ?_ rfl ?_
                    · rw [results_cell_tmp rfl]
                      go_simp
                    · go_light
                      have hg2 := (World.grownBy_alloc w tk0 none).trans hg1
                      rw [HTok.out]
                      refine ⟨rfl, ?_⟩
                      repeat (first | with_reducible exact hg2 | with_reducible refine gset ?_ (.inl (Nat.le_refl _)) _)
                · have hd1 : j < e := by have := HJ.out; have := HE.out; omega
                  by_cases hk2 : kk < 2
                  · have HTok := Lib.hid (numTok_bad hb0 HT.out hk2)
                    clear hnum hb0
                    go_wp2_with (first | (go_at_call 32; refine (hkd _).mono ?_; rintro e w1 ⟨rfl, hg1⟩; refine Hid.out ?_) | (go_at_call 29; refine (hl3 _).mono ?_; rintro e w' ⟨rfl, rfl⟩) | (go_at_call 30; refine (hd3 _).mono ?_; rintro e w' ⟨rfl, rfl⟩))
                    have h6 := Six.of hg1 (by simp)
                    obtain ⟨⟨x0, c0⟩, ⟨x1, c1⟩, ⟨x2, c2⟩, ⟨x3, c3⟩, ⟨x4, c4⟩, ⟨x5, c5⟩⟩ := h6.c
                    have f0 := h6.f 0
                    have f1 := h6.f 1
                    have f2 := h6.f 2
                    have f3 := h6.f 3
                    have f4 := h6.f 4
                    have f5 := h6.f 5
                    clear h6
                    refine Lib.hid ?_
                    go_wp2
                    (try simp only [Exit.inBlock, Exit.then])
                    refine bodyPost_ret (v := .tuple #[.agg #[.int .i64 0, .string ⟨#[]⟩, .int .i64 0, .int .i64 0, .int .i64 0, .int .i64 0], .int .i64 11]) ?_ rfl ?_
                    · rw [results_cell_tmp rfl]
                      go_simp
                    · go_light
                      have hg2 := (World.grownBy_alloc w tk0 none).trans hg1
                      rw [HTok.out]
                      refine ⟨rfl, ?_⟩
                      repeat (first | with_reducible exact hg2 | with_reducible refine gset ?_ (.inl (Nat.le_refl _)) _)
                  · rcases Bool.eq_false_or_eq_true (numOk kk d.data.toList) with hok | hok
                    · have HTok := Lib.hid (numTok_go (by omega) HT.out hok)
                      have hny := fun wx => numYes hok (hnum wx (by omega))
                      generalize numN kk d.data.toList = N at hny HTok
                      clear hok hnum hb0
                      go_wp2_with (first | (go_at_call 32; refine (hkd _).mono ?_; rintro e w1 ⟨rfl, hg1⟩; refine Hid.out ?_) | (go_at_call 29; refine (hl3 _).mono ?_; rintro e w' ⟨rfl, rfl⟩) | (go_at_call 30; refine (hd3 _).mono ?_; rintro e w' ⟨rfl, rfl⟩))
                      have h6 := Six.of hg1 (by simp)
                      obtain ⟨⟨x0, c0⟩, ⟨x1, c1⟩, ⟨x2, c2⟩, ⟨x3, c3⟩, ⟨x4, c4⟩, ⟨x5, c5⟩⟩ := h6.c
                      have f0 := h6.f 0
                      have f1 := h6.f 1
                      have f2 := h6.f 2
                      have f3 := h6.f 3
                      have f4 := h6.f 4
                      have f5 := h6.f 5
                      clear h6
                      refine Lib.hid ?_
                      go_wp2_with (go_at_call 33; refine (hny _).mono ?_; rintro e w' ⟨rfl, rfl⟩)
                      (try simp only [Exit.inBlock, Exit.then])
                      refine bodyPost_ret (v := .tuple #[.agg #[.int .i64 2, .string z, .int .i64 N, .int .i64 kk, .int .i64 0, .int .i64 (i : Int)], .int .i64 0]) ?_ rfl ?_
                      · rw [results_cell_tmp rfl]
                        go_simp
                      · go_light
                        have hg2 := (World.grownBy_alloc w tk0 none).trans hg1
                        rw [HTok.out]
                        refine ⟨⟨by rw [HZ.out], hes⟩, ?_⟩
                        repeat (first | with_reducible exact hg2 | with_reducible refine gset ?_ (.inl (Nat.le_refl _)) _)
                    · have HTok := Lib.hid (numTok_no (by omega) HT.out hok)
                      have hnn := fun wx => numNo hok (hnum wx (by omega))
                      clear hok hnum hb0
                      go_wp2_with (first | (go_at_call 32; refine (hkd _).mono ?_; rintro e w1 ⟨rfl, hg1⟩; refine Hid.out ?_) | (go_at_call 29; refine (hl3 _).mono ?_; rintro e w' ⟨rfl, rfl⟩) | (go_at_call 30; refine (hd3 _).mono ?_; rintro e w' ⟨rfl, rfl⟩))
                      have h6 := Six.of hg1 (by simp)
                      obtain ⟨⟨x0, c0⟩, ⟨x1, c1⟩, ⟨x2, c2⟩, ⟨x3, c3⟩, ⟨x4, c4⟩, ⟨x5, c5⟩⟩ := h6.c
                      have f0 := h6.f 0
                      have f1 := h6.f 1
                      have f2 := h6.f 2
                      have f3 := h6.f 3
                      have f4 := h6.f 4
                      have f5 := h6.f 5
                      clear h6
                      refine Lib.hid ?_
                      go_wp2_with (go_at_call 33; refine (hnn _).mono ?_; rintro e w' hp; obtain ⟨n0, rfl, rfl⟩ := numPost_none hp)
                      (try simp only [Exit.inBlock, Exit.then])
                      refine bodyPost_ret (v := .tuple #[.agg #[.int .i64 0, .string ⟨#[]⟩, .int .i64 0, .int .i64 0, .int .i64 0, .int .i64 0], .int .i64 11]) ?_ rfl ?_
                      · rw [results_cell_tmp rfl]
                        go_simp
                      · go_light
                        have hg2 := (World.grownBy_alloc w tk0 none).trans hg1
                        rw [HTok.out]
                        refine ⟨rfl, ?_⟩
                        repeat (first | with_reducible exact hg2 | with_reducible refine gset ?_ (.inl (Nat.le_refl _)) _)
          · have e1 := H3.out
            have e2 := Lex.spn_end Lex.word (l := s.data.toList) (j := e) (by simpa using hlt3)
            have HE : Hid (e = i + A + B) := Lib.hid (by omega)
            clear e1 e2 H3
            have hsl2 := fun wx => slc_str s j e hje he wx
            rw [show s.extract j e = y by rw [HJ.out, HE.out]; exact HY.out] at hsl2
            have hsl3 := fun wx => slc_str s i e (by omega) he wx
            obtain ⟨z, hz⟩ : ∃ z, z = s.extract i e := ⟨_, rfl⟩
            rw [← hz] at hsl3
            have HZ : Hid (s.extract i (i + (A + B)) = z) := Lib.hid (by rw [hz, HE.out, Nat.add_assoc])
            have hes : i + (A + B) ≤ s.size := by have := HE.out; omega
            clear hz
            by_cases hb0 : B = 0
            · exfalso; have := HJ.out; have := HE.out; omega
            · have hd1 : j < e := by have := HJ.out; have := HE.out; omega
              by_cases hk2 : kk < 2
              · have HTok := Lib.hid (numTok_bad hb0 HT.out hk2)
                clear hnum hb0
                go_wp2_with (first | (go_at_call 32; refine (hkd _).mono ?_; rintro e w1 ⟨rfl, hg1⟩; refine Hid.out ?_))
                have h6 := Six.of hg1 (by simp)
                obtain ⟨⟨x0, c0⟩, ⟨x1, c1⟩, ⟨x2, c2⟩, ⟨x3, c3⟩, ⟨x4, c4⟩, ⟨x5, c5⟩⟩ := h6.c
                have f0 := h6.f 0
                have f1 := h6.f 1
                have f2 := h6.f 2
                have f3 := h6.f 3
                have f4 := h6.f 4
                have f5 := h6.f 5
                clear h6
                refine Lib.hid ?_
                go_wp2
                (try simp only [Exit.inBlock, Exit.then])
                refine bodyPost_ret (v := .tuple #[.agg #[.int .i64 0, .string ⟨#[]⟩, .int .i64 0, .int .i64 0, .int .i64 0, .int .i64 0], .int .i64 11]) ?_ rfl ?_
                · rw [results_cell_tmp rfl]
                  go_simp
                · go_light
                  have hg2 := (World.grownBy_alloc w tk0 none).trans hg1
                  rw [HTok.out]
                  refine ⟨rfl, ?_⟩
                  repeat (first | with_reducible exact hg2 | with_reducible refine gset ?_ (.inl (Nat.le_refl _)) _)
              · rcases Bool.eq_false_or_eq_true (numOk kk d.data.toList) with hok | hok
                · have HTok := Lib.hid (numTok_go (by omega) HT.out hok)
                  have hny := fun wx => numYes hok (hnum wx (by omega))
                  generalize numN kk d.data.toList = N at hny HTok
                  clear hok hnum hb0
                  go_wp2_with (first | (go_at_call 32; refine (hkd _).mono ?_; rintro e w1 ⟨rfl, hg1⟩; refine Hid.out ?_))
                  have h6 := Six.of hg1 (by simp)
                  obtain ⟨⟨x0, c0⟩, ⟨x1, c1⟩, ⟨x2, c2⟩, ⟨x3, c3⟩, ⟨x4, c4⟩, ⟨x5, c5⟩⟩ := h6.c
                  have f0 := h6.f 0
                  have f1 := h6.f 1
                  have f2 := h6.f 2
                  have f3 := h6.f 3
                  have f4 := h6.f 4
                  have f5 := h6.f 5
                  clear h6
                  refine Lib.hid ?_
                  go_wp2_with (go_at_call 33; refine (hny _).mono ?_; rintro e w' ⟨rfl, rfl⟩)
                  (try simp only [Exit.inBlock, Exit.then])
                  refine bodyPost_ret (v := .tuple #[.agg #[.int .i64 2, .string z, .int .i64 N, .int .i64 kk, .int .i64 0, .int .i64 (i : Int)], .int .i64 0]) ?_ rfl ?_
                  · rw [results_cell_tmp rfl]
                    go_simp
                  · go_light
                    have hg2 := (World.grownBy_alloc w tk0 none).trans hg1
                    rw [HTok.out]
                    refine ⟨⟨by rw [HZ.out], hes⟩, ?_⟩
                    repeat (first | with_reducible exact hg2 | with_reducible refine gset ?_ (.inl (Nat.le_refl _)) _)
                · have HTok := Lib.hid (numTok_no (by omega) HT.out hok)
                  have hnn := fun wx => numNo hok (hnum wx (by omega))
                  clear hok hnum hb0
                  go_wp2_with (first | (go_at_call 32; refine (hkd _).mono ?_; rintro e w1 ⟨rfl, hg1⟩; refine Hid.out ?_))
                  have h6 := Six.of hg1 (by simp)
                  obtain ⟨⟨x0, c0⟩, ⟨x1, c1⟩, ⟨x2, c2⟩, ⟨x3, c3⟩, ⟨x4, c4⟩, ⟨x5, c5⟩⟩ := h6.c
                  have f0 := h6.f 0
                  have f1 := h6.f 1
                  have f2 := h6.f 2
                  have f3 := h6.f 3
                  have f4 := h6.f 4
                  have f5 := h6.f 5
                  clear h6
                  refine Lib.hid ?_
                  go_wp2_with (go_at_call 33; refine (hnn _).mono ?_; rintro e w' hp; obtain ⟨n0, rfl, rfl⟩ := numPost_none hp)
                  (try simp only [Exit.inBlock, Exit.then])
                  refine bodyPost_ret (v := .tuple #[.agg #[.int .i64 0, .string ⟨#[]⟩, .int .i64 0, .int .i64 0, .int .i64 0, .int .i64 0], .int .i64 11]) ?_ rfl ?_
                  · rw [results_cell_tmp rfl]
                    go_simp
                  · go_light
                    have hg2 := (World.grownBy_alloc w tk0 none).trans hg1
                    rw [HTok.out]
                    refine ⟨rfl, ?_⟩
                    repeat (first | with_reducible exact hg2 | with_reducible refine gset ?_ (.inl (Nat.le_refl _)) _)
    · have e1 := HJ0.out
      have e2 := Lex.spn_end Lex.digit (l := s.data.toList) (j := j) (by simpa using hlt)
      have HJ : Hid (j = i + A) := Lib.hid (by omega)
      clear e1 e2 HJ0
      have hsl := fun wx => slc_str s i j hij hj wx
      rw [show s.extract i j = d by rw [HJ.out]; exact HD.out] at hsl
      go_wp2
      go_loop [10] (fun a => ∃ e : Nat, j ≤ e ∧ e ≤ s.size ∧ a = .int .i64 (e : Int) ∧ Hid (e + Lex.spn Lex.word (s.data.toList.drop e) = i + A + B)) (fun a => s.size - (intOf a).toNat)
      case atStart => exact ⟨j, Nat.le_refl _, hj, rfl, Lib.hid (by rw [HJ.out, HB.out])⟩
      case round =>
        obtain ⟨e, hje, he, rfl, H3⟩ := hrel
        by_cases hlt3 : e < s.size
        · exfalso; omega
        · have e1 := H3.out
          have e2 := Lex.spn_end Lex.word (l := s.data.toList) (j := e) (by simpa using hlt3)
          have HE : Hid (e = i + A + B) := Lib.hid (by omega)
          clear e1 e2 H3
          have hsl2 := fun wx => slc_str s j e hje he wx
          rw [show s.extract j e = y by rw [HJ.out, HE.out]; exact HY.out] at hsl2
          have hsl3 := fun wx => slc_str s i e (by omega) he wx
          obtain ⟨z, hz⟩ : ∃ z, z = s.extract i e := ⟨_, rfl⟩
          rw [← hz] at hsl3
          have HZ : Hid (s.extract i (i + (A + B)) = z) := Lib.hid (by rw [hz, HE.out, Nat.add_assoc])
          have hes : i + (A + B) ≤ s.size := by have := HE.out; omega
          clear hz
          by_cases hb0 : B = 0
          · have hd1 : ¬ j < e := by have := HJ.out; have := HE.out; omega
            rcases Bool.eq_false_or_eq_true (numOk kk d.data.toList) with hok | hok
            · have HTok := Lib.hid (numTok_go (by omega) HT.out hok)
              have hny := fun wx => numYes hok (hnum wx (by omega))
              generalize numN kk d.data.toList = N at hny HTok
              clear hok hnum hb0
              go_wp2_with (first | (go_at_call 32; refine (hkd _).mono ?_; rintro e w1 ⟨rfl, hg1⟩; refine Hid.out ?_))
              have h6 := Six.of hg1 (by simp)
              obtain ⟨⟨x0, c0⟩, ⟨x1, c1⟩, ⟨x2, c2⟩, ⟨x3, c3⟩, ⟨x4, c4⟩, ⟨x5, c5⟩⟩ := h6.c
              have f0 := h6.f 0
              have f1 := h6.f 1
              have f2 := h6.f 2
              have f3 := h6.f 3
              have f4 := h6.f 4
              have f5 := h6.f 5
              clear h6
              refine Lib.hid ?_
              go_wp2_with (go_at_call 33; refine (hny _).mono ?_; rintro e w' ⟨rfl, rfl⟩)
              (try simp only [Exit.inBlock, Exit.then])
              refine bodyPost_ret (v := .tuple #[.agg #[.int .i64 2, .string z, .int .i64 N, .int .i64 kk, .int .i64 0, .int .i64 (i : Int)], .int .i64 0]) ?_ rfl ?_
              · rw [results_cell_tmp rfl]
                go_simp
              · go_light
                have hg2 := (World.grownBy_alloc w tk0 none).trans hg1
                rw [HTok.out]
                refine ⟨⟨by rw [HZ.out], hes⟩, ?_⟩
                repeat (first | with_reducible exact hg2 | with_reducible refine gset ?_ (.inl (Nat.le_refl _)) _)
            · have HTok := Lib.hid (numTok_no (by omega) HT.out hok)
              have hnn := fun wx => numNo hok (hnum wx (by omega))
              clear hok hnum hb0
              go_wp2_with (first | (go_at_call 32; refine (hkd _).mono ?_; rintro e w1 ⟨rfl, hg1⟩; refine Hid.out ?_))
              have h6 := Six.of hg1 (by simp)
              obtain ⟨⟨x0, c0⟩, ⟨x1, c1⟩, ⟨x2, c2⟩, ⟨x3, c3⟩, ⟨x4, c4⟩, ⟨x5, c5⟩⟩ := h6.c
              have f0 := h6.f 0
              have f1 := h6.f 1
              have f2 := h6.f 2
              have f3 := h6.f 3
              have f4 := h6.f 4
              have f5 := h6.f 5
              clear h6
              refine Lib.hid ?_
              go_wp2_with (go_at_call 33; refine (hnn _).mono ?_; rintro e w' hp; obtain ⟨n0, rfl, rfl⟩ := numPost_none hp)
              (try simp only [Exit.inBlock, Exit.then])
              refine bodyPost_ret (v := .tuple #[.agg #[.int .i64 0, .string ⟨#[]⟩, .int .i64 0, .int .i64 0, .int .i64 0, .int .i64 0], .int .i64 11]) ?_ rfl ?_
              · rw [results_cell_tmp rfl]
                go_simp
              · go_light
                have hg2 := (World.grownBy_alloc w tk0 none).trans hg1
                rw [HTok.out]
                refine ⟨rfl, ?_⟩
                repeat (first | with_reducible exact hg2 | with_reducible refine gset ?_ (.inl (Nat.le_refl _)) _)
          · exfalso; have := HJ.out; have := HE.out; omega

set_option maxHeartbeats 3200000 in
set_option maxRecDepth 20000 in
theorem rtoken_sign (s : ByteArray) (i : Nat) (hs : s.size ≤ 65536) (hi : i < s.size) (hW : Lex.word (s.data.toList[i]'(by simpa using hi)) = false) (w : World) :
    Calls Tryd.prog 21 #[.string s, .int .i64 (i : Int)] w fun e w' => rtPost s i w (Lex.signTok (s.data.toList.drop i)) e w' := by
  have hsz : s.data.toList.length = s.size := by simp
  have hx := fun wx => idx_str s i hi (i : Int) rfl wx
  obtain ⟨c, hc⟩ : ∃ c : UInt8, c = s.data.toList[i]'(by simpa using hi) := ⟨_, rfl⟩
  have hp : Lex.pk s.data.toList i = c.toNat := by rw [Lex.pk_eq (by simpa using hi), hc]
  simp only [hp] at hx
  rw [← hc] at hW
  clear hc hp
  have hLf := fun wx => rletter_any c wx
  have hDf := fun wx => rdigit_any c wx
  have hD : Lex.digit c = false := by
    have h := word_or c
    rw [hW] at h
    cases hd : Lex.digit c
    · rfl
    · rw [hd] at h; simp at h
  rw [show Lex.letter c = false by unfold Lex.letter; rw [hW]; simp] at hLf
  rw [hD] at hDf
  clear hD hW
  have hS := fun wx => rsign_any s i hs hi wx
  have ht : Lex.signTok (s.data.toList.drop i) = if Lex.signW (Lex.pk s.data.toList i) (Lex.pk s.data.toList (i + 1)) = 0 then .bad 10 else .tok 4 0 0 (Lex.signW (Lex.pk s.data.toList i) (Lex.pk s.data.toList (i + 1))) := by
    unfold Lex.signTok
    dsimp only
    rw [Lex.pk_drop, Lex.pk_drop]
    rfl
  have hlen : i + Lex.signW (Lex.pk s.data.toList i) (Lex.pk s.data.toList (i + 1)) ≤ s.size := by
    by_cases h2 : i + 2 ≤ s.size
    · have := Lex.signW_two (Lex.pk s.data.toList i) (Lex.pk s.data.toList (i + 1))
      omega
    · rw [Lex.pk_ge (l := s.data.toList) (j := i + 1) (by omega)]
      have : Lex.signW (Lex.pk s.data.toList i) 0 ≤ 1 := by
        unfold Lex.signW; rw [if_neg (by omega)]; split <;> omega
      omega
  rw [ht]
  clear ht
  generalize Lex.signW (Lex.pk s.data.toList i) (Lex.pk s.data.toList (i + 1)) = K at hS hlen
  by_cases h0 : K = 0
  · subst h0
    rw [if_pos rfl]
    unfold rtPost
    dsimp only
    go_enter Tryd.func21, Tryd.ntmps21
    go_wp2_with (first | (go_at_call 29; refine (hLf _).mono ?_; rintro e w' ⟨rfl, rfl⟩) | (go_at_call 30; refine (hDf _).mono ?_; rintro e w' ⟨rfl, rfl⟩) | (go_at_call 34; refine (hS _).mono ?_; rintro e w' ⟨rfl, rfl⟩))
    (try simp only [Exit.inBlock, Exit.then])
    refine bodyPost_ret (v := .tuple #[.agg #[.int .i64 0, .string ⟨#[]⟩, .int .i64 0, .int .i64 0, .int .i64 0, .int .i64 0], .int .i64 10]) ?_ rfl ?_
    · rw [results_cell_tmp rfl]
      go_simp
    · go_light
      have hg2 := World.grownBy_alloc w tk0 none
      refine ⟨rfl, ?_⟩
      repeat (first | with_reducible exact hg2 | with_reducible exact World.grownBy_alloc _ _ _ | with_reducible refine gset ?_ (.inl (Nat.le_refl _)) _)
  · rw [if_neg h0]
    have hk0 : ((K : Int) == 0) = false := by rw [beq_eq_false_iff_ne]; omega
    have ew : wrap64 ((i : Int) + K) = (i : Int) + K := by unfold wrap64; omega
    have hsl : ∀ wx, (Instr.slice 9 (.string s) (some (.int .i64 (i : Int))) (some (.int .i64 ((i : Int) + K))) none).run Tryd.prog wx = .ok (.string (s.extract i (i + K))) wx := fun wx => slc_str s i (i + K) (by omega) hlen wx
    obtain ⟨z, hz⟩ : ∃ z, z = s.extract i (i + K) := ⟨_, rfl⟩
    rw [← hz] at hsl
    unfold rtPost
    dsimp only
    rw [← hz]
    clear hz
    go_enter Tryd.func21, Tryd.ntmps21
    go_wp2_with (first | (go_at_call 29; refine (hLf _).mono ?_; rintro e w' ⟨rfl, rfl⟩) | (go_at_call 30; refine (hDf _).mono ?_; rintro e w' ⟨rfl, rfl⟩) | (go_at_call 34; refine (hS _).mono ?_; rintro e w' ⟨rfl, rfl⟩))
    (try simp only [Exit.inBlock, Exit.then])
    refine bodyPost_ret (v := .tuple #[.agg #[.int .i64 4, .string z, .int .i64 0, .int .i64 0, .int .i64 0, .int .i64 (i : Int)], .int .i64 0]) ?_ rfl ?_
    · rw [results_cell_tmp rfl]
      go_simp
    · go_light
      have hg2 := World.grownBy_alloc w tk0 none
      refine ⟨⟨rfl, hlen⟩, ?_⟩
      repeat (first | with_reducible exact hg2 | with_reducible exact World.grownBy_alloc _ _ _ | with_reducible refine gset ?_ (.inl (Nat.le_refl _)) _)

theorem rtoken_any (s : ByteArray) (i : Nat) (hs : s.size ≤ 65536) (hi : i < s.size) (w : World) :
    Calls Tryd.prog 21 #[.string s, .int .i64 (i : Int)] w fun e w' => rtPost s i w (Lex.tokAt (s.data.toList.drop i)) e w' := by
  have hi2 : i < s.data.toList.length := by simpa using hi
  have e : Lex.tokAt (s.data.toList.drop i) = if Lex.digit s.data.toList[i] then Lex.numTok (s.data.toList.drop i) else if Lex.word s.data.toList[i] then Lex.nameTok (s.data.toList.drop i) else Lex.signTok (s.data.toList.drop i) := by
    rw [List.drop_eq_getElem_cons hi2]; rfl
  rw [e]
  rcases Bool.eq_false_or_eq_true (Lex.digit s.data.toList[i]) with hd | hd
  · rw [if_pos hd]; exact rtoken_num s i hs hi hd w
  · rw [if_neg (by rw [hd]; decide)]
    rcases Bool.eq_false_or_eq_true (Lex.word s.data.toList[i]) with hw | hw
    · rw [if_pos hw]; exact rtoken_name s i hs hi (by unfold Lex.letter; rw [hw, hd]; rfl) w
    · rw [if_neg (by rw [hw]; decide)]; exact rtoken_sign s i hs hi hw w

end Go.Proofs.YtbiplgidlmbbkaaDoor
