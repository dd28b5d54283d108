/- The document's own tokens, on: its number of every kind, and its token. -/
import Derived.Test.YtbiplgidlmbbkaaDoorLexVb
namespace Go.Proofs.YtbiplgidlmbbkaaDoor
open Go.RowKit Go.Maps Go.WideMaps

theorem rnumber_any (d : ByteArray) (hd : Lex.digits d.data.toList) (hsz : d.size ≤ 65536) (k : Int) (hk : k = 0 ∨ (2 ≤ k ∧ k ≤ 9)) (w : World) :
    Calls Tryd.prog 33 #[.string d, .int .i64 k] w fun e w' => numPost k d.data.toList w e w' := by
  have h : k = 0 ∨ k = 2 ∨ k = 3 ∨ k = 4 ∨ k = 5 ∨ k = 6 ∨ k = 7 ∨ k = 8 ∨ k = 9 := by omega
  rcases h with rfl | rfl | rfl | rfl | rfl | rfl | rfl | rfl | rfl
  · exact rnumber_plain d hd hsz w
  · exact rnumber_2 d hd hsz w
  · exact rnumber_3 d hd hsz w
  · exact rnumber_4 d hd hsz w
  · exact rnumber_5 d hd hsz w
  · exact rnumber_6 d hd hsz w
  · exact rnumber_7 d hd hsz w
  · exact rnumber_8 d hd hsz w
  · exact rnumber_9 d hd hsz w

/-- what token answers -/
def rtPost (s : ByteArray) (i : Nat) (w : World) (x : Lex.Tok) (e : Ending) (w' : World) : Prop :=
  (match x with
    | .bad er => e = .returned (.tuple #[.agg #[.int .i64 0, .string ⟨#[]⟩, .int .i64 0, .int .i64 0, .int .i64 0, .int .i64 0], .int .i64 er])
    | .tok kd n t len => e = .returned (.tuple #[.agg #[.int .i64 kd, .string (s.extract i (i + len)), .int .i64 n, .int .i64 t, .int .i64 0, .int .i64 (i : Int)], .int .i64 0]) ∧ i + len ≤ s.size) ∧ w.grownBy w' none

theorem tbl_len : (Lex.tbl.all fun p => decide (p.1.length ≤ 40)) = true := by kernel_rfl
theorem look_len {l : List UInt8} (h : (Lex.look l).isSome = true) : l.length ≤ 40 := by
  unfold Lex.look at h
  cases e : Lex.tbl.find? (fun p => p.1 == l) with
  | none => rw [e] at h; cases h
  | some p =>
    have h1 := List.all_eq_true.1 tbl_len p (List.mem_of_find?_eq_some e)
    have h2 : p.1 = l := beq_iff_eq.1 (List.find?_some (p := fun p : List UInt8 × Int => p.1 == l) e)
    rw [← h2]; exact of_decide_eq_true h1

theorem word_or (c : UInt8) : Lex.word c = (Lex.letter c || Lex.digit c) := by
  have h := word_iff c
  have h2 := digit_iff c
  unfold Lex.letter
  cases hw : Lex.word c <;> cases hd : Lex.digit c <;> simp
  rw [hw] at h; rw [hd] at h2
  simp at h h2
  omega

set_option maxHeartbeats 3200000 in
set_option maxRecDepth 20000 in
theorem rtoken_name (s : ByteArray) (i : Nat) (hs : s.size ≤ 65536) (hi : i < s.size) (hL : Lex.letter (s.data.toList[i]'(by simpa using hi)) = true) (w : World) :
    Calls Tryd.prog 21 #[.string s, .int .i64 (i : Int)] w fun e w' => rtPost s i w (Lex.nameTok (s.data.toList.drop i)) e w' := by
  have hx := fun wx => idx_str s i hi (i : Int) rfl wx
  obtain ⟨c, hc⟩ : ∃ c : UInt8, c = s.data.toList[i]'(by simpa using hi) := ⟨_, rfl⟩
  have hp : Lex.pk s.data.toList i = c.toNat := by rw [Lex.pk_eq (by simpa using hi), hc]
  simp only [hp] at hx
  rw [← hc] at hL
  clear hc hp
  have hLt := fun wx => rletter_any c wx
  rw [hL] at hLt
  clear hL
  obtain ⟨K, hK⟩ : ∃ K, K = Lex.spn Lex.word (s.data.toList.drop i) := ⟨_, rfl⟩
  have ht : Lex.nameTok (s.data.toList.drop i) = if (Lex.look ((s.data.toList.drop i).take K)).isSome then .tok 3 0 0 K else if 40 < K then .bad 2 else .tok 1 0 0 K := by rw [hK]; rfl
  have hKs : i + K ≤ s.size := by
    have := Lex.spn_le Lex.word (s.data.toList.drop i)
    rw [List.length_drop] at this
    have hsz : s.data.toList.length = s.size := by simp
    omega
  rw [ht, ← ext_list s i K]
  clear ht
  have HK := Lib.hid hK
  clear hK
  obtain ⟨x, hxe⟩ : ∃ x, s.extract i (i + K) = x := ⟨_, rfl⟩
  have hxs : x.data.toList.length = K := by rw [← hxe, ext_list, List.length_take, List.length_drop]; have hsz : s.data.toList.length = s.size := by simp
                                            omega
  rw [hxe]
  have HX := Lib.hid hxe
  have hk := fun wx => rkey_any x wx
  have post3 : ∀ kd, rtPost s i w (.tok kd 0 0 K) = fun e w' => (e = .returned (.tuple #[.agg #[.int .i64 kd, .string x, .int .i64 0, .int .i64 0, .int .i64 0, .int .i64 (i : Int)], .int .i64 0]) ∧ i + K ≤ s.size) ∧ w.grownBy w' none := by
    intro kd; rw [← hxe]; rfl
  clear hxe
  rcases Bool.eq_false_or_eq_true (Lex.look x.data.toList).isSome with hb | hb
  · rw [hb] at hk ⊢
    have h40 := look_len hb
    rw [if_pos rfl, post3]
    clear hb post3
    go_enter Tryd.func21, Tryd.ntmps21
    go_wp2_with (first | (go_at_call 29; refine (hLt _).mono ?_; rintro e w' ⟨rfl, rfl⟩; refine Hid.out ?_))
    refine Lib.hid ?_
    go_wp2
    go_loop [6] (fun a => ∃ j : Nat, i ≤ j ∧ j ≤ s.size ∧ a = .int .i64 (j : Int) ∧ Hid (j + Lex.spn Lex.word (s.data.toList.drop j) = i + K)) (fun a => s.size - (intOf a).toNat)
    case atStart => exact ⟨i, Nat.le_refl _, Nat.le_of_lt hi, rfl, Lib.hid (by rw [HK.out])⟩
    case round =>
      obtain ⟨j, hij, hj, rfl, HJ⟩ := hrel
      by_cases hlt : j < s.size
      · have hx2 := fun wx => idx_str s j hlt (j : Int) rfl wx
        obtain ⟨c2, hc2⟩ : ∃ c2 : UInt8, c2 = s.data.toList[j]'(by simpa using hlt) := ⟨_, rfl⟩
        have hp2 : Lex.pk s.data.toList j = c2.toNat := by rw [Lex.pk_eq (by simpa using hlt), hc2]
        simp only [hp2] at hx2
        have hl2 := fun wx => rletter_any c2 wx
        have hd2 := fun wx => rdigit_any c2 wx
        have hstep := Lex.spn_step (p := Lex.word) (l := s.data.toList) (j := j) (by simpa using hlt)
        have hstop := Lex.spn_stop (p := Lex.word) (l := s.data.toList) (j := j) (by simpa using hlt)
        rw [← hc2, word_or] at hstep hstop
        have HSTEP := Lib.hid hstep
        have HSTOP := Lib.hid hstop
        clear hstep hstop hc2 hp2
        rcases Bool.eq_false_or_eq_true (Lex.letter c2) with hq | hq
        · rw [hq] at hl2
          have e1 := HJ.out
          have e2 := HSTEP.out (by rw [hq]; rfl)
          have HN : Hid (j + 1 + Lex.spn Lex.word (s.data.toList.drop (j + 1)) = i + K) := Lib.hid (by omega)
          clear e1 e2 HSTEP HSTOP HJ
          go_wp2_with (first | (go_at_call 29; refine (hl2 _).mono ?_; rintro e w' ⟨rfl, rfl⟩) | (go_at_call 30; refine (hd2 _).mono ?_; rintro e w' ⟨rfl, rfl⟩))
          go_round
          case rel => exact ⟨j + 1, by omega, by omega, by go_num, HN⟩
          case measure => simp [intOf]; omega
        · rcases Bool.eq_false_or_eq_true (Lex.digit c2) with hr | hr
          · rw [hq] at hl2
            rw [hr] at hd2
            have e1 := HJ.out
            have e2 := HSTEP.out (by rw [hq, hr]; rfl)
            have HN : Hid (j + 1 + Lex.spn Lex.word (s.data.toList.drop (j + 1)) = i + K) := Lib.hid (by omega)
            clear e1 e2 HSTEP HSTOP HJ
            go_wp2_with (first | (go_at_call 29; refine (hl2 _).mono ?_; rintro e w' ⟨rfl, rfl⟩) | (go_at_call 30; refine (hd2 _).mono ?_; rintro e w' ⟨rfl, rfl⟩))
            go_round
            case rel => exact ⟨j + 1, by omega, by omega, by go_num, HN⟩
            case measure => simp [intOf]; omega
          · rw [hq] at hl2
            rw [hr] at hd2
            have e1 := HJ.out
            have e2 := HSTOP.out (by rw [hq, hr]; rfl)
            have hjK : j = i + K := by omega
            clear e1 e2 HSTEP HSTOP HJ
            have hd : decide ((40 : Int) < (j : Int) - (i : Int)) = false := by rw [decide_eq_false_iff_not]; omega
            have hsl := fun wx => slc_str s i j hij hj wx
            rw [show s.extract i j = x by rw [hjK]; exact HX.out] at hsl
            clear hjK
            go_wp2_with (first | (go_at_call 29; refine (hl2 _).mono ?_; rintro e w' ⟨rfl, rfl⟩) | (go_at_call 30; refine (hd2 _).mono ?_; rintro e w' ⟨rfl, rfl⟩) | (go_at_call 31; refine (hk _).mono ?_; rintro e w1 ⟨rfl, hg1⟩; refine Hid.out ?_))
            have hgA : (w.alloc tk0).grownBy w1 none := (World.grownBy_alloc (w.alloc tk0) (.cells #[.int .i64 1, .string x, .int .i64 0, .int .i64 0, .int .i64 0, .int .i64 (i : Int)] 30) none).trans hg1
            have h6 := Six.of hgA (by simp)
            have hT : Tkb w1 (w.heap.size + 1) (.int .i64 1) (.string x) (.int .i64 0) (.int .i64 0) (.int .i64 0) (.int .i64 (i : Int)) := by
              have h7 := Tkb.kept (Tkb.new (w.alloc tk0) (.int .i64 1) (.string x) (.int .i64 0) (.int .i64 0) (.int .i64 0) (.int .i64 (i : Int))) hg1 (by simp)
              rwa [World.size_alloc] at h7
            obtain ⟨⟨x0, c0⟩, ⟨x1, c1⟩, ⟨x2, c2⟩, ⟨x3, c3⟩, ⟨x4, c4⟩, ⟨x5, c5⟩⟩ := h6.c
            have f0 := h6.f 0
            have f1 := h6.f 1
            have f2 := h6.f 2
            have f3 := h6.f 3
            have f4 := h6.f 4
            have f5 := h6.f 5
            obtain ⟨t0, t1, t2, t3, t4, t5⟩ := hT.c
            have g0 := hT.six.f 0
            refine Lib.hid ?_
            go_wp2
            (try simp only [Exit.inBlock, Exit.then])
            refine bodyPost_ret (v := .tuple #[.agg #[.int .i64 3, .string x, .int .i64 0, .int .i64 0, .int .i64 0, .int .i64 (i : Int)], .int .i64 0]) ?_ rfl ?_
            · rw [results_cell_tmp rfl]
              go_simp
            · go_light
              have hg2 := (World.grownBy_alloc w tk0 none).trans hgA
              refine ⟨⟨rfl, hKs⟩, ?_⟩
              repeat (first | with_reducible exact hg2 | with_reducible refine gset ?_ (.inl (Nat.le_refl _)) _ | with_reducible refine gset ?_ (.inl (Nat.le_succ _)) _)
      · have e1 := HJ.out
        have e2 := Lex.spn_end Lex.word (l := s.data.toList) (j := j) (by simpa using hlt)
        have hjK : j = i + K := by omega
        clear e1 e2 HJ
        have hd : decide ((40 : Int) < (j : Int) - (i : Int)) = false := by rw [decide_eq_false_iff_not]; omega
        have hsl := fun wx => slc_str s i j hij hj wx
        rw [show s.extract i j = x by rw [hjK]; exact HX.out] at hsl
        clear hjK
        go_wp2_with (first | (go_at_call 31; refine (hk _).mono ?_; rintro e w1 ⟨rfl, hg1⟩; refine Hid.out ?_))
        have hgA : (w.alloc tk0).grownBy w1 none := (World.grownBy_alloc (w.alloc tk0) (.cells #[.int .i64 1, .string x, .int .i64 0, .int .i64 0, .int .i64 0, .int .i64 (i : Int)] 30) none).trans hg1
        have h6 := Six.of hgA (by simp)
        have hT : Tkb w1 (w.heap.size + 1) (.int .i64 1) (.string x) (.int .i64 0) (.int .i64 0) (.int .i64 0) (.int .i64 (i : Int)) := by
          have h7 := Tkb.kept (Tkb.new (w.alloc tk0) (.int .i64 1) (.string x) (.int .i64 0) (.int .i64 0) (.int .i64 0) (.int .i64 (i : Int))) hg1 (by simp)
          rwa [World.size_alloc] at h7
        obtain ⟨⟨x0, c0⟩, ⟨x1, c1⟩, ⟨x2, c2⟩, ⟨x3, c3⟩, ⟨x4, c4⟩, ⟨x5, c5⟩⟩ := h6.c
        have f0 := h6.f 0
        have f1 := h6.f 1
        have f2 := h6.f 2
        have f3 := h6.f 3
        have f4 := h6.f 4
        have f5 := h6.f 5
        obtain ⟨t0, t1, t2, t3, t4, t5⟩ := hT.c
        have g0 := hT.six.f 0
        refine Lib.hid ?_
        go_wp2
        (try simp only [Exit.inBlock, Exit.then])
        refine bodyPost_ret (v := .tuple #[.agg #[.int .i64 3, .string x, .int .i64 0, .int .i64 0, .int .i64 0, .int .i64 (i : Int)], .int .i64 0]) ?_ rfl ?_
        · rw [results_cell_tmp rfl]
          go_simp
        · go_light
          have hg2 := (World.grownBy_alloc w tk0 none).trans hgA
          refine ⟨⟨rfl, hKs⟩, ?_⟩
          repeat (first | with_reducible exact hg2 | with_reducible refine gset ?_ (.inl (Nat.le_refl _)) _ | with_reducible refine gset ?_ (.inl (Nat.le_succ _)) _)
  · rw [hb] at hk ⊢
    rw [if_neg (by decide)]
    clear hb
    by_cases h40 : 40 < K
    · rw [if_pos h40]
      unfold rtPost
      clear post3
      go_enter Tryd.func21, Tryd.ntmps21
      go_wp2_with (first | (go_at_call 29; refine (hLt _).mono ?_; rintro e w' ⟨rfl, rfl⟩; refine Hid.out ?_))
      refine Lib.hid ?_
      go_wp2
      go_loop [6] (fun a => ∃ j : Nat, i ≤ j ∧ j ≤ s.size ∧ a = .int .i64 (j : Int) ∧ Hid (j + Lex.spn Lex.word (s.data.toList.drop j) = i + K)) (fun a => s.size - (intOf a).toNat)
      case atStart => exact ⟨i, Nat.le_refl _, Nat.le_of_lt hi, rfl, Lib.hid (by rw [HK.out])⟩
      case round =>
        obtain ⟨j, hij, hj, rfl, HJ⟩ := hrel
        by_cases hlt : j < s.size
        · have hx2 := fun wx => idx_str s j hlt (j : Int) rfl wx
          obtain ⟨c2, hc2⟩ : ∃ c2 : UInt8, c2 = s.data.toList[j]'(by simpa using hlt) := ⟨_, rfl⟩
          have hp2 : Lex.pk s.data.toList j = c2.toNat := by rw [Lex.pk_eq (by simpa using hlt), hc2]
          simp only [hp2] at hx2
          have hl2 := fun wx => rletter_any c2 wx
          have hd2 := fun wx => rdigit_any c2 wx
          have hstep := Lex.spn_step (p := Lex.word) (l := s.data.toList) (j := j) (by simpa using hlt)
          have hstop := Lex.spn_stop (p := Lex.word) (l := s.data.toList) (j := j) (by simpa using hlt)
          rw [← hc2, word_or] at hstep hstop
          have HSTEP := Lib.hid hstep
          have HSTOP := Lib.hid hstop
          clear hstep hstop hc2 hp2
          rcases Bool.eq_false_or_eq_true (Lex.letter c2) with hq | hq
          · rw [hq] at hl2
            have e1 := HJ.out
            have e2 := HSTEP.out (by rw [hq]; rfl)
            have HN : Hid (j + 1 + Lex.spn Lex.word (s.data.toList.drop (j + 1)) = i + K) := Lib.hid (by omega)
            clear e1 e2 HSTEP HSTOP HJ
            go_wp2_with (first | (go_at_call 29; refine (hl2 _).mono ?_; rintro e w' ⟨rfl, rfl⟩) | (go_at_call 30; refine (hd2 _).mono ?_; rintro e w' ⟨rfl, rfl⟩))
            go_round
            case rel => exact ⟨j + 1, by omega, by omega, by go_num, HN⟩
            case measure => simp [intOf]; omega
          · rcases Bool.eq_false_or_eq_true (Lex.digit c2) with hr | hr
            · rw [hq] at hl2
              rw [hr] at hd2
              have e1 := HJ.out
              have e2 := HSTEP.out (by rw [hq, hr]; rfl)
              have HN : Hid (j + 1 + Lex.spn Lex.word (s.data.toList.drop (j + 1)) = i + K) := Lib.hid (by omega)
              clear e1 e2 HSTEP HSTOP HJ
              go_wp2_with (first | (go_at_call 29; refine (hl2 _).mono ?_; rintro e w' ⟨rfl, rfl⟩) | (go_at_call 30; refine (hd2 _).mono ?_; rintro e w' ⟨rfl, rfl⟩))
              go_round
              case rel => exact ⟨j + 1, by omega, by omega, by go_num, HN⟩
              case measure => simp [intOf]; omega
            · rw [hq] at hl2
              rw [hr] at hd2
              have e1 := HJ.out
              have e2 := HSTOP.out (by rw [hq, hr]; rfl)
              have hjK : j = i + K := by omega
              clear e1 e2 HSTEP HSTOP HJ
              have hd : decide ((40 : Int) < (j : Int) - (i : Int)) = true := by rw [decide_eq_true_iff]; omega
              clear hjK
              go_wp2_with (first | (go_at_call 29; refine (hl2 _).mono ?_; rintro e w' ⟨rfl, rfl⟩) | (go_at_call 30; refine (hd2 _).mono ?_; rintro e w' ⟨rfl, rfl⟩))
              (try simp only [Exit.inBlock, Exit.then])
              refine bodyPost_ret (v := .tuple #[.agg #[.int .i64 0, .string ⟨#[]⟩, .int .i64 0, .int .i64 0, .int .i64 0, .int .i64 0], .int .i64 2]) ?_ rfl ?_
              · rw [results_cell_tmp rfl]
                go_simp
              · go_light
                have hg2 := World.grownBy_alloc w tk0 none
                refine ⟨rfl, ?_⟩
                repeat (first | with_reducible exact hg2 | with_reducible exact World.grownBy_alloc _ _ _ | with_reducible refine gset ?_ (.inl (Nat.le_refl _)) _)
        · have e1 := HJ.out
          have e2 := Lex.spn_end Lex.word (l := s.data.toList) (j := j) (by simpa using hlt)
          have hjK : j = i + K := by omega
          clear e1 e2 HJ
          have hd : decide ((40 : Int) < (j : Int) - (i : Int)) = true := by rw [decide_eq_true_iff]; omega
          clear hjK
          go_wp2
          (try simp only [Exit.inBlock, Exit.then])
          refine bodyPost_ret (v := .tuple #[.agg #[.int .i64 0, .string ⟨#[]⟩, .int .i64 0, .int .i64 0, .int .i64 0, .int .i64 0], .int .i64 2]) ?_ rfl ?_
          · rw [results_cell_tmp rfl]
            go_simp
          · go_light
            have hg2 := World.grownBy_alloc w tk0 none
            refine ⟨rfl, ?_⟩
            repeat (first | with_reducible exact hg2 | with_reducible exact World.grownBy_alloc _ _ _ | with_reducible refine gset ?_ (.inl (Nat.le_refl _)) _)
    · rw [if_neg h40, post3]
      clear post3
      go_enter Tryd.func21, Tryd.ntmps21
      go_wp2_with (first | (go_at_call 29; refine (hLt _).mono ?_; rintro e w' ⟨rfl, rfl⟩; refine Hid.out ?_))
      refine Lib.hid ?_
      go_wp2
      go_loop [6] (fun a => ∃ j : Nat, i ≤ j ∧ j ≤ s.size ∧ a = .int .i64 (j : Int) ∧ Hid (j + Lex.spn Lex.word (s.data.toList.drop j) = i + K)) (fun a => s.size - (intOf a).toNat)
      case atStart => exact ⟨i, Nat.le_refl _, Nat.le_of_lt hi, rfl, Lib.hid (by rw [HK.out])⟩
      case round =>
        obtain ⟨j, hij, hj, rfl, HJ⟩ := hrel
        by_cases hlt : j < s.size
        · have hx2 := fun wx => idx_str s j hlt (j : Int) rfl wx
          obtain ⟨c2, hc2⟩ : ∃ c2 : UInt8, c2 = s.data.toList[j]'(by simpa using hlt) := ⟨_, rfl⟩
          have hp2 : Lex.pk s.data.toList j = c2.toNat := by rw [Lex.pk_eq (by simpa using hlt), hc2]
          simp only [hp2] at hx2
          have hl2 := fun wx => rletter_any c2 wx
          have hd2 := fun wx => rdigit_any c2 wx
          have hstep := Lex.spn_step (p := Lex.word) (l := s.data.toList) (j := j) (by simpa using hlt)
          have hstop := Lex.spn_stop (p := Lex.word) (l := s.data.toList) (j := j) (by simpa using hlt)
          rw [← hc2, word_or] at hstep hstop
          have HSTEP := Lib.hid hstep
          have HSTOP := Lib.hid hstop
          clear hstep hstop hc2 hp2
          rcases Bool.eq_false_or_eq_true (Lex.letter c2) with hq | hq
          · rw [hq] at hl2
            have e1 := HJ.out
            have e2 := HSTEP.out (by rw [hq]; rfl)
            have HN : Hid (j + 1 + Lex.spn Lex.word (s.data.toList.drop (j + 1)) = i + K) := Lib.hid (by omega)
            clear e1 e2 HSTEP HSTOP HJ
            go_wp2_with (first | (go_at_call 29; refine (hl2 _).mono ?_; rintro e w' ⟨rfl, rfl⟩) | (go_at_call 30; refine (hd2 _).mono ?_; rintro e w' ⟨rfl, rfl⟩))
            go_round
            case rel => exact ⟨j + 1, by omega, by omega, by go_num, HN⟩
            case measure => simp [intOf]; omega
          · rcases Bool.eq_false_or_eq_true (Lex.digit c2) with hr | hr
            · rw [hq] at hl2
              rw [hr] at hd2
              have e1 := HJ.out
              have e2 := HSTEP.out (by rw [hq, hr]; rfl)
              have HN : Hid (j + 1 + Lex.spn Lex.word (s.data.toList.drop (j + 1)) = i + K) := Lib.hid (by omega)
              clear e1 e2 HSTEP HSTOP HJ
              go_wp2_with (first | (go_at_call 29; refine (hl2 _).mono ?_; rintro e w' ⟨rfl, rfl⟩) | (go_at_call 30; refine (hd2 _).mono ?_; rintro e w' ⟨rfl, rfl⟩))
              go_round
              case rel => exact ⟨j + 1, by omega, by omega, by go_num, HN⟩
              case measure => simp [intOf]; omega
            · rw [hq] at hl2
              rw [hr] at hd2
              have e1 := HJ.out
              have e2 := HSTOP.out (by rw [hq, hr]; rfl)
              have hjK : j = i + K := by omega
              clear e1 e2 HSTEP HSTOP HJ
              have hd : decide ((40 : Int) < (j : Int) - (i : Int)) = false := by rw [decide_eq_false_iff_not]; omega
              have hsl := fun wx => slc_str s i j hij hj wx
              rw [show s.extract i j = x by rw [hjK]; exact HX.out] at hsl
              clear hjK
              go_wp2_with (first | (go_at_call 29; refine (hl2 _).mono ?_; rintro e w' ⟨rfl, rfl⟩) | (go_at_call 30; refine (hd2 _).mono ?_; rintro e w' ⟨rfl, rfl⟩) | (go_at_call 31; refine (hk _).mono ?_; rintro e w1 ⟨rfl, hg1⟩; refine Hid.out ?_))
              have hgA : (w.alloc tk0).grownBy w1 none := (World.grownBy_alloc (w.alloc tk0) (.cells #[.int .i64 1, .string x, .int .i64 0, .int .i64 0, .int .i64 0, .int .i64 (i : Int)] 30) none).trans hg1
              have h6 := Six.of hgA (by simp)
              have hT : Tkb w1 (w.heap.size + 1) (.int .i64 1) (.string x) (.int .i64 0) (.int .i64 0) (.int .i64 0) (.int .i64 (i : Int)) := by
                have h7 := Tkb.kept (Tkb.new (w.alloc tk0) (.int .i64 1) (.string x) (.int .i64 0) (.int .i64 0) (.int .i64 0) (.int .i64 (i : Int))) hg1 (by simp)
                rwa [World.size_alloc] at h7
              obtain ⟨⟨x0, c0⟩, ⟨x1, c1⟩, ⟨x2, c2⟩, ⟨x3, c3⟩, ⟨x4, c4⟩, ⟨x5, c5⟩⟩ := h6.c
              have f0 := h6.f 0
              have f1 := h6.f 1
              have f2 := h6.f 2
              have f3 := h6.f 3
              have f4 := h6.f 4
              have f5 := h6.f 5
              obtain ⟨t0, t1, t2, t3, t4, t5⟩ := hT.c
              have g0 := hT.six.f 0
              refine Lib.hid ?_
              go_wp2
              (try simp only [Exit.inBlock, Exit.then])
              refine bodyPost_ret (v := .tuple #[.agg #[.int .i64 1, .string x, .int .i64 0, .int .i64 0, .int .i64 0, .int .i64 (i : Int)], .int .i64 0]) ?_ rfl ?_
              · rw [results_cell_tmp rfl]
                go_simp
              · go_light
                have hg2 := (World.grownBy_alloc w tk0 none).trans hgA
                refine ⟨⟨rfl, hKs⟩, ?_⟩
                repeat (first | with_reducible exact hg2 | with_reducible refine gset ?_ (.inl (Nat.le_refl _)) _ | with_reducible refine gset ?_ (.inl (Nat.le_succ _)) _)
        · have e1 := HJ.out
          have e2 := Lex.spn_end Lex.word (l := s.data.toList) (j := j) (by simpa using hlt)
          have hjK : j = i + K := by omega
          clear e1 e2 HJ
          have hd : decide ((40 : Int) < (j : Int) - (i : Int)) = false := by rw [decide_eq_false_iff_not]; omega
          have hsl := fun wx => slc_str s i j hij hj wx
          rw [show s.extract i j = x by rw [hjK]; exact HX.out] at hsl
          clear hjK
          go_wp2_with (first | (go_at_call 31; refine (hk _).mono ?_; rintro e w1 ⟨rfl, hg1⟩; refine Hid.out ?_))
          have hgA : (w.alloc tk0).grownBy w1 none := (World.grownBy_alloc (w.alloc tk0) (.cells #[.int .i64 1, .string x, .int .i64 0, .int .i64 0, .int .i64 0, .int .i64 (i : Int)] 30) none).trans hg1
          have h6 := Six.of hgA (by simp)
          have hT : Tkb w1 (w.heap.size + 1) (.int .i64 1) (.string x) (.int .i64 0) (.int .i64 0) (.int .i64 0) (.int .i64 (i : Int)) := by
            have h7 := Tkb.kept (Tkb.new (w.alloc tk0) (.int .i64 1) (.string x) (.int .i64 0) (.int .i64 0) (.int .i64 0) (.int .i64 (i : Int))) hg1 (by simp)
            rwa [World.size_alloc] at h7
          obtain ⟨⟨x0, c0⟩, ⟨x1, c1⟩, ⟨x2, c2⟩, ⟨x3, c3⟩, ⟨x4, c4⟩, ⟨x5, c5⟩⟩ := h6.c
          have f0 := h6.f 0
          have f1 := h6.f 1
          have f2 := h6.f 2
          have f3 := h6.f 3
          have f4 := h6.f 4
          have f5 := h6.f 5
          obtain ⟨t0, t1, t2, t3, t4, t5⟩ := hT.c
          have g0 := hT.six.f 0
          refine Lib.hid ?_
          go_wp2
          (try simp only [Exit.inBlock, Exit.then])
          refine bodyPost_ret (v := .tuple #[.agg #[.int .i64 1, .string x, .int .i64 0, .int .i64 0, .int .i64 0, .int .i64 (i : Int)], .int .i64 0]) ?_ rfl ?_
          · rw [results_cell_tmp rfl]
            go_simp
          · go_light
            have hg2 := (World.grownBy_alloc w tk0 none).trans hgA
            refine ⟨⟨rfl, hKs⟩, ?_⟩
            repeat (first | with_reducible exact hg2 | with_reducible refine gset ?_ (.inl (Nat.le_refl _)) _ | with_reducible refine gset ?_ (.inl (Nat.le_succ _)) _)

end Go.Proofs.YtbiplgidlmbbkaaDoor
