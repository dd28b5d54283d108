/- My texts LexVc LexVd LexVe GrM, joined. -/
import Derived.Test.YtbbamgjdnibldaaGreatMhA
set_option linter.unusedVariables false
set_option linter.unusedSimpArgs false
set_option linter.unnecessarySimpa false
set_option linter.unusedSectionVars false
set_option maxHeartbeats 12800000
set_option maxRecDepth 20000
namespace Go.Proofs.YtbbamgjdnibldaaGreat
open Go.RowKit Go.Maps Go.WideMaps
theorem rnumber_any (d : ByteArray) (hd : Lex.digits d.data.toList) (hsz : d.size ≤ 65536) (k : Int) (hk : k = 0 ∨ (2 ≤ k ∧ k ≤ 9)) (w : World) :
  Calls Tryz.prog 97 #[.string d, .int .i64 k] w fun e w' => numPost k d.data.toList w e w' := by
 have h : k = 0 ∨ k = 2 ∨ k = 3 ∨ k = 4 ∨ k = 5 ∨ k = 6 ∨ k = 7 ∨ k = 8 ∨ k = 9 := by omega
 rcases h with rfl | rfl | rfl | rfl | rfl | rfl | rfl | rfl | rfl
 ·exact rnumber_plain d hd hsz w
 ·exact rnumber_2 d hd hsz w
 ·exact rnumber_3 d hd hsz w
 ·exact rnumber_4 d hd hsz w
 ·exact rnumber_5 d hd hsz w
 ·exact rnumber_6 d hd hsz w
 ·exact rnumber_7 d hd hsz w
 ·exact rnumber_8 d hd hsz w
 ·exact rnumber_9 d hd hsz w
def rtPost (s : ByteArray) (i : Nat) (w : World) (x : Lex.Tok) (e : Ending) (w' : World) : Prop :=
 (match x with
  | .bad er => e = .returned (.tuple #[.agg #[.int .i64 0, .string ⟨#[]⟩, .int .i64 0, .int .i64 0, .int .i64 0, .int .i64 0], .int .i64 er])
  | .tok kd n t len => e = .returned (.tuple #[.agg #[.int .i64 kd, .string (s.extract i (i + len)), .int .i64 n, .int .i64 t, .int .i64 0, .int .i64 (i : Int)], .int .i64 0]) ∧ i + len ≤ s.size) ∧ w.grownBy w' none
theorem tbl_len : (Lex.tbl.all fun p => decide (p.1.length ≤ 40)) = true := by kernel_rfl
theorem look_len {l : List UInt8} (h : (Lex.look l).isSome = true) : l.length ≤ 40 := by
 unfold Lex.look at h
 cases e : Lex.tbl.find? (fun p => p.1 == l) with
 | none => rw [e] at h; cases h
 | some p =>
  have h1 := List.all_eq_true.1 tbl_len p (List.mem_of_find?_eq_some e)
  have h2 : p.1 = l := beq_iff_eq.1 (List.find?_some (p := fun p : List UInt8 × Int => p.1 == l) e)
  rw [← h2]; exact of_decide_eq_true h1
theorem word_or (c : UInt8) : Lex.word c = (Lex.letter c || Lex.digit c) := by
 have h := word_iff c
 have h2 := digit_iff c
 unfold Lex.letter
 cases hw : Lex.word c <;> cases hd : Lex.digit c <;> simp
 rw [hw] at h; rw [hd] at h2
 simp at h h2
 omega
theorem rtoken_name (s : ByteArray) (i : Nat) (hs : s.size ≤ 65536) (hi : i < s.size) (hL : Lex.letter (s.data.toList[i]'(by simpa using hi)) = true) (w : World) :
    Calls Tryz.prog 61 #[.string s, .int .i64 (i : Int)] w fun e w' => rtPost s i w (Lex.nameTok (s.data.toList.drop i)) e w' := by
  have hx := fun wx => idx_str s i hi (i : Int) rfl wx
  obtain ⟨c, hc⟩ : ∃ c : UInt8, c = s.data.toList[i]'(by simpa using hi) := ⟨_, rfl⟩
  have hp : Lex.pk s.data.toList i = c.toNat := by rw [Lex.pk_eq (by simpa using hi), hc]
  simp only [hp] at hx
  rw [← hc] at hL
  clear hc hp
  have hLt := fun wx => rletter_any c wx
  rw [hL] at hLt
  clear hL
  obtain ⟨K, hK⟩ : ∃ K, K = Lex.spn Lex.word (s.data.toList.drop i) := ⟨_, rfl⟩
  have ht : Lex.nameTok (s.data.toList.drop i) = if (Lex.look ((s.data.toList.drop i).take K)).isSome then .tok 3 0 0 K else if 40 < K then .bad 2 else .tok 1 0 0 K := by rw [hK]; rfl
  have hKs : i + K ≤ s.size := by
    have := Lex.spn_le Lex.word (s.data.toList.drop i)
    rw [List.length_drop] at this
    have hsz : s.data.toList.length = s.size := by simp
    omega
  rw [ht, ← ext_list s i K]
  clear ht
  have HK := ld hK
  clear hK
  obtain ⟨x, hxe⟩ : ∃ x, s.extract i (i + K) = x := ⟨_, rfl⟩
  have hxs : x.data.toList.length = K := by rw [← hxe, ext_list, List.length_take, List.length_drop]; have hsz : s.data.toList.length = s.size := by simp
                                            omega
  rw [hxe]
  have HX := ld hxe
  have hk := fun wx => rkey_any x wx
  have post3 : ∀ kd, rtPost s i w (.tok kd 0 0 K) = fun e w' => (e = .returned (.tuple #[.agg #[.int .i64 kd, .string x, .int .i64 0, .int .i64 0, .int .i64 0, .int .i64 (i : Int)], .int .i64 0]) ∧ i + K ≤ s.size) ∧ w.grownBy w' none := by
    intro kd; rw [← hxe]; rfl
  clear hxe
  rcases Bool.eq_false_or_eq_true (Lex.look x.data.toList).isSome with hb | hb
  · rw [hb] at hk ⊢
    have h40 := look_len hb
    rw [if_pos rfl, post3]
    clear hb post3
    go_enter Tryz.func61, Tryz.ntmps61
    go_wp2_with (first | (go_at_call 93; refine (hLt _).mono ?_; rintro e w' ⟨rfl, rfl⟩; refine Hid.out ?_))
    refine ld ?_
    go_wp2
    go_loop [6] (fun a => ∃ j : Nat, i ≤ j ∧ j ≤ s.size ∧ a = .int .i64 (j : Int) ∧ Hid (j + Lex.spn Lex.word (s.data.toList.drop j) = i + K)) (fun a => s.size - (intOf a).toNat)
    case atStart => exact ⟨i, Nat.le_refl _, Nat.le_of_lt hi, rfl, ld (by rw [HK.out])⟩
    case round =>
      obtain ⟨j, hij, hj, rfl, HJ⟩ := hrel
      by_cases hlt : j < s.size
      · have hx2 := fun wx => idx_str s j hlt (j : Int) rfl wx
        obtain ⟨c2, hc2⟩ : ∃ c2 : UInt8, c2 = s.data.toList[j]'(by simpa using hlt) := ⟨_, rfl⟩
        have hp2 : Lex.pk s.data.toList j = c2.toNat := by rw [Lex.pk_eq (by simpa using hlt), hc2]
        simp only [hp2] at hx2
        have hl2 := fun wx => rletter_any c2 wx
        have hd2 := fun wx => rdigit_any c2 wx
        have hstep := Lex.spn_step (p := Lex.word) (l := s.data.toList) (j := j) (by simpa using hlt)
        have hstop := Lex.spn_stop (p := Lex.word) (l := s.data.toList) (j := j) (by simpa using hlt)
        rw [← hc2, word_or] at hstep hstop
        have HSTEP := ld hstep
        have HSTOP := ld hstop
        clear hstep hstop hc2 hp2
        rcases Bool.eq_false_or_eq_true (Lex.letter c2) with hq | hq
        · rw [hq] at hl2
          have e1 := HJ.out
          have e2 := HSTEP.out (by rw [hq]; rfl)
          have HN : Hid (j + 1 + Lex.spn Lex.word (s.data.toList.drop (j + 1)) = i + K) := ld (by omega)
          clear e1 e2 HSTEP HSTOP HJ
          go_wp2_with (first | (go_at_call 93; refine (hl2 _).mono ?_; rintro e w' ⟨rfl, rfl⟩) | (go_at_call 94; refine (hd2 _).mono ?_; rintro e w' ⟨rfl, rfl⟩))
          go_round
          case rel => exact ⟨j + 1, by omega, by omega, by go_num, HN⟩
          case measure => simp [intOf]; omega
        · rcases Bool.eq_false_or_eq_true (Lex.digit c2) with hr | hr
          · rw [hq] at hl2
            rw [hr] at hd2
            have e1 := HJ.out
            have e2 := HSTEP.out (by rw [hq, hr]; rfl)
            have HN : Hid (j + 1 + Lex.spn Lex.word (s.data.toList.drop (j + 1)) = i + K) := ld (by omega)
            clear e1 e2 HSTEP HSTOP HJ
            go_wp2_with (first | (go_at_call 93; refine (hl2 _).mono ?_; rintro e w' ⟨rfl, rfl⟩) | (go_at_call 94; refine (hd2 _).mono ?_; rintro e w' ⟨rfl, rfl⟩))
            go_round
            case rel => exact ⟨j + 1, by omega, by omega, by go_num, HN⟩
            case measure => simp [intOf]; omega
          · rw [hq] at hl2
            rw [hr] at hd2
            have e1 := HJ.out
            have e2 := HSTOP.out (by rw [hq, hr]; rfl)
            have hjK : j = i + K := by omega
            clear e1 e2 HSTEP HSTOP HJ
            have hd : decide ((40 : Int) < (j : Int) - (i : Int)) = false := by rw [decide_eq_false_iff_not]; omega
            have hsl := fun wx => slc_str s i j hij hj wx
            rw [show s.extract i j = x by rw [hjK]; exact HX.out] at hsl
            clear hjK
            go_wp2_with (first | (go_at_call 93; refine (hl2 _).mono ?_; rintro e w' ⟨rfl, rfl⟩) | (go_at_call 94; refine (hd2 _).mono ?_; rintro e w' ⟨rfl, rfl⟩) | (go_at_call 95; refine (hk _).mono ?_; rintro e w1 ⟨rfl, hg1⟩; refine Hid.out ?_))
            have hgA : (w.alloc tk0).grownBy w1 none := (ga (w.alloc tk0) (.cells #[.int .i64 1, .string x, .int .i64 0, .int .i64 0, .int .i64 0, .int .i64 (i : Int)] 108) none).trans hg1
            have h6 := Six.of hgA (by simp)
            have hT : Tkb w1 (w.heap.size + 1) (.int .i64 1) (.string x) (.int .i64 0) (.int .i64 0) (.int .i64 0) (.int .i64 (i : Int)) := by
              have h7 := Tkb.kept (Tkb.new (w.alloc tk0) (.int .i64 1) (.string x) (.int .i64 0) (.int .i64 0) (.int .i64 0) (.int .i64 (i : Int))) hg1 (by simp)
              rwa [World.size_alloc] at h7
            obtain ⟨⟨x0, c0⟩, ⟨x1, c1⟩, ⟨x2, c2⟩, ⟨x3, c3⟩, ⟨x4, c4⟩, ⟨x5, c5⟩⟩ := h6.c
            have f0 := h6.f 0
            have f1 := h6.f 1
            have f2 := h6.f 2
            have f3 := h6.f 3
            have f4 := h6.f 4
            have f5 := h6.f 5
            obtain ⟨t0, t1, t2, t3, t4, t5⟩ := hT.c
            have g0 := hT.six.f 0
            refine ld ?_
            go_wp2
            (try simp only [Exit.inBlock, Exit.then])
            refine bodyPost_ret (v := .tuple #[.agg #[.int .i64 3, .string x, .int .i64 0, .int .i64 0, .int .i64 0, .int .i64 (i : Int)], .int .i64 0]) ?_ rfl ?_
            · rw [results_cell_tmp rfl]
              go_simp
            · go_light
              have hg2 := (ga w tk0 none).trans hgA
              refine ⟨⟨rfl, hKs⟩, ?_⟩
              repeat (first | with_reducible exact hg2 | with_reducible refine gset ?_ (.inl (Nat.le_refl _)) _ | with_reducible refine gset ?_ (.inl (Nat.le_succ _)) _)
      · have e1 := HJ.out
        have e2 := Lex.spn_end Lex.word (l := s.data.toList) (j := j) (by simpa using hlt)
        have hjK : j = i + K := by omega
        clear e1 e2 HJ
        have hd : decide ((40 : Int) < (j : Int) - (i : Int)) = false := by rw [decide_eq_false_iff_not]; omega
        have hsl := fun wx => slc_str s i j hij hj wx
        rw [show s.extract i j = x by rw [hjK]; exact HX.out] at hsl
        clear hjK
        go_wp2_with (first | (go_at_call 95; refine (hk _).mono ?_; rintro e w1 ⟨rfl, hg1⟩; refine Hid.out ?_))
        have hgA : (w.alloc tk0).grownBy w1 none := (ga (w.alloc tk0) (.cells #[.int .i64 1, .string x, .int .i64 0, .int .i64 0, .int .i64 0, .int .i64 (i : Int)] 108) none).trans hg1
        have h6 := Six.of hgA (by simp)
        have hT : Tkb w1 (w.heap.size + 1) (.int .i64 1) (.string x) (.int .i64 0) (.int .i64 0) (.int .i64 0) (.int .i64 (i : Int)) := by
          have h7 := Tkb.kept (Tkb.new (w.alloc tk0) (.int .i64 1) (.string x) (.int .i64 0) (.int .i64 0) (.int .i64 0) (.int .i64 (i : Int))) hg1 (by simp)
          rwa [World.size_alloc] at h7
        obtain ⟨⟨x0, c0⟩, ⟨x1, c1⟩, ⟨x2, c2⟩, ⟨x3, c3⟩, ⟨x4, c4⟩, ⟨x5, c5⟩⟩ := h6.c
        have f0 := h6.f 0
        have f1 := h6.f 1
        have f2 := h6.f 2
        have f3 := h6.f 3
        have f4 := h6.f 4
        have f5 := h6.f 5
        obtain ⟨t0, t1, t2, t3, t4, t5⟩ := hT.c
        have g0 := hT.six.f 0
        refine ld ?_
        go_wp2
        (try simp only [Exit.inBlock, Exit.then])
        refine bodyPost_ret (v := .tuple #[.agg #[.int .i64 3, .string x, .int .i64 0, .int .i64 0, .int .i64 0, .int .i64 (i : Int)], .int .i64 0]) ?_ rfl ?_
        · rw [results_cell_tmp rfl]
          go_simp
        · go_light
          have hg2 := (ga w tk0 none).trans hgA
          refine ⟨⟨rfl, hKs⟩, ?_⟩
          repeat (first | with_reducible exact hg2 | with_reducible refine gset ?_ (.inl (Nat.le_refl _)) _ | with_reducible refine gset ?_ (.inl (Nat.le_succ _)) _)
  · rw [hb] at hk ⊢
    rw [if_neg (by decide)]
    clear hb
    by_cases h40 : 40 < K
    · rw [if_pos h40]
      unfold rtPost
      clear post3
      go_enter Tryz.func61, Tryz.ntmps61
      go_wp2_with (first | (go_at_call 93; refine (hLt _).mono ?_; rintro e w' ⟨rfl, rfl⟩; refine Hid.out ?_))
      refine ld ?_
      go_wp2
      go_loop [6] (fun a => ∃ j : Nat, i ≤ j ∧ j ≤ s.size ∧ a = .int .i64 (j : Int) ∧ Hid (j + Lex.spn Lex.word (s.data.toList.drop j) = i + K)) (fun a => s.size - (intOf a).toNat)
      case atStart => exact ⟨i, Nat.le_refl _, Nat.le_of_lt hi, rfl, ld (by rw [HK.out])⟩
      case round =>
        obtain ⟨j, hij, hj, rfl, HJ⟩ := hrel
        by_cases hlt : j < s.size
        · have hx2 := fun wx => idx_str s j hlt (j : Int) rfl wx
          obtain ⟨c2, hc2⟩ : ∃ c2 : UInt8, c2 = s.data.toList[j]'(by simpa using hlt) := ⟨_, rfl⟩
          have hp2 : Lex.pk s.data.toList j = c2.toNat := by rw [Lex.pk_eq (by simpa using hlt), hc2]
          simp only [hp2] at hx2
          have hl2 := fun wx => rletter_any c2 wx
          have hd2 := fun wx => rdigit_any c2 wx
          have hstep := Lex.spn_step (p := Lex.word) (l := s.data.toList) (j := j) (by simpa using hlt)
          have hstop := Lex.spn_stop (p := Lex.word) (l := s.data.toList) (j := j) (by simpa using hlt)
          rw [← hc2, word_or] at hstep hstop
          have HSTEP := ld hstep
          have HSTOP := ld hstop
          clear hstep hstop hc2 hp2
          rcases Bool.eq_false_or_eq_true (Lex.letter c2) with hq | hq
          · rw [hq] at hl2
            have e1 := HJ.out
            have e2 := HSTEP.out (by rw [hq]; rfl)
            have HN : Hid (j + 1 + Lex.spn Lex.word (s.data.toList.drop (j + 1)) = i + K) := ld (by omega)
            clear e1 e2 HSTEP HSTOP HJ
            go_wp2_with (first | (go_at_call 93; refine (hl2 _).mono ?_; rintro e w' ⟨rfl, rfl⟩) | (go_at_call 94; refine (hd2 _).mono ?_; rintro e w' ⟨rfl, rfl⟩))
            go_round
            case rel => exact ⟨j + 1, by omega, by omega, by go_num, HN⟩
            case measure => simp [intOf]; omega
          · rcases Bool.eq_false_or_eq_true (Lex.digit c2) with hr | hr
            · rw [hq] at hl2
              rw [hr] at hd2
              have e1 := HJ.out
              have e2 := HSTEP.out (by rw [hq, hr]; rfl)
              have HN : Hid (j + 1 + Lex.spn Lex.word (s.data.toList.drop (j + 1)) = i + K) := ld (by omega)
              clear e1 e2 HSTEP HSTOP HJ
              go_wp2_with (first | (go_at_call 93; refine (hl2 _).mono ?_; rintro e w' ⟨rfl, rfl⟩) | (go_at_call 94; refine (hd2 _).mono ?_; rintro e w' ⟨rfl, rfl⟩))
              go_round
              case rel => exact ⟨j + 1, by omega, by omega, by go_num, HN⟩
              case measure => simp [intOf]; omega
            · rw [hq] at hl2
              rw [hr] at hd2
              have e1 := HJ.out
              have e2 := HSTOP.out (by rw [hq, hr]; rfl)
              have hjK : j = i + K := by omega
              clear e1 e2 HSTEP HSTOP HJ
              have hd : decide ((40 : Int) < (j : Int) - (i : Int)) = true := by rw [decide_eq_true_iff]; omega
              clear hjK
              go_wp2_with (first | (go_at_call 93; refine (hl2 _).mono ?_; rintro e w' ⟨rfl, rfl⟩) | (go_at_call 94; refine (hd2 _).mono ?_; rintro e w' ⟨rfl, rfl⟩))
              (try simp only [Exit.inBlock, Exit.then])
              refine bodyPost_ret (v := .tuple #[.agg #[.int .i64 0, .string ⟨#[]⟩, .int .i64 0, .int .i64 0, .int .i64 0, .int .i64 0], .int .i64 2]) ?_ rfl ?_
              · rw [results_cell_tmp rfl]
                go_simp
              · go_light
                have hg2 := ga w tk0 none
                refine ⟨rfl, ?_⟩
                repeat (first | with_reducible exact hg2 | with_reducible exact ga _ _ _ | with_reducible refine gset ?_ (.inl (Nat.le_refl _)) _)
        · have e1 := HJ.out
          have e2 := Lex.spn_end Lex.word (l := s.data.toList) (j := j) (by simpa using hlt)
          have hjK : j = i + K := by omega
          clear e1 e2 HJ
          have hd : decide ((40 : Int) < (j : Int) - (i : Int)) = true := by rw [decide_eq_true_iff]; omega
          clear hjK
          go_wp2
          (try simp only [Exit.inBlock, Exit.then])
          refine bodyPost_ret (v := .tuple #[.agg #[.int .i64 0, .string ⟨#[]⟩, .int .i64 0, .int .i64 0, .int .i64 0, .int .i64 0], .int .i64 2]) ?_ rfl ?_
          · rw [results_cell_tmp rfl]
            go_simp
          · go_light
            have hg2 := ga w tk0 none
            refine ⟨rfl, ?_⟩
            repeat (first | with_reducible exact hg2 | with_reducible exact ga _ _ _ | with_reducible refine gset ?_ (.inl (Nat.le_refl _)) _)
    · rw [if_neg h40, post3]
      clear post3
      go_enter Tryz.func61, Tryz.ntmps61
      go_wp2_with (first | (go_at_call 93; refine (hLt _).mono ?_; rintro e w' ⟨rfl, rfl⟩; refine Hid.out ?_))
      refine ld ?_
      go_wp2
      go_loop [6] (fun a => ∃ j : Nat, i ≤ j ∧ j ≤ s.size ∧ a = .int .i64 (j : Int) ∧ Hid (j + Lex.spn Lex.word (s.data.toList.drop j) = i + K)) (fun a => s.size - (intOf a).toNat)
      case atStart => exact ⟨i, Nat.le_refl _, Nat.le_of_lt hi, rfl, ld (by rw [HK.out])⟩
      case round =>
        obtain ⟨j, hij, hj, rfl, HJ⟩ := hrel
        by_cases hlt : j < s.size
        · have hx2 := fun wx => idx_str s j hlt (j : Int) rfl wx
          obtain ⟨c2, hc2⟩ : ∃ c2 : UInt8, c2 = s.data.toList[j]'(by simpa using hlt) := ⟨_, rfl⟩
          have hp2 : Lex.pk s.data.toList j = c2.toNat := by rw [Lex.pk_eq (by simpa using hlt), hc2]
          simp only [hp2] at hx2
          have hl2 := fun wx => rletter_any c2 wx
          have hd2 := fun wx => rdigit_any c2 wx
          have hstep := Lex.spn_step (p := Lex.word) (l := s.data.toList) (j := j) (by simpa using hlt)
          have hstop := Lex.spn_stop (p := Lex.word) (l := s.data.toList) (j := j) (by simpa using hlt)
          rw [← hc2, word_or] at hstep hstop
          have HSTEP := ld hstep
          have HSTOP := ld hstop
          clear hstep hstop hc2 hp2
          rcases Bool.eq_false_or_eq_true (Lex.letter c2) with hq | hq
          · rw [hq] at hl2
            have e1 := HJ.out
            have e2 := HSTEP.out (by rw [hq]; rfl)
            have HN : Hid (j + 1 + Lex.spn Lex.word (s.data.toList.drop (j + 1)) = i + K) := ld (by omega)
            clear e1 e2 HSTEP HSTOP HJ
            go_wp2_with (first | (go_at_call 93; refine (hl2 _).mono ?_; rintro e w' ⟨rfl, rfl⟩) | (go_at_call 94; refine (hd2 _).mono ?_; rintro e w' ⟨rfl, rfl⟩))
            go_round
            case rel => exact ⟨j + 1, by omega, by omega, by go_num, HN⟩
            case measure => simp [intOf]; omega
          · rcases Bool.eq_false_or_eq_true (Lex.digit c2) with hr | hr
            · rw [hq] at hl2
              rw [hr] at hd2
              have e1 := HJ.out
              have e2 := HSTEP.out (by rw [hq, hr]; rfl)
              have HN : Hid (j + 1 + Lex.spn Lex.word (s.data.toList.drop (j + 1)) = i + K) := ld (by omega)
              clear e1 e2 HSTEP HSTOP HJ
              go_wp2_with (first | (go_at_call 93; refine (hl2 _).mono ?_; rintro e w' ⟨rfl, rfl⟩) | (go_at_call 94; refine (hd2 _).mono ?_; rintro e w' ⟨rfl, rfl⟩))
              go_round
              case rel => exact ⟨j + 1, by omega, by omega, by go_num, HN⟩
              case measure => simp [intOf]; omega
            · rw [hq] at hl2
              rw [hr] at hd2
              have e1 := HJ.out
              have e2 := HSTOP.out (by rw [hq, hr]; rfl)
              have hjK : j = i + K := by omega
              clear e1 e2 HSTEP HSTOP HJ
              have hd : decide ((40 : Int) < (j : Int) - (i : Int)) = false := by rw [decide_eq_false_iff_not]; omega
              have hsl := fun wx => slc_str s i j hij hj wx
              rw [show s.extract i j = x by rw [hjK]; exact HX.out] at hsl
              clear hjK
              go_wp2_with (first | (go_at_call 93; refine (hl2 _).mono ?_; rintro e w' ⟨rfl, rfl⟩) | (go_at_call 94; refine (hd2 _).mono ?_; rintro e w' ⟨rfl, rfl⟩) | (go_at_call 95; refine (hk _).mono ?_; rintro e w1 ⟨rfl, hg1⟩; refine Hid.out ?_))
              have hgA : (w.alloc tk0).grownBy w1 none := (ga (w.alloc tk0) (.cells #[.int .i64 1, .string x, .int .i64 0, .int .i64 0, .int .i64 0, .int .i64 (i : Int)] 108) none).trans hg1
              have h6 := Six.of hgA (by simp)
              have hT : Tkb w1 (w.heap.size + 1) (.int .i64 1) (.string x) (.int .i64 0) (.int .i64 0) (.int .i64 0) (.int .i64 (i : Int)) := by
                have h7 := Tkb.kept (Tkb.new (w.alloc tk0) (.int .i64 1) (.string x) (.int .i64 0) (.int .i64 0) (.int .i64 0) (.int .i64 (i : Int))) hg1 (by simp)
                rwa [World.size_alloc] at h7
              obtain ⟨⟨x0, c0⟩, ⟨x1, c1⟩, ⟨x2, c2⟩, ⟨x3, c3⟩, ⟨x4, c4⟩, ⟨x5, c5⟩⟩ := h6.c
              have f0 := h6.f 0
              have f1 := h6.f 1
              have f2 := h6.f 2
              have f3 := h6.f 3
              have f4 := h6.f 4
              have f5 := h6.f 5
              obtain ⟨t0, t1, t2, t3, t4, t5⟩ := hT.c
              have g0 := hT.six.f 0
              refine ld ?_
              go_wp2
              (try simp only [Exit.inBlock, Exit.then])
              refine bodyPost_ret (v := .tuple #[.agg #[.int .i64 1, .string x, .int .i64 0, .int .i64 0, .int .i64 0, .int .i64 (i : Int)], .int .i64 0]) ?_ rfl ?_
              · rw [results_cell_tmp rfl]
                go_simp
              · go_light
                have hg2 := (ga w tk0 none).trans hgA
                refine ⟨⟨rfl, hKs⟩, ?_⟩
                repeat (first | with_reducible exact hg2 | with_reducible refine gset ?_ (.inl (Nat.le_refl _)) _ | with_reducible refine gset ?_ (.inl (Nat.le_succ _)) _)
        · have e1 := HJ.out
          have e2 := Lex.spn_end Lex.word (l := s.data.toList) (j := j) (by simpa using hlt)
          have hjK : j = i + K := by omega
          clear e1 e2 HJ
          have hd : decide ((40 : Int) < (j : Int) - (i : Int)) = false := by rw [decide_eq_false_iff_not]; omega
          have hsl := fun wx => slc_str s i j hij hj wx
          rw [show s.extract i j = x by rw [hjK]; exact HX.out] at hsl
          clear hjK
          go_wp2_with (first | (go_at_call 95; refine (hk _).mono ?_; rintro e w1 ⟨rfl, hg1⟩; refine Hid.out ?_))
          have hgA : (w.alloc tk0).grownBy w1 none := (ga (w.alloc tk0) (.cells #[.int .i64 1, .string x, .int .i64 0, .int .i64 0, .int .i64 0, .int .i64 (i : Int)] 108) none).trans hg1
          have h6 := Six.of hgA (by simp)
          have hT : Tkb w1 (w.heap.size + 1) (.int .i64 1) (.string x) (.int .i64 0) (.int .i64 0) (.int .i64 0) (.int .i64 (i : Int)) := by
            have h7 := Tkb.kept (Tkb.new (w.alloc tk0) (.int .i64 1) (.string x) (.int .i64 0) (.int .i64 0) (.int .i64 0) (.int .i64 (i : Int))) hg1 (by simp)
            rwa [World.size_alloc] at h7
          obtain ⟨⟨x0, c0⟩, ⟨x1, c1⟩, ⟨x2, c2⟩, ⟨x3, c3⟩, ⟨x4, c4⟩, ⟨x5, c5⟩⟩ := h6.c
          have f0 := h6.f 0
          have f1 := h6.f 1
          have f2 := h6.f 2
          have f3 := h6.f 3
          have f4 := h6.f 4
          have f5 := h6.f 5
          obtain ⟨t0, t1, t2, t3, t4, t5⟩ := hT.c
          have g0 := hT.six.f 0
          refine ld ?_
          go_wp2
          (try simp only [Exit.inBlock, Exit.then])
          refine bodyPost_ret (v := .tuple #[.agg #[.int .i64 1, .string x, .int .i64 0, .int .i64 0, .int .i64 0, .int .i64 (i : Int)], .int .i64 0]) ?_ rfl ?_
          · rw [results_cell_tmp rfl]
            go_simp
          · go_light
            have hg2 := (ga w tk0 none).trans hgA
            refine ⟨⟨rfl, hKs⟩, ?_⟩
            repeat (first | with_reducible exact hg2 | with_reducible refine gset ?_ (.inl (Nat.le_refl _)) _ | with_reducible refine gset ?_ (.inl (Nat.le_succ _)) _)
theorem tbl_kinds : (Lex.tbl.all fun p => decide (0 ≤ p.2) && decide (p.2 ≤ 9)) = true := by kernel_rfl
theorem kindOf_both (l : List UInt8) : 0 ≤ Lex.kindOf l ∧ Lex.kindOf l ≤ 9 := by
 unfold Lex.kindOf Lex.look
 cases e : Lex.tbl.find? (fun p => p.1 == l) with
 | none => exact ⟨by decide, by decide⟩
 | some p =>
  have h1 := List.all_eq_true.1 tbl_kinds p (List.mem_of_find?_eq_some e)
  simp at h1
  exact h1
theorem kindOf_nine (l : List UInt8) : Lex.kindOf l ≤ 9 := (kindOf_both l).2
theorem kindOf_ge (l : List UInt8) : 0 ≤ Lex.kindOf l := (kindOf_both l).1
theorem Lex.take_digits (l : List UInt8) : Lex.digits (l.take (Lex.spn Lex.digit l)) := by
 have e : l.take (Lex.spn Lex.digit l) = l.takeWhile Lex.digit := by
  unfold Lex.spn
  exact (List.prefix_iff_eq_take.1 (List.takeWhile_prefix Lex.digit)).symm
 rw [e]
 intro c hc
 have h2 : Lex.digit c = true := by
  induction l with
  | nil => simp at hc
  | cons x r ih =>
   rw [List.takeWhile_cons] at hc
   cases hx : Lex.digit x with
   | false => rw [hx] at hc; simp at hc
   | true =>
    rw [hx] at hc
    rcases List.mem_cons.1 hc with rfl | h
    ·exact hx
    ·refine ih ?_ h
     unfold Lex.spn
     exact (List.prefix_iff_eq_take.1 (List.takeWhile_prefix Lex.digit)).symm
 simpa [Lex.digit] using h2
def numSplit (l : List UInt8) (A B : Nat) (k : Int) (d : List UInt8) : Prop :=
 A = Lex.spn Lex.digit l ∧ B = Lex.spn Lex.word (l.drop A) ∧ d = l.take A ∧ k = Lex.kindOf ((l.drop A).take B)
theorem numTok_bad {l : List UInt8} {A B : Nat} {k : Int} {d : List UInt8} (hb : ¬ B = 0) (h : numSplit l A B k d) (hk : k < 2) : Lex.numTok l = .bad 11 := by
 obtain ⟨rfl, rfl, rfl, rfl⟩ := h
 unfold Lex.numTok
 dsimp only
 rw [if_neg hb, if_neg]
 unfold Lex.kindOk
 generalize Lex.kindOf _ = k at hk
 have e : decide (2 ≤ k) = false := by rw [decide_eq_false_iff_not]; omega
 rw [e]
 simp
theorem numTok_go {l : List UInt8} {A B : Nat} {k : Int} {d : List UInt8} (hb : B = 0 ∨ ¬ k < 2) (h : numSplit l A B k d) (hok : numOk k d = true) : Lex.numTok l = .tok 2 (numN k d) k (A + B) := by
 obtain ⟨rfl, rfl, rfl, rfl⟩ := h
 unfold Lex.numTok
 dsimp only
 by_cases h0 : Lex.spn Lex.word (List.drop (Lex.spn Lex.digit l) l) = 0
 ·rw [h0] at hok ⊢
  rw [if_pos rfl]
  have e : Lex.kindOf (List.take 0 (List.drop (Lex.spn Lex.digit l) l)) = 0 := rfl
  rw [e] at hok ⊢
  unfold numOk at hok
  rw [if_pos rfl] at hok
  rw [if_pos hok]
  unfold numN
  rw [if_pos rfl]
  rfl
 ·have hk := hb.resolve_left h0
  rw [if_neg h0]
  unfold numOk at hok
  rw [if_neg (by omega)] at hok
  rw [if_pos hok]
  unfold numN
  rw [if_neg (by omega)]
theorem numTok_no {l : List UInt8} {A B : Nat} {k : Int} {d : List UInt8} (hb : B = 0 ∨ ¬ k < 2) (h : numSplit l A B k d) (hok : numOk k d = false) : Lex.numTok l = .bad 11 := by
 obtain ⟨rfl, rfl, rfl, rfl⟩ := h
 unfold Lex.numTok
 dsimp only
 by_cases h0 : Lex.spn Lex.word (List.drop (Lex.spn Lex.digit l) l) = 0
 ·rw [h0] at hok ⊢
  rw [if_pos rfl]
  have e : Lex.kindOf (List.take 0 (List.drop (Lex.spn Lex.digit l) l)) = 0 := rfl
  rw [e] at hok
  unfold numOk at hok
  rw [if_pos rfl] at hok
  rw [if_neg (by rw [hok]; decide)]
 ·have hk := hb.resolve_left h0
  rw [if_neg h0]
  unfold numOk at hok
  rw [if_neg (by omega)] at hok
  rw [if_neg (by rw [hok]; decide)]
theorem numYes {k : Int} {d : List UInt8} {x : ByteArray} {w : World} {f : Nat} (hok : numOk k d = true) (h : Calls Tryz.prog f #[.string x, .int .i64 k] w fun e w' => numPost k d w e w') :
  Calls Tryz.prog f #[.string x, .int .i64 k] w fun e w' => e = .returned (.tuple #[.int .i64 (numN k d), .bool true]) ∧ w' = w :=
 h.mono fun e w' hp => by
  obtain ⟨⟨n, he, hn⟩, hw⟩ := hp
  rw [hn hok, hok] at he
  exact ⟨he, hw⟩
def numNone (w : World) (e : Ending) (w' : World) : Prop := ∃ n : Int, e = .returned (.tuple #[.int .i64 n, .bool false]) ∧ w' = w
theorem numPost_none {w : World} {e : Ending} {w' : World} (h : numNone w e w') : ∃ n : Int, e = .returned (.tuple #[.int .i64 n, .bool false]) ∧ w' = w := h
theorem numNo {k : Int} {d : List UInt8} {x : ByteArray} {w : World} {f : Nat} (hok : numOk k d = false) (h : Calls Tryz.prog f #[.string x, .int .i64 k] w fun e w' => numPost k d w e w') :
  Calls Tryz.prog f #[.string x, .int .i64 k] w fun e w' => numNone w e w' :=
 h.mono fun e w' hp => by
  obtain ⟨⟨n, he, hn⟩, hw⟩ := hp
  rw [hok] at he
  exact ⟨n, he, hw⟩
theorem rtoken_num (s : ByteArray) (i : Nat) (hs : s.size ≤ 65536) (hi : i < s.size) (hD : Lex.digit (s.data.toList[i]'(by simpa using hi)) = true) (w : World) :
  Calls Tryz.prog 61 #[.string s, .int .i64 (i : Int)] w fun e w' => rtPost s i w (Lex.numTok (s.data.toList.drop i)) e w' := by
 have hsz : s.data.toList.length = s.size := by simp
 have hx := fun wx => idx_str s i hi (i : Int) rfl wx
 obtain ⟨c, hc⟩ : ∃ c : UInt8, c = s.data.toList[i]'(by simpa using hi) := ⟨_, rfl⟩
 have hp : Lex.pk s.data.toList i = c.toNat := by rw [Lex.pk_eq (by simpa using hi), hc]
 simp only [hp] at hx
 rw [← hc] at hD
 clear hc hp
 have hLf := fun wx => rletter_any c wx
 have hDt := fun wx => rdigit_any c wx
 rw [show Lex.letter c = false by unfold Lex.letter; rw [hD]; simp] at hLf
 rw [hD] at hDt
 clear hD
 obtain ⟨A, hA⟩ : ∃ A, A = Lex.spn Lex.digit (s.data.toList.drop i) := ⟨_, rfl⟩
 obtain ⟨B, hB⟩ : ∃ B, B = Lex.spn Lex.word (s.data.toList.drop (i + A)) := ⟨_, rfl⟩
 obtain ⟨d, hd⟩ : ∃ d, s.extract i (i + A) = d := ⟨_, rfl⟩
 obtain ⟨y, hy⟩ : ∃ y, s.extract (i + A) (i + A + B) = y := ⟨_, rfl⟩
 have hdl : d.data.toList = (s.data.toList.drop i).take A := by rw [← hd, ext_list]
 have hyl : y.data.toList = (s.data.toList.drop (i + A)).take B := by rw [← hy, ext_list]
 have hdig : Lex.digits d.data.toList := by rw [hdl, hA]; exact Lex.take_digits _
 have hAs : i + A ≤ s.size := by
  have := Lex.spn_le Lex.digit (s.data.toList.drop i)
  rw [List.length_drop] at this
  omega
 have hds : d.size ≤ 65536 := by
  have e1 : d.data.toList.length = d.size := Array.length_toList
  rw [hdl, List.length_take, List.length_drop] at e1
  omega
 have hkd := fun wx => rkind_any y wx
 obtain ⟨kk, hkk⟩ : ∃ kk, kk = Lex.kindOf y.data.toList := ⟨_, rfl⟩
 rw [← hkk] at hkd
 have hnum := fun (hk : kk = 0 ∨ (2 ≤ kk ∧ kk ≤ 9)) wx => rnumber_any d hdig hds kk hk wx
 have hT : numSplit (s.data.toList.drop i) A B kk d.data.toList := ⟨hA, by rw [hB, List.drop_drop], hdl, by rw [hkk, hyl, List.drop_drop]⟩
 have HT := ld hT
 have HA := ld hA
 have HB := ld hB
 have HD := ld hd
 have HY := ld hy
 have hk9 : kk ≤ 9 := by rw [hkk]; exact kindOf_nine _
 have hk0 : 0 ≤ kk := by rw [hkk]; exact kindOf_ge _
 have hkB : B = 0 → kk = 0 := by intro h; rw [hkk, hyl, h]; rfl
 have hnum : ∀ wx, (B = 0 ∨ ¬ kk < 2) → Calls Tryz.prog 97 #[.string d, .int .i64 kk] wx fun e w' => numPost kk d.data.toList wx e w' :=
  fun wx h => hnum (by rcases h with h | h; exact .inl (hkB h); exact .inr ⟨by omega, hk9⟩) wx
 clear hT hA hB hd hy hdl hyl hkk hdig hkB
 go_enter Tryz.func61, Tryz.ntmps61
 go_wp2_with (first | (go_at_call 93; refine (hLf _).mono ?_; rintro e w' ⟨rfl, rfl⟩) | (go_at_call 94; refine (hDt _).mono ?_; rintro e w' ⟨rfl, rfl⟩))
 go_loop [6] (fun a => ∃ j : Nat, i ≤ j ∧ j ≤ s.size ∧ a = .int .i64 (j : Int) ∧ Hid (j + Lex.spn Lex.digit (s.data.toList.drop j) = i + A)) (fun a => s.size - (intOf a).toNat)
 case atStart => exact ⟨i, Nat.le_refl _, Nat.le_of_lt hi, rfl, ld (by rw [HA.out])⟩
 case round =>
  obtain ⟨j, hij, hj, rfl, HJ0⟩ := hrel
  by_cases hlt : j < s.size
  ·have hx2 := fun wx => idx_str s j hlt (j : Int) rfl wx
   obtain ⟨c2, hc2⟩ : ∃ c2 : UInt8, c2 = s.data.toList[j]'(by simpa using hlt) := ⟨_, rfl⟩
   have hp2 : Lex.pk s.data.toList j = c2.toNat := by rw [Lex.pk_eq (by simpa using hlt), hc2]
   simp only [hp2] at hx2
   have hd2 := fun wx => rdigit_any c2 wx
   have hstep := Lex.spn_step (p := Lex.digit) (l := s.data.toList) (j := j) (by simpa using hlt)
   have hstop := Lex.spn_stop (p := Lex.digit) (l := s.data.toList) (j := j) (by simpa using hlt)
   rw [← hc2] at hstep hstop
   have HSTEP := ld hstep
   have HSTOP := ld hstop
   clear hstep hstop hc2 hp2
   rcases Bool.eq_false_or_eq_true (Lex.digit c2) with hr | hr
   ·rw [hr] at hd2
    have e1 := HJ0.out
    have e2 := HSTEP.out hr
    have HN : Hid (j + 1 + Lex.spn Lex.digit (s.data.toList.drop (j + 1)) = i + A) := ld (by omega)
    clear e1 e2 HSTEP HSTOP HJ0
    go_wp2_with (go_at_call 94; refine (hd2 _).mono ?_; rintro e w' ⟨rfl, rfl⟩)
    go_round
    case rel => exact ⟨j + 1, by omega, by omega, by go_num, HN⟩
    case measure => simp [intOf]; omega
   ·rw [hr] at hd2
    have e1 := HJ0.out
    have e2 := HSTOP.out hr
    have HJ : Hid (j = i + A) := ld (by omega)
    clear e1 e2 HSTEP HSTOP HJ0
    have hsl := fun wx => slc_str s i j hij hj wx
    rw [show s.extract i j = d by rw [HJ.out]; exact HD.out] at hsl
    go_wp2_with (go_at_call 94; refine (hd2 _).mono ?_; rintro e w' ⟨rfl, rfl⟩)
    go_loop [10] (fun a => ∃ e : Nat, j ≤ e ∧ e ≤ s.size ∧ a = .int .i64 (e : Int) ∧ Hid (e + Lex.spn Lex.word (s.data.toList.drop e) = i + A + B)) (fun a => s.size - (intOf a).toNat)
    case atStart => exact ⟨j, Nat.le_refl _, hj, rfl, ld (by rw [HJ.out, HB.out])⟩
    case round =>
     obtain ⟨e, hje, he, rfl, H3⟩ := hrel
     by_cases hlt3 : e < s.size
     ·have hx3 := fun wx => idx_str s e hlt3 (e : Int) rfl wx
      obtain ⟨c3, hc3⟩ : ∃ c3 : UInt8, c3 = s.data.toList[e]'(by simpa using hlt3) := ⟨_, rfl⟩
      have hp3 : Lex.pk s.data.toList e = c3.toNat := by rw [Lex.pk_eq (by simpa using hlt3), hc3]
      simp only [hp3] at hx3
      have hl3 := fun wx => rletter_any c3 wx
      have hd3 := fun wx => rdigit_any c3 wx
      have hstep := Lex.spn_step (p := Lex.word) (l := s.data.toList) (j := e) (by simpa using hlt3)
      have hstop := Lex.spn_stop (p := Lex.word) (l := s.data.toList) (j := e) (by simpa using hlt3)
      rw [← hc3, word_or] at hstep hstop
      have HSTEP := ld hstep
      have HSTOP := ld hstop
      clear hstep hstop hc3 hp3
      rcases Bool.eq_false_or_eq_true (Lex.letter c3) with hq | hq
      ·rw [hq] at hl3
       have e1 := H3.out
       have e2 := HSTEP.out (by rw [hq]; rfl)
       have HN : Hid (e + 1 + Lex.spn Lex.word (s.data.toList.drop (e + 1)) = i + A + B) := ld (by omega)
       clear e1 e2 HSTEP HSTOP H3
       go_wp2_with (first | (go_at_call 93; refine (hl3 _).mono ?_; rintro e w' ⟨rfl, rfl⟩) | (go_at_call 94; refine (hd3 _).mono ?_; rintro e w' ⟨rfl, rfl⟩))
       go_round
       case rel => exact ⟨e + 1, by omega, by omega, by go_num, HN⟩
       case measure => simp [intOf]; omega
      ·rcases Bool.eq_false_or_eq_true (Lex.digit c3) with hr | hr
       ·rw [hq] at hl3
        rw [hr] at hd3
        have e1 := H3.out
        have e2 := HSTEP.out (by rw [hq, hr]; rfl)
        have HN : Hid (e + 1 + Lex.spn Lex.word (s.data.toList.drop (e + 1)) = i + A + B) := ld (by omega)
        clear e1 e2 HSTEP HSTOP H3
        go_wp2_with (first | (go_at_call 93; refine (hl3 _).mono ?_; rintro e w' ⟨rfl, rfl⟩) | (go_at_call 94; refine (hd3 _).mono ?_; rintro e w' ⟨rfl, rfl⟩))
        go_round
        case rel => exact ⟨e + 1, by omega, by omega, by go_num, HN⟩
        case measure => simp [intOf]; omega
       ·rw [hq] at hl3
        rw [hr] at hd3
        have e1 := H3.out
        have e2 := HSTOP.out (by rw [hq, hr]; rfl)
        have HE : Hid (e = i + A + B) := ld (by omega)
        clear e1 e2 HSTEP HSTOP H3
        have hsl2 := fun wx => slc_str s j e hje he wx
        rw [show s.extract j e = y by rw [HJ.out, HE.out]; exact HY.out] at hsl2
        have hsl3 := fun wx => slc_str s i e (by omega) he wx
        obtain ⟨z, hz⟩ : ∃ z, z = s.extract i e := ⟨_, rfl⟩
        rw [← hz] at hsl3
        have HZ : Hid (s.extract i (i + (A + B)) = z) := ld (by rw [hz, HE.out, Nat.add_assoc])
        have hes : i + (A + B) ≤ s.size := by have := HE.out; omega
        clear hz
        by_cases hb0 : B = 0
        ·have hd1 : ¬ j < e := by have := HJ.out; have := HE.out; omega
         rcases Bool.eq_false_or_eq_true (numOk kk d.data.toList) with hok | hok
         ·have HTok := ld (numTok_go (by omega) HT.out hok)
          have hny := fun wx => numYes hok (hnum wx (by omega))
          generalize numN kk d.data.toList = N at hny HTok
          clear hok hnum hb0
          go_wp2_with (first | (go_at_call 96; refine (hkd _).mono ?_; rintro e w1 ⟨rfl, hg1⟩; refine Hid.out ?_) | (go_at_call 93; refine (hl3 _).mono ?_; rintro e w' ⟨rfl, rfl⟩) | (go_at_call 94; refine (hd3 _).mono ?_; rintro e w' ⟨rfl, rfl⟩))
          have h6 := Six.of hg1 (by simp)
          obtain ⟨⟨x0, c0⟩, ⟨x1, c1⟩, ⟨x2, c2⟩, ⟨x3, c3⟩, ⟨x4, c4⟩, ⟨x5, c5⟩⟩ := h6.c
          have f0 := h6.f 0
          have f1 := h6.f 1
          have f2 := h6.f 2
          have f3 := h6.f 3
          have f4 := h6.f 4
          have f5 := h6.f 5
          clear h6
          refine ld ?_
          go_wp2_with (go_at_call 97; refine (hny _).mono ?_; rintro e w' ⟨rfl, rfl⟩)
          (try simp only [Exit.inBlock, Exit.then])
          refine bodyPost_ret (v := .tuple #[.agg #[.int .i64 2, .string z, .int .i64 N, .int .i64 kk, .int .i64 0, .int .i64 (i : Int)], .int .i64 0]) ?_ rfl ?_
          ·rw [results_cell_tmp rfl]
           go_simp
          ·go_light
           have hg2 := (ga w tk0 none).trans hg1
           rw [HTok.out]
           refine ⟨⟨by rw [HZ.out], hes⟩, ?_⟩
           repeat (first | with_reducible exact hg2 | with_reducible refine gset ?_ (.inl (Nat.le_refl _)) _)
         ·have HTok := ld (numTok_no (by omega) HT.out hok)
          have hnn := fun wx => numNo hok (hnum wx (by omega))
          clear hok hnum hb0
          go_wp2_with (first | (go_at_call 96; refine (hkd _).mono ?_; rintro e w1 ⟨rfl, hg1⟩; refine Hid.out ?_) | (go_at_call 93; refine (hl3 _).mono ?_; rintro e w' ⟨rfl, rfl⟩) | (go_at_call 94; refine (hd3 _).mono ?_; rintro e w' ⟨rfl, rfl⟩))
          have h6 := Six.of hg1 (by simp)
          obtain ⟨⟨x0, c0⟩, ⟨x1, c1⟩, ⟨x2, c2⟩, ⟨x3, c3⟩, ⟨x4, c4⟩, ⟨x5, c5⟩⟩ := h6.c
          have f0 := h6.f 0
          have f1 := h6.f 1
          have f2 := h6.f 2
          have f3 := h6.f 3
          have f4 := h6.f 4
          have f5 := h6.f 5
          clear h6
          refine ld ?_
          go_wp2_with (go_at_call 97; refine (hnn _).mono ?_; rintro e w' hp; obtain ⟨n0, rfl, rfl⟩ := numPost_none hp)
          (try simp only [Exit.inBlock, Exit.then])
          refine bodyPost_ret (v := .tuple #[.agg #[.int .i64 0, .string ⟨#[]⟩, .int .i64 0, .int .i64 0, .int .i64 0, .int .i64 0], .int .i64 11]) ?_ rfl ?_
          ·rw [results_cell_tmp rfl]
           go_simp
          ·go_light
           have hg2 := (ga w tk0 none).trans hg1
           rw [HTok.out]
           refine ⟨rfl, ?_⟩
           repeat (first | with_reducible exact hg2 | with_reducible refine gset ?_ (.inl (Nat.le_refl _)) _)
        ·have hd1 : j < e := by have := HJ.out; have := HE.out; omega
         by_cases hk2 : kk < 2
         ·have HTok := ld (numTok_bad hb0 HT.out hk2)
          clear hnum hb0
          go_wp2_with (first | (go_at_call 96; refine (hkd _).mono ?_; rintro e w1 ⟨rfl, hg1⟩; refine Hid.out ?_) | (go_at_call 93; refine (hl3 _).mono ?_; rintro e w' ⟨rfl, rfl⟩) | (go_at_call 94; refine (hd3 _).mono ?_; rintro e w' ⟨rfl, rfl⟩))
          have h6 := Six.of hg1 (by simp)
          obtain ⟨⟨x0, c0⟩, ⟨x1, c1⟩, ⟨x2, c2⟩, ⟨x3, c3⟩, ⟨x4, c4⟩, ⟨x5, c5⟩⟩ := h6.c
          have f0 := h6.f 0
          have f1 := h6.f 1
          have f2 := h6.f 2
          have f3 := h6.f 3
          have f4 := h6.f 4
          have f5 := h6.f 5
          clear h6
          refine ld ?_
          go_wp2
          (try simp only [Exit.inBlock, Exit.then])
          refine bodyPost_ret (v := .tuple #[.agg #[.int .i64 0, .string ⟨#[]⟩, .int .i64 0, .int .i64 0, .int .i64 0, .int .i64 0], .int .i64 11]) ?_ rfl ?_
          ·rw [results_cell_tmp rfl]
           go_simp
          ·go_light
           have hg2 := (ga w tk0 none).trans hg1
           rw [HTok.out]
           refine ⟨rfl, ?_⟩
           repeat (first | with_reducible exact hg2 | with_reducible refine gset ?_ (.inl (Nat.le_refl _)) _)
         ·rcases Bool.eq_false_or_eq_true (numOk kk d.data.toList) with hok | hok
          ·have HTok := ld (numTok_go (by omega) HT.out hok)
           have hny := fun wx => numYes hok (hnum wx (by omega))
           generalize numN kk d.data.toList = N at hny HTok
           clear hok hnum hb0
           go_wp2_with (first | (go_at_call 96; refine (hkd _).mono ?_; rintro e w1 ⟨rfl, hg1⟩; refine Hid.out ?_) | (go_at_call 93; refine (hl3 _).mono ?_; rintro e w' ⟨rfl, rfl⟩) | (go_at_call 94; refine (hd3 _).mono ?_; rintro e w' ⟨rfl, rfl⟩))
           have h6 := Six.of hg1 (by simp)
           obtain ⟨⟨x0, c0⟩, ⟨x1, c1⟩, ⟨x2, c2⟩, ⟨x3, c3⟩, ⟨x4, c4⟩, ⟨x5, c5⟩⟩ := h6.c
           have f0 := h6.f 0
           have f1 := h6.f 1
           have f2 := h6.f 2
           have f3 := h6.f 3
           have f4 := h6.f 4
           have f5 := h6.f 5
           clear h6
           refine ld ?_
           go_wp2_with (go_at_call 97; refine (hny _).mono ?_; rintro e w' ⟨rfl, rfl⟩)
           (try simp only [Exit.inBlock, Exit.then])
           refine bodyPost_ret (v := .tuple #[.agg #[.int .i64 2, .string z, .int .i64 N, .int .i64 kk, .int .i64 0, .int .i64 (i : Int)], .int .i64 0]) ?_ rfl ?_
           ·rw [results_cell_tmp rfl]
            go_simp
           ·go_light
            have hg2 := (ga w tk0 none).trans hg1
            rw [HTok.out]
            refine ⟨⟨by rw [HZ.out], hes⟩, ?_⟩
            repeat (first | with_reducible exact hg2 | with_reducible refine gset ?_ (.inl (Nat.le_refl _)) _)
          ·have HTok := ld (numTok_no (by omega) HT.out hok)
           have hnn := fun wx => numNo hok (hnum wx (by omega))
           clear hok hnum hb0
           go_wp2_with (first | (go_at_call 96; refine (hkd _).mono ?_; rintro e w1 ⟨rfl, hg1⟩; refine Hid.out ?_) | (go_at_call 93; refine (hl3 _).mono ?_; rintro e w' ⟨rfl, rfl⟩) | (go_at_call 94; refine (hd3 _).mono ?_; rintro e w' ⟨rfl, rfl⟩))
           have h6 := Six.of hg1 (by simp)
           obtain ⟨⟨x0, c0⟩, ⟨x1, c1⟩, ⟨x2, c2⟩, ⟨x3, c3⟩, ⟨x4, c4⟩, ⟨x5, c5⟩⟩ := h6.c
           have f0 := h6.f 0
           have f1 := h6.f 1
           have f2 := h6.f 2
           have f3 := h6.f 3
           have f4 := h6.f 4
           have f5 := h6.f 5
           clear h6
           refine ld ?_
           go_wp2_with (go_at_call 97; refine (hnn _).mono ?_; rintro e w' hp; obtain ⟨n0, rfl, rfl⟩ := numPost_none hp)
           (try simp only [Exit.inBlock, Exit.then])
           refine bodyPost_ret (v := .tuple #[.agg #[.int .i64 0, .string ⟨#[]⟩, .int .i64 0, .int .i64 0, .int .i64 0, .int .i64 0], .int .i64 11]) ?_ rfl ?_
           ·rw [results_cell_tmp rfl]
            go_simp
           ·go_light
            have hg2 := (ga w tk0 none).trans hg1
            rw [HTok.out]
            refine ⟨rfl, ?_⟩
            repeat (first | with_reducible exact hg2 | with_reducible refine gset ?_ (.inl (Nat.le_refl _)) _)
     ·have e1 := H3.out
      have e2 := Lex.spn_end Lex.word (l := s.data.toList) (j := e) (by simpa using hlt3)
      have HE : Hid (e = i + A + B) := ld (by omega)
      clear e1 e2 H3
      have hsl2 := fun wx => slc_str s j e hje he wx
      rw [show s.extract j e = y by rw [HJ.out, HE.out]; exact HY.out] at hsl2
      have hsl3 := fun wx => slc_str s i e (by omega) he wx
      obtain ⟨z, hz⟩ : ∃ z, z = s.extract i e := ⟨_, rfl⟩
      rw [← hz] at hsl3
      have HZ : Hid (s.extract i (i + (A + B)) = z) := ld (by rw [hz, HE.out, Nat.add_assoc])
      have hes : i + (A + B) ≤ s.size := by have := HE.out; omega
      clear hz
      by_cases hb0 : B = 0
      ·exfalso; have := HJ.out; have := HE.out; omega
      ·have hd1 : j < e := by have := HJ.out; have := HE.out; omega
       by_cases hk2 : kk < 2
       ·have HTok := ld (numTok_bad hb0 HT.out hk2)
        clear hnum hb0
        go_wp2_with (first | (go_at_call 96; refine (hkd _).mono ?_; rintro e w1 ⟨rfl, hg1⟩; refine Hid.out ?_))
        have h6 := Six.of hg1 (by simp)
        obtain ⟨⟨x0, c0⟩, ⟨x1, c1⟩, ⟨x2, c2⟩, ⟨x3, c3⟩, ⟨x4, c4⟩, ⟨x5, c5⟩⟩ := h6.c
        have f0 := h6.f 0
        have f1 := h6.f 1
        have f2 := h6.f 2
        have f3 := h6.f 3
        have f4 := h6.f 4
        have f5 := h6.f 5
        clear h6
        refine ld ?_
        go_wp2
        (try simp only [Exit.inBlock, Exit.then])
        refine bodyPost_ret (v := .tuple #[.agg #[.int .i64 0, .string ⟨#[]⟩, .int .i64 0, .int .i64 0, .int .i64 0, .int .i64 0], .int .i64 11]) ?_ rfl ?_
        ·rw [results_cell_tmp rfl]
         go_simp
        ·go_light
         have hg2 := (ga w tk0 none).trans hg1
         rw [HTok.out]
         refine ⟨rfl, ?_⟩
         repeat (first | with_reducible exact hg2 | with_reducible refine gset ?_ (.inl (Nat.le_refl _)) _)
       ·rcases Bool.eq_false_or_eq_true (numOk kk d.data.toList) with hok | hok
        ·have HTok := ld (numTok_go (by omega) HT.out hok)
         have hny := fun wx => numYes hok (hnum wx (by omega))
         generalize numN kk d.data.toList = N at hny HTok
         clear hok hnum hb0
         go_wp2_with (first | (go_at_call 96; refine (hkd _).mono ?_; rintro e w1 ⟨rfl, hg1⟩; refine Hid.out ?_))
         have h6 := Six.of hg1 (by simp)
         obtain ⟨⟨x0, c0⟩, ⟨x1, c1⟩, ⟨x2, c2⟩, ⟨x3, c3⟩, ⟨x4, c4⟩, ⟨x5, c5⟩⟩ := h6.c
         have f0 := h6.f 0
         have f1 := h6.f 1
         have f2 := h6.f 2
         have f3 := h6.f 3
         have f4 := h6.f 4
         have f5 := h6.f 5
         clear h6
         refine ld ?_
         go_wp2_with (go_at_call 97; refine (hny _).mono ?_; rintro e w' ⟨rfl, rfl⟩)
         (try simp only [Exit.inBlock, Exit.then])
         refine bodyPost_ret (v := .tuple #[.agg #[.int .i64 2, .string z, .int .i64 N, .int .i64 kk, .int .i64 0, .int .i64 (i : Int)], .int .i64 0]) ?_ rfl ?_
         ·rw [results_cell_tmp rfl]
          go_simp
         ·go_light
          have hg2 := (ga w tk0 none).trans hg1
          rw [HTok.out]
          refine ⟨⟨by rw [HZ.out], hes⟩, ?_⟩
          repeat (first | with_reducible exact hg2 | with_reducible refine gset ?_ (.inl (Nat.le_refl _)) _)
        ·have HTok := ld (numTok_no (by omega) HT.out hok)
         have hnn := fun wx => numNo hok (hnum wx (by omega))
         clear hok hnum hb0
         go_wp2_with (first | (go_at_call 96; refine (hkd _).mono ?_; rintro e w1 ⟨rfl, hg1⟩; refine Hid.out ?_))
         have h6 := Six.of hg1 (by simp)
         obtain ⟨⟨x0, c0⟩, ⟨x1, c1⟩, ⟨x2, c2⟩, ⟨x3, c3⟩, ⟨x4, c4⟩, ⟨x5, c5⟩⟩ := h6.c
         have f0 := h6.f 0
         have f1 := h6.f 1
         have f2 := h6.f 2
         have f3 := h6.f 3
         have f4 := h6.f 4
         have f5 := h6.f 5
         clear h6
         refine ld ?_
         go_wp2_with (go_at_call 97; refine (hnn _).mono ?_; rintro e w' hp; obtain ⟨n0, rfl, rfl⟩ := numPost_none hp)
         (try simp only [Exit.inBlock, Exit.then])
         refine bodyPost_ret (v := .tuple #[.agg #[.int .i64 0, .string ⟨#[]⟩, .int .i64 0, .int .i64 0, .int .i64 0, .int .i64 0], .int .i64 11]) ?_ rfl ?_
         ·rw [results_cell_tmp rfl]
          go_simp
         ·go_light
          have hg2 := (ga w tk0 none).trans hg1
          rw [HTok.out]
          refine ⟨rfl, ?_⟩
          repeat (first | with_reducible exact hg2 | with_reducible refine gset ?_ (.inl (Nat.le_refl _)) _)
  ·have e1 := HJ0.out
   have e2 := Lex.spn_end Lex.digit (l := s.data.toList) (j := j) (by simpa using hlt)
   have HJ : Hid (j = i + A) := ld (by omega)
   clear e1 e2 HJ0
   have hsl := fun wx => slc_str s i j hij hj wx
   rw [show s.extract i j = d by rw [HJ.out]; exact HD.out] at hsl
   go_wp2
   go_loop [10] (fun a => ∃ e : Nat, j ≤ e ∧ e ≤ s.size ∧ a = .int .i64 (e : Int) ∧ Hid (e + Lex.spn Lex.word (s.data.toList.drop e) = i + A + B)) (fun a => s.size - (intOf a).toNat)
   case atStart => exact ⟨j, Nat.le_refl _, hj, rfl, ld (by rw [HJ.out, HB.out])⟩
   case round =>
    obtain ⟨e, hje, he, rfl, H3⟩ := hrel
    by_cases hlt3 : e < s.size
    ·exfalso; omega
    ·have e1 := H3.out
     have e2 := Lex.spn_end Lex.word (l := s.data.toList) (j := e) (by simpa using hlt3)
     have HE : Hid (e = i + A + B) := ld (by omega)
     clear e1 e2 H3
     have hsl2 := fun wx => slc_str s j e hje he wx
     rw [show s.extract j e = y by rw [HJ.out, HE.out]; exact HY.out] at hsl2
     have hsl3 := fun wx => slc_str s i e (by omega) he wx
     obtain ⟨z, hz⟩ : ∃ z, z = s.extract i e := ⟨_, rfl⟩
     rw [← hz] at hsl3
     have HZ : Hid (s.extract i (i + (A + B)) = z) := ld (by rw [hz, HE.out, Nat.add_assoc])
     have hes : i + (A + B) ≤ s.size := by have := HE.out; omega
     clear hz
     by_cases hb0 : B = 0
     ·have hd1 : ¬ j < e := by have := HJ.out; have := HE.out; omega
      rcases Bool.eq_false_or_eq_true (numOk kk d.data.toList) with hok | hok
      ·have HTok := ld (numTok_go (by omega) HT.out hok)
       have hny := fun wx => numYes hok (hnum wx (by omega))
       generalize numN kk d.data.toList = N at hny HTok
       clear hok hnum hb0
       go_wp2_with (first | (go_at_call 96; refine (hkd _).mono ?_; rintro e w1 ⟨rfl, hg1⟩; refine Hid.out ?_))
       have h6 := Six.of hg1 (by simp)
       obtain ⟨⟨x0, c0⟩, ⟨x1, c1⟩, ⟨x2, c2⟩, ⟨x3, c3⟩, ⟨x4, c4⟩, ⟨x5, c5⟩⟩ := h6.c
       have f0 := h6.f 0
       have f1 := h6.f 1
       have f2 := h6.f 2
       have f3 := h6.f 3
       have f4 := h6.f 4
       have f5 := h6.f 5
       clear h6
       refine ld ?_
       go_wp2_with (go_at_call 97; refine (hny _).mono ?_; rintro e w' ⟨rfl, rfl⟩)
       (try simp only [Exit.inBlock, Exit.then])
       refine bodyPost_ret (v := .tuple #[.agg #[.int .i64 2, .string z, .int .i64 N, .int .i64 kk, .int .i64 0, .int .i64 (i : Int)], .int .i64 0]) ?_ rfl ?_
       ·rw [results_cell_tmp rfl]
        go_simp
       ·go_light
        have hg2 := (ga w tk0 none).trans hg1
        rw [HTok.out]
        refine ⟨⟨by rw [HZ.out], hes⟩, ?_⟩
        repeat (first | with_reducible exact hg2 | with_reducible refine gset ?_ (.inl (Nat.le_refl _)) _)
      ·have HTok := ld (numTok_no (by omega) HT.out hok)
       have hnn := fun wx => numNo hok (hnum wx (by omega))
       clear hok hnum hb0
       go_wp2_with (first | (go_at_call 96; refine (hkd _).mono ?_; rintro e w1 ⟨rfl, hg1⟩; refine Hid.out ?_))
       have h6 := Six.of hg1 (by simp)
       obtain ⟨⟨x0, c0⟩, ⟨x1, c1⟩, ⟨x2, c2⟩, ⟨x3, c3⟩, ⟨x4, c4⟩, ⟨x5, c5⟩⟩ := h6.c
       have f0 := h6.f 0
       have f1 := h6.f 1
       have f2 := h6.f 2
       have f3 := h6.f 3
       have f4 := h6.f 4
       have f5 := h6.f 5
       clear h6
       refine ld ?_
       go_wp2_with (go_at_call 97; refine (hnn _).mono ?_; rintro e w' hp; obtain ⟨n0, rfl, rfl⟩ := numPost_none hp)
       (try simp only [Exit.inBlock, Exit.then])
       refine bodyPost_ret (v := .tuple #[.agg #[.int .i64 0, .string ⟨#[]⟩, .int .i64 0, .int .i64 0, .int .i64 0, .int .i64 0], .int .i64 11]) ?_ rfl ?_
       ·rw [results_cell_tmp rfl]
        go_simp
       ·go_light
        have hg2 := (ga w tk0 none).trans hg1
        rw [HTok.out]
        refine ⟨rfl, ?_⟩
        repeat (first | with_reducible exact hg2 | with_reducible refine gset ?_ (.inl (Nat.le_refl _)) _)
     ·exfalso; have := HJ.out; have := HE.out; omega
theorem rtoken_sign (s : ByteArray) (i : Nat) (hs : s.size ≤ 65536) (hi : i < s.size) (hW : Lex.word (s.data.toList[i]'(by simpa using hi)) = false) (w : World) :
  Calls Tryz.prog 61 #[.string s, .int .i64 (i : Int)] w fun e w' => rtPost s i w (Lex.signTok (s.data.toList.drop i)) e w' := by
 have hsz : s.data.toList.length = s.size := by simp
 have hx := fun wx => idx_str s i hi (i : Int) rfl wx
 obtain ⟨c, hc⟩ : ∃ c : UInt8, c = s.data.toList[i]'(by simpa using hi) := ⟨_, rfl⟩
 have hp : Lex.pk s.data.toList i = c.toNat := by rw [Lex.pk_eq (by simpa using hi), hc]
 simp only [hp] at hx
 rw [← hc] at hW
 clear hc hp
 have hLf := fun wx => rletter_any c wx
 have hDf := fun wx => rdigit_any c wx
 have hD : Lex.digit c = false := by
  have h := word_or c
  rw [hW] at h
  cases hd : Lex.digit c
  ·rfl
  ·rw [hd] at h; simp at h
 rw [show Lex.letter c = false by unfold Lex.letter; rw [hW]; simp] at hLf
 rw [hD] at hDf
 clear hD hW
 have hS := fun wx => rsign_any s i hs hi wx
 have ht : Lex.signTok (s.data.toList.drop i) = if Lex.signW (Lex.pk s.data.toList i) (Lex.pk s.data.toList (i + 1)) = 0 then .bad 10 else .tok 4 0 0 (Lex.signW (Lex.pk s.data.toList i) (Lex.pk s.data.toList (i + 1))) := by
  unfold Lex.signTok
  dsimp only
  rw [Lex.pk_drop, Lex.pk_drop]
  rfl
 have hlen : i + Lex.signW (Lex.pk s.data.toList i) (Lex.pk s.data.toList (i + 1)) ≤ s.size := by
  by_cases h2 : i + 2 ≤ s.size
  ·have := Lex.signW_two (Lex.pk s.data.toList i) (Lex.pk s.data.toList (i + 1))
   omega
  ·rw [Lex.pk_ge (l := s.data.toList) (j := i + 1) (by omega)]
   have : Lex.signW (Lex.pk s.data.toList i) 0 ≤ 1 := by
    unfold Lex.signW; rw [if_neg (by omega)]; split <;> omega
   omega
 rw [ht]
 clear ht
 generalize Lex.signW (Lex.pk s.data.toList i) (Lex.pk s.data.toList (i + 1)) = K at hS hlen
 by_cases h0 : K = 0
 ·subst h0
  rw [if_pos rfl]
  unfold rtPost
  dsimp only
  go_enter Tryz.func61, Tryz.ntmps61
  go_wp2_with (first | (go_at_call 93; refine (hLf _).mono ?_; rintro e w' ⟨rfl, rfl⟩) | (go_at_call 94; refine (hDf _).mono ?_; rintro e w' ⟨rfl, rfl⟩) | (go_at_call 98; refine (hS _).mono ?_; rintro e w' ⟨rfl, rfl⟩))
  (try simp only [Exit.inBlock, Exit.then])
  refine bodyPost_ret (v := .tuple #[.agg #[.int .i64 0, .string ⟨#[]⟩, .int .i64 0, .int .i64 0, .int .i64 0, .int .i64 0], .int .i64 10]) ?_ rfl ?_
  ·rw [results_cell_tmp rfl]
   go_simp
  ·go_light
   have hg2 := ga w tk0 none
   refine ⟨rfl, ?_⟩
   repeat (first | with_reducible exact hg2 | with_reducible exact ga _ _ _ | with_reducible refine gset ?_ (.inl (Nat.le_refl _)) _)
 ·rw [if_neg h0]
  have hk0 : ((K : Int) == 0) = false := by rw [beq_eq_false_iff_ne]; omega
  have ew : wrap64 ((i : Int) + K) = (i : Int) + K := by unfold wrap64; omega
  have hsl : ∀ wx, (Instr.slice 9 (.string s) (some (.int .i64 (i : Int))) (some (.int .i64 ((i : Int) + K))) none).run Tryz.prog wx = .ok (.string (s.extract i (i + K))) wx := fun wx => slc_str s i (i + K) (by omega) hlen wx
  obtain ⟨z, hz⟩ : ∃ z, z = s.extract i (i + K) := ⟨_, rfl⟩
  rw [← hz] at hsl
  unfold rtPost
  dsimp only
  rw [← hz]
  clear hz
  go_enter Tryz.func61, Tryz.ntmps61
  go_wp2_with (first | (go_at_call 93; refine (hLf _).mono ?_; rintro e w' ⟨rfl, rfl⟩) | (go_at_call 94; refine (hDf _).mono ?_; rintro e w' ⟨rfl, rfl⟩) | (go_at_call 98; refine (hS _).mono ?_; rintro e w' ⟨rfl, rfl⟩))
  (try simp only [Exit.inBlock, Exit.then])
  refine bodyPost_ret (v := .tuple #[.agg #[.int .i64 4, .string z, .int .i64 0, .int .i64 0, .int .i64 0, .int .i64 (i : Int)], .int .i64 0]) ?_ rfl ?_
  ·rw [results_cell_tmp rfl]
   go_simp
  ·go_light
   have hg2 := ga w tk0 none
   refine ⟨⟨rfl, hlen⟩, ?_⟩
   repeat (first | with_reducible exact hg2 | with_reducible exact ga _ _ _ | with_reducible refine gset ?_ (.inl (Nat.le_refl _)) _)
theorem rtoken_any (s : ByteArray) (i : Nat) (hs : s.size ≤ 65536) (hi : i < s.size) (w : World) :
  Calls Tryz.prog 61 #[.string s, .int .i64 (i : Int)] w fun e w' => rtPost s i w (Lex.tokAt (s.data.toList.drop i)) e w' := by
 have hi2 : i < s.data.toList.length := by simpa using hi
 have e : Lex.tokAt (s.data.toList.drop i) = if Lex.digit s.data.toList[i] then Lex.numTok (s.data.toList.drop i) else if Lex.word s.data.toList[i] then Lex.nameTok (s.data.toList.drop i) else Lex.signTok (s.data.toList.drop i) := by
  rw [List.drop_eq_getElem_cons hi2]; rfl
 rw [e]
 rcases Bool.eq_false_or_eq_true (Lex.digit s.data.toList[i]) with hd | hd
 ·rw [if_pos hd]; exact rtoken_num s i hs hi hd w
 ·rw [if_neg (by rw [hd]; decide)]
  rcases Bool.eq_false_or_eq_true (Lex.word s.data.toList[i]) with hw | hw
  ·rw [if_pos hw]; exact rtoken_name s i hs hi (by unfold Lex.letter; rw [hw, hd]; rfl) w
  ·rw [if_neg (by rw [hw]; decide)]; exact rtoken_sign s i hs hi hw w
theorem rblank (c : UInt8) (n : Int) (hn : n = (c.toNat : Int)) : Lex.blank c = ((n == 32) || (n == 9) || (n == 10) || (n == 13)) := by
 unfold Lex.blank
 have e : ∀ k : Nat, (c.toNat == k) = (n == (k : Int)) := by
  intro k; rw [Bool.eq_iff_iff, beq_iff_eq, beq_iff_eq]; omega
 rw [e, e, e, e]; rfl
theorem stored6 {w W : World} {b : Nat} {v0 v1 v2 v3 v4 v5 : Value} {r : Option Nat} (h : w.grownBy W r) (hb : w.heap.size ≤ b) :
  w.grownBy ((((((W.setCell ⟨b, 0, none⟩ v0).setCell ⟨b, 1, none⟩ v1).setCell ⟨b, 2, none⟩ v2).setCell ⟨b, 3, none⟩ v3).setCell ⟨b, 4, none⟩ v4).setCell ⟨b, 5, none⟩ v5) r :=
 gset (gset (gset (gset (gset (gset h (.inl hb) _) (.inl hb) _) (.inl hb) _) (.inl hb) _) (.inl hb) _) (.inl hb) _
theorem stored6_tkb {W : World} {b : Nat} {v0 v1 v2 v3 v4 v5 : Value} (h : Six W b) :
  Tkb ((((((W.setCell ⟨b, 0, none⟩ v0).setCell ⟨b, 1, none⟩ v1).setCell ⟨b, 2, none⟩ v2).setCell ⟨b, 3, none⟩ v3).setCell ⟨b, 4, none⟩ v4).setCell ⟨b, 5, none⟩ v5) b v0 v1 v2 v3 v4 v5 := by
 obtain ⟨x0, x1, x2, x3, x4, x5, h⟩ := h
 unfold Tkb
 simp only [World.setCell, Array.getElem?_modify, if_true, h, Option.map_some]
 rfl
set_option maxRecDepth 100000 in
theorem rtokens_some (s : ByteArray) (hs : s.size ≤ 65536) (w : World) :
  Calls Tryz.prog 36 #[.string s] w fun e w' => tkPost w (Lex.tail s.data.toList 0 20000) e w' ∧ w.grownBy w' none := by
 obtain ⟨it, hit, hz, hsz, hby⟩ := infoP infoT
 have hsl : s.data.toList.length = s.size := by simp
 have hd0 : decide ((65536 : Int) < (s.size : Int)) = false := by rw [decide_eq_false_iff_not]; omega
 go_enter Tryz.func36, Tryz.ntmps36
 go_wp2
 go_loopw [5, 6] (fun v a wr => ∃ (acc : List Lex.Tk) (i : Nat), i ≤ s.size ∧ a = .int .i64 (i : Int) ∧ acc.length ≤ 20000 ∧ wr.ownsRow w.heap.size 108 6 v acc.length (Lex.row acc) ∧ w.grownBy wr none ∧ Hid (Lex.preL acc (Lex.tail s.data.toList i (20000 - acc.length)) = Lex.tail s.data.toList 0 20000)) (fun _ a _ => s.size - (intOf a).toNat)
 case atStart => exact ⟨[], 0, Nat.zero_le _, rfl, Nat.zero_le _, World.ownsRow_nil _ _ _ _, World.grownBy.refl _ _, rfl⟩
 case round =>
  obtain ⟨acc, i, hi, rfl, hacc, hown, hG, HT⟩ := hrel
  have hlf := fun ty wx => len_own hown ty wx
  go_wp2
  go_loop [6] (fun a => ∃ p : Nat, i ≤ p ∧ p ≤ s.size ∧ a = .int .i64 (p : Int) ∧ Hid (p + Lex.skp false (s.data.toList.drop p) = i + Lex.skp false (s.data.toList.drop i))) (fun a => s.size - (intOf a).toNat)
  case atStart => exact ⟨i, Nat.le_refl _, hi, rfl, ld rfl⟩
  case round =>
   obtain ⟨p, hip, hp, rfl, H2⟩ := hrel
   by_cases hlt : p < s.size
   ·have hx := fun wx => idx_str s p hlt (p : Int) rfl wx
    obtain ⟨n, hn⟩ : ∃ n : Int, n = (Lex.pk s.data.toList p : Int) := ⟨_, rfl⟩
    simp only [← hn] at hx
    have hbl := rblank (s.data.toList[p]'(by omega)) n (by rw [hn, Lex.pk_eq (by omega)])
    have HN := ld hn
    have HBL := ld hbl
    clear hn hbl
    rcases Bool.eq_false_or_eq_true ((n == 32) || (n == 9) || (n == 10) || (n == 13)) with hb | hb
    ·have HNX : Hid (p + 1 + Lex.skp false (s.data.toList.drop (p + 1)) = i + Lex.skp false (s.data.toList.drop i)) := by
      have e1 := H2.out
      have e2 := Lex.skp_blank (l := s.data.toList) (j := p) (by omega) (HBL.out.trans hb)
      exact ld (by omega)
     clear H2 HBL HN
     rcases Bool.eq_false_or_eq_true (n == 32) with q1 | q1
     ·clear hb
      go_wp2
      go_round
      case rel => exact ⟨p + 1, by omega, by omega, by go_num, HNX⟩
      case measure => simp [intOf]; omega
     ·rcases Bool.eq_false_or_eq_true (n == 9) with q2 | q2
      ·clear hb
       go_wp2
       go_round
       case rel => exact ⟨p + 1, by omega, by omega, by go_num, HNX⟩
       case measure => simp [intOf]; omega
      ·rcases Bool.eq_false_or_eq_true (n == 10) with q3 | q3
       ·clear hb
        go_wp2
        go_round
        case rel => exact ⟨p + 1, by omega, by omega, by go_num, HNX⟩
        case measure => simp [intOf]; omega
       ·have q4 : (n == 13) = true := by rw [q1, q2, q3] at hb; simpa using hb
        clear hb
        go_wp2
        go_round
        case rel => exact ⟨p + 1, by omega, by omega, by go_num, HNX⟩
        case measure => simp [intOf]; omega
    ·have hbb := HBL.out.trans hb
     simp only [Bool.or_eq_false_iff] at hb
     obtain ⟨⟨⟨q1, q2⟩, q3⟩, q4⟩ := hb
     have HBB := ld hbb
     clear hbb HBL
     by_cases hcm : Lex.pk s.data.toList p = 45 ∧ Lex.pk s.data.toList (p + 1) = 45
     ·have hlt2 : p + 1 < s.size := by
       rcases Nat.lt_or_ge (p + 1) s.size with h | h
       ·exact h
       ·have := Lex.pk_ge (l := s.data.toList) (j := p + 1) (by omega)
        omega
      have hlt3 : (p : Int) + 1 < (s.size : Int) := by omega
      have q5 : (n == 45) = true := by rw [beq_iff_eq, HN.out, hcm.1]; rfl
      have hx1 : ∀ wx, (Instr.index 9 (.string s) (.int .i64 ((p : Int) + 1))).run Tryz.prog wx = .ok (.int .u8 45) wx := by
       intro wx
       rw [idx_str s (p + 1) hlt2 ((p : Int) + 1) (by omega) wx, hcm.2]
       rfl
      obtain ⟨Q, hQ⟩ : ∃ Q, Q = p + Lex.spn Lex.inLine (s.data.toList.drop p) := ⟨_, rfl⟩
      have hQp : p < Q := by
       have := Lex.spn_inLine_pos (l := s.data.toList) (j := p) (by omega) hcm.1
       omega
      have HNX : Hid (Q + Lex.skp false (s.data.toList.drop Q) = i + Lex.skp false (s.data.toList.drop i)) := by
       have e1 := H2.out
       have e2 := Lex.skp_comment (l := s.data.toList) (j := p) (by omega) HBB.out hcm.1 hcm.2
       rw [← hQ] at e2
       exact ld (by omega)
      have HQ := ld hQ
      clear H2 HBB HN hcm hQ hlt2
      go_wp2
      go_loop [6] (fun a => ∃ q : Nat, p ≤ q ∧ q ≤ s.size ∧ a = .int .i64 (q : Int) ∧ Hid (q + Lex.spn Lex.inLine (s.data.toList.drop q) = Q)) (fun a => s.size - (intOf a).toNat)
      case atStart => exact ⟨p, Nat.le_refl _, hp, rfl, ld HQ.out.symm⟩
      case round =>
       obtain ⟨q, hpq, hq, rfl, H3⟩ := hrel
       by_cases hltq : q < s.size
       ·have hxq := fun wx => idx_str s q hltq (q : Int) rfl wx
        obtain ⟨m, hm⟩ : ∃ m : Int, m = (Lex.pk s.data.toList q : Int) := ⟨_, rfl⟩
        simp only [← hm] at hxq
        have hin : Lex.inLine (s.data.toList[q]'(by omega)) = !(m == 10) := by
         have := Lex.pk_eq (l := s.data.toList) (j := q) (by omega)
         have e : ((s.data.toList[q]'(by omega)).toNat == 10) = (m == 10) := by
          rw [Bool.eq_iff_iff, beq_iff_eq, beq_iff_eq]; omega
         unfold Lex.inLine
         rw [bne, e]
        have HIN := ld hin
        clear hin hm
        rcases Bool.eq_false_or_eq_true (m == 10) with r1 | r1
        ·have e1 := H3.out
         have e2 := Lex.spn_stop (p := Lex.inLine) (l := s.data.toList) (j := q) (by omega) (by rw [HIN.out, r1]; rfl)
         have HQQ : Hid (q = Q) := ld (by omega)
         clear e1 e2 H3 HIN
         go_wp2
         go_round
         case rel => exact ⟨q, by omega, by omega, rfl, by rw [HQQ.out]; exact HNX⟩
         case measure => simp [intOf]; have := HQQ.out; omega
        ·have e1 := H3.out
         have e2 := Lex.spn_step (p := Lex.inLine) (l := s.data.toList) (j := q) (by omega) (by rw [HIN.out, r1]; rfl)
         have HNQ : Hid (q + 1 + Lex.spn Lex.inLine (s.data.toList.drop (q + 1)) = Q) := ld (by omega)
         clear e1 e2 H3 HIN
         go_wp2
         go_round
         case rel => exact ⟨q + 1, by omega, by omega, by go_num, HNQ⟩
         case measure => simp [intOf]; omega
       ·have e1 := H3.out
        have e2 := Lex.spn_end Lex.inLine (l := s.data.toList) (j := q) (by omega)
        have HQQ : Hid (q = Q) := ld (by omega)
        clear e1 e2 H3
        go_wp2
        go_round
        case rel => exact ⟨q, by omega, by omega, rfl, by rw [HQQ.out]; exact HNX⟩
        case measure => simp [intOf]; have := HQQ.out; omega
     ·have HP : Hid (p = i + Lex.skp false (s.data.toList.drop i)) := by
       have e1 := H2.out
       have e2 := Lex.skp_stop (l := s.data.toList) (j := p) (by omega) HBB.out hcm
       exact ld (by omega)
      have hT := fun wx => rtoken_any s p hs hlt wx
      clear H2 HBB
      rcases Bool.eq_false_or_eq_true (n == 45) with q5 | q5
      ·have hc2 : ¬ Lex.pk s.data.toList (p + 1) = 45 := fun h => hcm ⟨by have := HN.out; rw [beq_iff_eq] at q5; omega, h⟩
       by_cases hl2 : p + 1 < s.size
       ·have hl3 : (p : Int) + 1 < (s.size : Int) := by omega
        have hx1 : ∀ wx, (Instr.index 9 (.string s) (.int .i64 ((p : Int) + 1))).run Tryz.prog wx = .ok (.int .u8 (Lex.pk s.data.toList (p + 1) : Int)) wx := fun wx => idx_str s (p + 1) hl2 ((p : Int) + 1) (by omega) wx
        obtain ⟨m2, hm2⟩ : ∃ m2 : Int, m2 = (Lex.pk s.data.toList (p + 1) : Int) := ⟨_, rfl⟩
        simp only [← hm2] at hx1
        have q6 : (m2 == 45) = false := by rw [beq_eq_false_iff_ne]; omega
        clear hm2 hc2 hcm HN
        cases htk : Lex.tokAt (s.data.toList.drop p) with
        | bad er =>
         have HE : Hid (Lex.tail s.data.toList 0 20000 = .err p er) := by
          show _ = _
          rw [← HT.out, Lex.tail_bad (by rw [← HP.out]; exact htk), Lex.preL_err, ← HP.out]
         have hne := tokAt_bad htk
         have hne0 : (er == 0) = false := by rw [beq_eq_false_iff_ne]; exact bne_iff_ne.1 hne
         rw [htk] at hT
         have hT2 : ∀ wx, Calls Tryz.prog 61 #[.string s, .int .i64 (p : Int)] wx fun e w' => e = .returned (.tuple #[.agg #[.int .i64 0, .string ⟨#[]⟩, .int .i64 0, .int .i64 0, .int .i64 0, .int .i64 0], .int .i64 er]) ∧ wx.grownBy w' none := hT
         clear htk HT hT
         go_wp2_with (go_at_call 61; refine (hT2 _).mono ?_; rintro e w1 ⟨rfl, hg1⟩)
         go_ret3
         refine ⟨?_, galloc ((galloc hG _).trans hg1) _⟩
         rw [HE.out]
         exact ⟨rfl, bne_iff_ne.1 hne⟩
        | tok kd nn t len =>
         have hcase := (Lex.tokAt_tok htk).resolve_left (fun hh => by have := congrArg List.length hh.1; rw [List.length_drop, List.length_nil] at this; omega)
         have HK : Hid (Lex.tokAt (s.data.toList.drop (i + Lex.skp false (s.data.toList.drop i))) = .tok kd nn t len) := ld (by rw [← HP.out]; exact htk)
         have hle : p + len ≤ s.size := by
          have := Lex.tokAt_len htk
          rw [List.length_drop] at this
          omega
         obtain ⟨x, hx9⟩ : ∃ x, x = s.extract p (p + len) := ⟨_, rfl⟩
         have hxs : x.size = len := by
          have e1 : x.data.toList.length = x.size := Array.length_toList
          rw [← e1, hx9, ext_list, List.length_take, List.length_drop]
          omega
         rw [htk] at hT
         have hT2 : ∀ wx, Calls Tryz.prog 61 #[.string s, .int .i64 (p : Int)] wx fun e w' => e = .returned (.tuple #[.agg #[.int .i64 kd, .string x, .int .i64 nn, .int .i64 t, .int .i64 0, .int .i64 (p : Int)], .int .i64 0]) ∧ wx.grownBy w' none :=
          fun wx => (hT wx).mono fun e w' hh => ⟨by rw [hx9]; exact hh.1.1, hh.2⟩
         obtain ⟨tk, htk2⟩ : ∃ tk : Lex.Tk, tk = ⟨kd, (s.data.toList.drop p).take len, nn, t, p⟩ := ⟨_, rfl⟩
         have HX : Hid (Lex.cells tk = [.int .i64 kd, .string x, .int .i64 nn, .int .i64 t, .int .i64 0, .int .i64 (p : Int)]) := by
          show _ = _
          rw [htk2, hx9, ext_mk]; rfl
         have HTK := ld htk2
         have HXS := ld hxs
         clear htk htk2 hx9 hxs hT
         by_cases hf : acc.length = 20000
         ·have hf2 : 20000 ≤ acc.length := by omega
          have HE : Hid (Lex.tail s.data.toList 0 20000 = .err p 2) := by
           show _ = _
           rw [← HT.out, hf, Lex.tail_full HK.out, Lex.preL_err, ← HP.out]
          clear HT hf
          go_wp2_with (go_at_call 61; refine (hT2 _).mono ?_; rintro e w1 ⟨rfl, hg1⟩; refine Hid.out ?_)
          have h6 : Six w1 wr.heap.size := ((Tkb.new wr _ _ _ _ _ _).kept hg1 (by simp)).six
          obtain ⟨⟨x0, c0⟩, ⟨x1, c1⟩, ⟨x2, c2⟩, ⟨x3, c3⟩, ⟨x4, c4⟩, ⟨x5, c5⟩⟩ := h6.c
          have f0 := h6.f 0
          have f1 := h6.f 1
          have f2 := h6.f 2
          have f3 := h6.f 3
          have f4 := h6.f 4
          have f5 := h6.f 5
          have hlt7 : wr.heap.size < w1.heap.size := by have := hg1.size; rw [World.size_alloc] at this; omega
          refine ld ?_
          go_wp2
          go_ret3
          refine ⟨?_, ?_⟩
          ·rw [HE.out]
           exact ⟨rfl, by decide⟩
          ·go_light
           exact galloc (stored6 ((galloc hG _).trans hg1) hG.size) _
         ·have hf2 : ¬ 20000 ≤ acc.length := by omega
          have HE : Hid (Lex.preL (acc ++ [tk]) (Lex.tail s.data.toList (p + len) (20000 - (acc ++ [tk]).length)) = Lex.tail s.data.toList 0 20000) := by
           show _ = _
           rw [← HT.out, Lex.tail_tok HK.out (by omega) hcase.2.1, Lex.preL_snoc, HTK.out, ← HP.out]
           simp only [List.length_append, List.length_cons, List.length_nil, Nat.zero_add, Nat.sub_sub]
          have h52 : (kd == 5) = false := by rw [beq_eq_false_iff_ne]; exact hcase.2.1
          have hpos : 0 < len := hcase.2.2
          have hxle : p + x.size ≤ s.size := by rw [HXS.out]; exact hle
          clear HT HK hcase hf
          go_wp2_with (go_at_call 61; refine (hT2 _).mono ?_; rintro e w1 ⟨rfl, hg1⟩; refine Hid.out ?_)
          obtain ⟨W6, hW6⟩ : ∃ W6, W6 = (((((w1.setCell ⟨wr.heap.size, 0, none⟩ (.int .i64 kd)).setCell ⟨wr.heap.size, 1, none⟩ (.string x)).setCell ⟨wr.heap.size, 2, none⟩ (.int .i64 nn)).setCell ⟨wr.heap.size, 3, none⟩ (.int .i64 t)).setCell ⟨wr.heap.size, 4, none⟩ (.int .i64 0)).setCell ⟨wr.heap.size, 5, none⟩ (.int .i64 (p : Int)) := ⟨_, rfl⟩
          have hg6 : wr.grownBy W6 none := by rw [hW6]; exact stored6 ((ga wr _ none).trans hg1) (Nat.le_refl _)
          have hT6 : Tkb W6 wr.heap.size (.int .i64 kd) (.string x) (.int .i64 nn) (.int .i64 t) (.int .i64 0) (.int .i64 (p : Int)) := by rw [hW6]; exact stored6_tkb ((Tkb.new wr _ _ _ _ _ _).kept hg1 (by simp)).six
          have hs6 : w1.heap.size = W6.heap.size := by rw [hW6]; simp
          have HW6 := ld hW6
          have HG6 := ld hg6
          have HT6 := ld hT6
          have HS6 := ld hs6
          clear hW6 hg6 hT6 hs6
          have h6 : Six w1 wr.heap.size := ((Tkb.new wr _ _ _ _ _ _).kept hg1 (by simp)).six
          obtain ⟨⟨x0, c0⟩, ⟨x1, c1⟩, ⟨x2, c2⟩, ⟨x3, c3⟩, ⟨x4, c4⟩, ⟨x5, c5⟩⟩ := h6.c
          have f0 := h6.f 0
          have f1 := h6.f 1
          have f2 := h6.f 2
          have f3 := h6.f 3
          have f4 := h6.f 4
          have f5 := h6.f 5
          have hlt7 : wr.heap.size < w1.heap.size := by have := hg1.size; rw [World.size_alloc] at this; omega
          refine ld ?_
          go_wp2_with (at_builtin; refine Hid.out ?_)
          rw [← HW6.out]
          have hown6 := hown.kept HG6.out (by cases u5.ownBlock <;> simp)
          have hsz6 := HG6.out.size
          have hszw := hG.size
          have hw16 := HS6.out
          refine ld ?_
          refine wpList_append_own _ rfl _ _ 76 rfl w.heap.size 108 it _ 6 56 Tryz.underlying76 hit hz hsz hby rfl (by decide) _ acc.length (Lex.row acc) rfl ((hown6.alloc _).alloc _) ⟨w1.heap.size + 1, 0, none⟩ 1 1 [.int .i64 kd, .string x, .int .i64 nn, .int .i64 t, .int .i64 0, .int .i64 (p : Int)] rfl rfl ?_ (six_one _ _ _ _ _ _) ?_ ?_ ?_ ?_
          ·rw [HS6.out]; exact cell_six_new2 _ _ _ _ _ _ _ _ _
          ·unfold maxLen; omega
          ·omega
          ·simp only [World.size_alloc]; omega
          intro v' w3 hown' hgrow3 _
          have hT3 : Tkb w3 wr.heap.size (.int .i64 kd) (.string x) (.int .i64 nn) (.int .i64 t) (.int .i64 0) (.int .i64 (p : Int)) :=
           ((HT6.out.kept (ga _ _ none) (by simp)).kept (ga _ _ none) (by simp)).kept hgrow3 (fun e => by have := hown.lt _ e.symm; omega)
          have t0 := hT3.c.1
          have t1 := hT3.c.2.1
          have hg3 : w.grownBy w3 none := (galloc (galloc (hG.trans HG6.out) _) _).andThen hgrow3 (fun j e => .inl (hown.lt j e).1)
          have hrow : Lex.row acc ++ [.int .i64 kd, .string x, .int .i64 nn, .int .i64 t, .int .i64 0, .int .i64 (p : Int)] = Lex.row (acc ++ [tk]) := by rw [Lex.row_snoc, HX.out]
          have hlen2 : (acc ++ [tk]).length = acc.length + 1 := by simp
          rw [hrow, ← hlen2] at hown'
          have HO := ld hown'
          clear hown' hrow hT3 c0 c1 c2 c3 c4 c5 f0 f1 f2 f3 f4 f5 hw16 hown6
          go_wp2
          go_light
          refine ⟨⟨acc ++ [tk], p + len, hle, by rw [← HXS.out]; go_num, by omega, HO.out, hg3, HE⟩, ?_⟩
          have e9 := HXS.out
          simp only [intOf]
          omega
       ·have hl3 : ¬ (p : Int) + 1 < (s.size : Int) := by omega
        clear hc2 hcm HN
        cases htk : Lex.tokAt (s.data.toList.drop p) with
        | bad er =>
         have HE : Hid (Lex.tail s.data.toList 0 20000 = .err p er) := by
          show _ = _
          rw [← HT.out, Lex.tail_bad (by rw [← HP.out]; exact htk), Lex.preL_err, ← HP.out]
         have hne := tokAt_bad htk
         have hne0 : (er == 0) = false := by rw [beq_eq_false_iff_ne]; exact bne_iff_ne.1 hne
         rw [htk] at hT
         have hT2 : ∀ wx, Calls Tryz.prog 61 #[.string s, .int .i64 (p : Int)] wx fun e w' => e = .returned (.tuple #[.agg #[.int .i64 0, .string ⟨#[]⟩, .int .i64 0, .int .i64 0, .int .i64 0, .int .i64 0], .int .i64 er]) ∧ wx.grownBy w' none := hT
         clear htk HT hT
         go_wp2_with (go_at_call 61; refine (hT2 _).mono ?_; rintro e w1 ⟨rfl, hg1⟩)
         go_ret3
         refine ⟨?_, galloc ((galloc hG _).trans hg1) _⟩
         rw [HE.out]
         exact ⟨rfl, bne_iff_ne.1 hne⟩
        | tok kd nn t len =>
         have hcase := (Lex.tokAt_tok htk).resolve_left (fun hh => by have := congrArg List.length hh.1; rw [List.length_drop, List.length_nil] at this; omega)
         have HK : Hid (Lex.tokAt (s.data.toList.drop (i + Lex.skp false (s.data.toList.drop i))) = .tok kd nn t len) := ld (by rw [← HP.out]; exact htk)
         have hle : p + len ≤ s.size := by
          have := Lex.tokAt_len htk
          rw [List.length_drop] at this
          omega
         obtain ⟨x, hx9⟩ : ∃ x, x = s.extract p (p + len) := ⟨_, rfl⟩
         have hxs : x.size = len := by
          have e1 : x.data.toList.length = x.size := Array.length_toList
          rw [← e1, hx9, ext_list, List.length_take, List.length_drop]
          omega
         rw [htk] at hT
         have hT2 : ∀ wx, Calls Tryz.prog 61 #[.string s, .int .i64 (p : Int)] wx fun e w' => e = .returned (.tuple #[.agg #[.int .i64 kd, .string x, .int .i64 nn, .int .i64 t, .int .i64 0, .int .i64 (p : Int)], .int .i64 0]) ∧ wx.grownBy w' none :=
          fun wx => (hT wx).mono fun e w' hh => ⟨by rw [hx9]; exact hh.1.1, hh.2⟩
         obtain ⟨tk, htk2⟩ : ∃ tk : Lex.Tk, tk = ⟨kd, (s.data.toList.drop p).take len, nn, t, p⟩ := ⟨_, rfl⟩
         have HX : Hid (Lex.cells tk = [.int .i64 kd, .string x, .int .i64 nn, .int .i64 t, .int .i64 0, .int .i64 (p : Int)]) := by
          show _ = _
          rw [htk2, hx9, ext_mk]; rfl
         have HTK := ld htk2
         have HXS := ld hxs
         clear htk htk2 hx9 hxs hT
         by_cases hf : acc.length = 20000
         ·have hf2 : 20000 ≤ acc.length := by omega
          have HE : Hid (Lex.tail s.data.toList 0 20000 = .err p 2) := by
           show _ = _
           rw [← HT.out, hf, Lex.tail_full HK.out, Lex.preL_err, ← HP.out]
          clear HT hf
          go_wp2_with (go_at_call 61; refine (hT2 _).mono ?_; rintro e w1 ⟨rfl, hg1⟩; refine Hid.out ?_)
          have h6 : Six w1 wr.heap.size := ((Tkb.new wr _ _ _ _ _ _).kept hg1 (by simp)).six
          obtain ⟨⟨x0, c0⟩, ⟨x1, c1⟩, ⟨x2, c2⟩, ⟨x3, c3⟩, ⟨x4, c4⟩, ⟨x5, c5⟩⟩ := h6.c
          have f0 := h6.f 0
          have f1 := h6.f 1
          have f2 := h6.f 2
          have f3 := h6.f 3
          have f4 := h6.f 4
          have f5 := h6.f 5
          have hlt7 : wr.heap.size < w1.heap.size := by have := hg1.size; rw [World.size_alloc] at this; omega
          refine ld ?_
          go_wp2
          go_ret3
          refine ⟨?_, ?_⟩
          ·rw [HE.out]
           exact ⟨rfl, by decide⟩
          ·go_light
           exact galloc (stored6 ((galloc hG _).trans hg1) hG.size) _
         ·have hf2 : ¬ 20000 ≤ acc.length := by omega
          have HE : Hid (Lex.preL (acc ++ [tk]) (Lex.tail s.data.toList (p + len) (20000 - (acc ++ [tk]).length)) = Lex.tail s.data.toList 0 20000) := by
           show _ = _
           rw [← HT.out, Lex.tail_tok HK.out (by omega) hcase.2.1, Lex.preL_snoc, HTK.out, ← HP.out]
           simp only [List.length_append, List.length_cons, List.length_nil, Nat.zero_add, Nat.sub_sub]
          have h52 : (kd == 5) = false := by rw [beq_eq_false_iff_ne]; exact hcase.2.1
          have hpos : 0 < len := hcase.2.2
          have hxle : p + x.size ≤ s.size := by rw [HXS.out]; exact hle
          clear HT HK hcase hf
          go_wp2_with (go_at_call 61; refine (hT2 _).mono ?_; rintro e w1 ⟨rfl, hg1⟩; refine Hid.out ?_)
          obtain ⟨W6, hW6⟩ : ∃ W6, W6 = (((((w1.setCell ⟨wr.heap.size, 0, none⟩ (.int .i64 kd)).setCell ⟨wr.heap.size, 1, none⟩ (.string x)).setCell ⟨wr.heap.size, 2, none⟩ (.int .i64 nn)).setCell ⟨wr.heap.size, 3, none⟩ (.int .i64 t)).setCell ⟨wr.heap.size, 4, none⟩ (.int .i64 0)).setCell ⟨wr.heap.size, 5, none⟩ (.int .i64 (p : Int)) := ⟨_, rfl⟩
          have hg6 : wr.grownBy W6 none := by rw [hW6]; exact stored6 ((ga wr _ none).trans hg1) (Nat.le_refl _)
          have hT6 : Tkb W6 wr.heap.size (.int .i64 kd) (.string x) (.int .i64 nn) (.int .i64 t) (.int .i64 0) (.int .i64 (p : Int)) := by rw [hW6]; exact stored6_tkb ((Tkb.new wr _ _ _ _ _ _).kept hg1 (by simp)).six
          have hs6 : w1.heap.size = W6.heap.size := by rw [hW6]; simp
          have HW6 := ld hW6
          have HG6 := ld hg6
          have HT6 := ld hT6
          have HS6 := ld hs6
          clear hW6 hg6 hT6 hs6
          have h6 : Six w1 wr.heap.size := ((Tkb.new wr _ _ _ _ _ _).kept hg1 (by simp)).six
          obtain ⟨⟨x0, c0⟩, ⟨x1, c1⟩, ⟨x2, c2⟩, ⟨x3, c3⟩, ⟨x4, c4⟩, ⟨x5, c5⟩⟩ := h6.c
          have f0 := h6.f 0
          have f1 := h6.f 1
          have f2 := h6.f 2
          have f3 := h6.f 3
          have f4 := h6.f 4
          have f5 := h6.f 5
          have hlt7 : wr.heap.size < w1.heap.size := by have := hg1.size; rw [World.size_alloc] at this; omega
          refine ld ?_
          go_wp2_with (at_builtin; refine Hid.out ?_)
          rw [← HW6.out]
          have hown6 := hown.kept HG6.out (by cases u5.ownBlock <;> simp)
          have hsz6 := HG6.out.size
          have hszw := hG.size
          have hw16 := HS6.out
          refine ld ?_
          refine wpList_append_own _ rfl _ _ 76 rfl w.heap.size 108 it _ 6 56 Tryz.underlying76 hit hz hsz hby rfl (by decide) _ acc.length (Lex.row acc) rfl ((hown6.alloc _).alloc _) ⟨w1.heap.size + 1, 0, none⟩ 1 1 [.int .i64 kd, .string x, .int .i64 nn, .int .i64 t, .int .i64 0, .int .i64 (p : Int)] rfl rfl ?_ (six_one _ _ _ _ _ _) ?_ ?_ ?_ ?_
          ·rw [HS6.out]; exact cell_six_new2 _ _ _ _ _ _ _ _ _
          ·unfold maxLen; omega
          ·omega
          ·simp only [World.size_alloc]; omega
          intro v' w3 hown' hgrow3 _
          have hT3 : Tkb w3 wr.heap.size (.int .i64 kd) (.string x) (.int .i64 nn) (.int .i64 t) (.int .i64 0) (.int .i64 (p : Int)) :=
           ((HT6.out.kept (ga _ _ none) (by simp)).kept (ga _ _ none) (by simp)).kept hgrow3 (fun e => by have := hown.lt _ e.symm; omega)
          have t0 := hT3.c.1
          have t1 := hT3.c.2.1
          have hg3 : w.grownBy w3 none := (galloc (galloc (hG.trans HG6.out) _) _).andThen hgrow3 (fun j e => .inl (hown.lt j e).1)
          have hrow : Lex.row acc ++ [.int .i64 kd, .string x, .int .i64 nn, .int .i64 t, .int .i64 0, .int .i64 (p : Int)] = Lex.row (acc ++ [tk]) := by rw [Lex.row_snoc, HX.out]
          have hlen2 : (acc ++ [tk]).length = acc.length + 1 := by simp
          rw [hrow, ← hlen2] at hown'
          have HO := ld hown'
          clear hown' hrow hT3 c0 c1 c2 c3 c4 c5 f0 f1 f2 f3 f4 f5 hw16 hown6
          go_wp2
          go_light
          refine ⟨⟨acc ++ [tk], p + len, hle, by rw [← HXS.out]; go_num, by omega, HO.out, hg3, HE⟩, ?_⟩
          have e9 := HXS.out
          simp only [intOf]
          omega
      ·clear hcm HN
       cases htk : Lex.tokAt (s.data.toList.drop p) with
       | bad er =>
        have HE : Hid (Lex.tail s.data.toList 0 20000 = .err p er) := by
         show _ = _
         rw [← HT.out, Lex.tail_bad (by rw [← HP.out]; exact htk), Lex.preL_err, ← HP.out]
        have hne := tokAt_bad htk
        have hne0 : (er == 0) = false := by rw [beq_eq_false_iff_ne]; exact bne_iff_ne.1 hne
        rw [htk] at hT
        have hT2 : ∀ wx, Calls Tryz.prog 61 #[.string s, .int .i64 (p : Int)] wx fun e w' => e = .returned (.tuple #[.agg #[.int .i64 0, .string ⟨#[]⟩, .int .i64 0, .int .i64 0, .int .i64 0, .int .i64 0], .int .i64 er]) ∧ wx.grownBy w' none := hT
        clear htk HT hT
        go_wp2_with (go_at_call 61; refine (hT2 _).mono ?_; rintro e w1 ⟨rfl, hg1⟩)
        go_ret3
        refine ⟨?_, galloc ((galloc hG _).trans hg1) _⟩
        rw [HE.out]
        exact ⟨rfl, bne_iff_ne.1 hne⟩
       | tok kd nn t len =>
        have hcase := (Lex.tokAt_tok htk).resolve_left (fun hh => by have := congrArg List.length hh.1; rw [List.length_drop, List.length_nil] at this; omega)
        have HK : Hid (Lex.tokAt (s.data.toList.drop (i + Lex.skp false (s.data.toList.drop i))) = .tok kd nn t len) := ld (by rw [← HP.out]; exact htk)
        have hle : p + len ≤ s.size := by
         have := Lex.tokAt_len htk
         rw [List.length_drop] at this
         omega
        obtain ⟨x, hx9⟩ : ∃ x, x = s.extract p (p + len) := ⟨_, rfl⟩
        have hxs : x.size = len := by
         have e1 : x.data.toList.length = x.size := Array.length_toList
         rw [← e1, hx9, ext_list, List.length_take, List.length_drop]
         omega
        rw [htk] at hT
        have hT2 : ∀ wx, Calls Tryz.prog 61 #[.string s, .int .i64 (p : Int)] wx fun e w' => e = .returned (.tuple #[.agg #[.int .i64 kd, .string x, .int .i64 nn, .int .i64 t, .int .i64 0, .int .i64 (p : Int)], .int .i64 0]) ∧ wx.grownBy w' none :=
         fun wx => (hT wx).mono fun e w' hh => ⟨by rw [hx9]; exact hh.1.1, hh.2⟩
        obtain ⟨tk, htk2⟩ : ∃ tk : Lex.Tk, tk = ⟨kd, (s.data.toList.drop p).take len, nn, t, p⟩ := ⟨_, rfl⟩
        have HX : Hid (Lex.cells tk = [.int .i64 kd, .string x, .int .i64 nn, .int .i64 t, .int .i64 0, .int .i64 (p : Int)]) := by
         show _ = _
         rw [htk2, hx9, ext_mk]; rfl
        have HTK := ld htk2
        have HXS := ld hxs
        clear htk htk2 hx9 hxs hT
        by_cases hf : acc.length = 20000
        ·have hf2 : 20000 ≤ acc.length := by omega
         have HE : Hid (Lex.tail s.data.toList 0 20000 = .err p 2) := by
          show _ = _
          rw [← HT.out, hf, Lex.tail_full HK.out, Lex.preL_err, ← HP.out]
         clear HT hf
         go_wp2_with (go_at_call 61; refine (hT2 _).mono ?_; rintro e w1 ⟨rfl, hg1⟩; refine Hid.out ?_)
         have h6 : Six w1 wr.heap.size := ((Tkb.new wr _ _ _ _ _ _).kept hg1 (by simp)).six
         obtain ⟨⟨x0, c0⟩, ⟨x1, c1⟩, ⟨x2, c2⟩, ⟨x3, c3⟩, ⟨x4, c4⟩, ⟨x5, c5⟩⟩ := h6.c
         have f0 := h6.f 0
         have f1 := h6.f 1
         have f2 := h6.f 2
         have f3 := h6.f 3
         have f4 := h6.f 4
         have f5 := h6.f 5
         have hlt7 : wr.heap.size < w1.heap.size := by have := hg1.size; rw [World.size_alloc] at this; omega
         refine ld ?_
         go_wp2
         go_ret3
         refine ⟨?_, ?_⟩
         ·rw [HE.out]
          exact ⟨rfl, by decide⟩
         ·go_light
          exact galloc (stored6 ((galloc hG _).trans hg1) hG.size) _
        ·have hf2 : ¬ 20000 ≤ acc.length := by omega
         have HE : Hid (Lex.preL (acc ++ [tk]) (Lex.tail s.data.toList (p + len) (20000 - (acc ++ [tk]).length)) = Lex.tail s.data.toList 0 20000) := by
          show _ = _
          rw [← HT.out, Lex.tail_tok HK.out (by omega) hcase.2.1, Lex.preL_snoc, HTK.out, ← HP.out]
          simp only [List.length_append, List.length_cons, List.length_nil, Nat.zero_add, Nat.sub_sub]
         have h52 : (kd == 5) = false := by rw [beq_eq_false_iff_ne]; exact hcase.2.1
         have hpos : 0 < len := hcase.2.2
         have hxle : p + x.size ≤ s.size := by rw [HXS.out]; exact hle
         clear HT HK hcase hf
         go_wp2_with (go_at_call 61; refine (hT2 _).mono ?_; rintro e w1 ⟨rfl, hg1⟩; refine Hid.out ?_)
         obtain ⟨W6, hW6⟩ : ∃ W6, W6 = (((((w1.setCell ⟨wr.heap.size, 0, none⟩ (.int .i64 kd)).setCell ⟨wr.heap.size, 1, none⟩ (.string x)).setCell ⟨wr.heap.size, 2, none⟩ (.int .i64 nn)).setCell ⟨wr.heap.size, 3, none⟩ (.int .i64 t)).setCell ⟨wr.heap.size, 4, none⟩ (.int .i64 0)).setCell ⟨wr.heap.size, 5, none⟩ (.int .i64 (p : Int)) := ⟨_, rfl⟩
         have hg6 : wr.grownBy W6 none := by rw [hW6]; exact stored6 ((ga wr _ none).trans hg1) (Nat.le_refl _)
         have hT6 : Tkb W6 wr.heap.size (.int .i64 kd) (.string x) (.int .i64 nn) (.int .i64 t) (.int .i64 0) (.int .i64 (p : Int)) := by rw [hW6]; exact stored6_tkb ((Tkb.new wr _ _ _ _ _ _).kept hg1 (by simp)).six
         have hs6 : w1.heap.size = W6.heap.size := by rw [hW6]; simp
         have HW6 := ld hW6
         have HG6 := ld hg6
         have HT6 := ld hT6
         have HS6 := ld hs6
         clear hW6 hg6 hT6 hs6
         have h6 : Six w1 wr.heap.size := ((Tkb.new wr _ _ _ _ _ _).kept hg1 (by simp)).six
         obtain ⟨⟨x0, c0⟩, ⟨x1, c1⟩, ⟨x2, c2⟩, ⟨x3, c3⟩, ⟨x4, c4⟩, ⟨x5, c5⟩⟩ := h6.c
         have f0 := h6.f 0
         have f1 := h6.f 1
         have f2 := h6.f 2
         have f3 := h6.f 3
         have f4 := h6.f 4
         have f5 := h6.f 5
         have hlt7 : wr.heap.size < w1.heap.size := by have := hg1.size; rw [World.size_alloc] at this; omega
         refine ld ?_
         go_wp2_with (at_builtin; refine Hid.out ?_)
         rw [← HW6.out]
         have hown6 := hown.kept HG6.out (by cases u5.ownBlock <;> simp)
         have hsz6 := HG6.out.size
         have hszw := hG.size
         have hw16 := HS6.out
         refine ld ?_
         refine wpList_append_own _ rfl _ _ 76 rfl w.heap.size 108 it _ 6 56 Tryz.underlying76 hit hz hsz hby rfl (by decide) _ acc.length (Lex.row acc) rfl ((hown6.alloc _).alloc _) ⟨w1.heap.size + 1, 0, none⟩ 1 1 [.int .i64 kd, .string x, .int .i64 nn, .int .i64 t, .int .i64 0, .int .i64 (p : Int)] rfl rfl ?_ (six_one _ _ _ _ _ _) ?_ ?_ ?_ ?_
         ·rw [HS6.out]; exact cell_six_new2 _ _ _ _ _ _ _ _ _
         ·unfold maxLen; omega
         ·omega
         ·simp only [World.size_alloc]; omega
         intro v' w3 hown' hgrow3 _
         have hT3 : Tkb w3 wr.heap.size (.int .i64 kd) (.string x) (.int .i64 nn) (.int .i64 t) (.int .i64 0) (.int .i64 (p : Int)) :=
          ((HT6.out.kept (ga _ _ none) (by simp)).kept (ga _ _ none) (by simp)).kept hgrow3 (fun e => by have := hown.lt _ e.symm; omega)
         have t0 := hT3.c.1
         have t1 := hT3.c.2.1
         have hg3 : w.grownBy w3 none := (galloc (galloc (hG.trans HG6.out) _) _).andThen hgrow3 (fun j e => .inl (hown.lt j e).1)
         have hrow : Lex.row acc ++ [.int .i64 kd, .string x, .int .i64 nn, .int .i64 t, .int .i64 0, .int .i64 (p : Int)] = Lex.row (acc ++ [tk]) := by rw [Lex.row_snoc, HX.out]
         have hlen2 : (acc ++ [tk]).length = acc.length + 1 := by simp
         rw [hrow, ← hlen2] at hown'
         have HO := ld hown'
         clear hown' hrow hT3 c0 c1 c2 c3 c4 c5 f0 f1 f2 f3 f4 f5 hw16 hown6
         go_wp2
         go_light
         refine ⟨⟨acc ++ [tk], p + len, hle, by rw [← HXS.out]; go_num, by omega, HO.out, hg3, HE⟩, ?_⟩
         have e9 := HXS.out
         simp only [intOf]
         omega
   ·have HP : Hid (p = i + Lex.skp false (s.data.toList.drop i)) := by
     have e1 := H2.out
     have e2 := Lex.skp_end (l := s.data.toList) (j := p) (by omega)
     exact ld (by omega)
    clear H2
    have hnil : s.data.toList.drop p = [] := List.drop_eq_nil_of_le (by omega)
    have htk : Lex.tokAt (s.data.toList.drop (i + Lex.skp false (s.data.toList.drop i))) = .tok 5 0 0 0 := by rw [← HP.out, hnil]; rfl
    by_cases hf : acc.length = 20000
    ·have hf2 : 20000 ≤ acc.length := by omega
     have HE : Hid (Lex.tail s.data.toList 0 20000 = .err p 2) := by
      show _ = _
      rw [← HT.out, hf, Lex.tail_full htk, Lex.preL_err, ← HP.out]
     clear HT hf htk hnil
     go_wp2
     go_ret3
     refine ⟨?_, galloc hG _⟩
     rw [HE.out]
     exact ⟨rfl, by decide⟩
    ·have hf2 : ¬ 20000 ≤ acc.length := by omega
     obtain ⟨tk, htk2⟩ : ∃ tk : Lex.Tk, tk = ⟨5, [], 0, 0, p⟩ := ⟨_, rfl⟩
     have HX : Hid (Lex.cells tk = [.int .i64 5, .string ⟨#[]⟩, .int .i64 0, .int .i64 0, .int .i64 0, .int .i64 (p : Int)]) := by
      show _ = _
      rw [htk2]; rfl
     have HE : Hid (Lex.tail s.data.toList 0 20000 = .ok (acc ++ [tk])) := by
      show _ = _
      rw [← HT.out, Lex.tail_end htk (by omega), Lex.preL_ok, htk2, ← HP.out]
     clear HT htk hnil htk2
     go_wp2_with (at_builtin; refine wpList_append_own _ rfl _ _ 76 rfl w.heap.size 108 it _ 6 56 Tryz.underlying76 hit hz hsz hby rfl (by decide) _ acc.length (Lex.row acc) rfl ((hown.alloc _).alloc _) ⟨wr.heap.size + 1, 0, none⟩ 1 1 [.int .i64 5, .string ⟨#[]⟩, .int .i64 0, .int .i64 0, .int .i64 0, .int .i64 (p : Int)] rfl rfl (cell_six_new2 _ _ _ _ _ _ _ _ _) (six_one _ _ _ _ _ _) ?_ ?_ ?_ ?_)
     ·unfold maxLen; omega
     ·omega
     ·have := hG.size; first | (simp only [World.size_alloc]; omega) | omega
     intro v' w3 hown' hgrow3 _
     have hT3 : Tkb w3 wr.heap.size (.int .i64 5) (.string ⟨#[]⟩) (.int .i64 0) (.int .i64 0) (.int .i64 0) (.int .i64 (p : Int)) :=
      ((Tkb.new wr _ _ _ _ _ _).kept (ga _ _ none) (by simp)).kept hgrow3 (fun e => by have := hown.lt _ e.symm; omega)
     have t0 := hT3.c.1
     have hg3 : w.grownBy w3 none := (galloc (galloc hG _) _).andThen hgrow3 (fun j e => .inl (hown.lt j e).1)
     have hrow : Lex.row acc ++ [.int .i64 5, .string ⟨#[]⟩, .int .i64 0, .int .i64 0, .int .i64 0, .int .i64 (p : Int)] = Lex.row (acc ++ [tk]) := by rw [Lex.row_snoc, HX.out]
     have hlen2 : (acc ++ [tk]).length = acc.length + 1 := by simp
     rw [hrow, ← hlen2] at hown'
     have HO := ld hown'
     clear hown' hrow hT3
     go_wp2
     go_ret3
     refine ⟨?_, hg3⟩
     rw [HE.out]
     exact ⟨_, rfl, HO.out⟩
theorem rtokens_any (s : ByteArray) (w : World) :
  Calls Tryz.prog 36 #[.string s] w fun e w' => ∃ v a er, e = .returned (.tuple #[v, .int .i64 a, .int .i64 er]) ∧ tkRel w.heap.size (Lex.tokens s.data.toList) v a er w' ∧ w.grownBy w' none := by
 have hsz : s.data.toList.length = s.size := by simp
 by_cases hs : 65536 < s.size
 ·have ht : Lex.tokens s.data.toList = .err 0 2 := by unfold Lex.tokens; rw [if_pos (by omega)]
  rw [ht]
  have hd : decide ((65536 : Int) < (s.size : Int)) = true := by rw [decide_eq_true_iff]; omega
  go_enter Tryz.func36, Tryz.ntmps36
  go_wp2
  go_ret3
  exact ⟨_, _, _, rfl, ⟨rfl, rfl, rfl, by decide⟩, World.grownBy.refl _ _⟩
 ·have ht : Lex.tokens s.data.toList = Lex.tail s.data.toList 0 20000 := by unfold Lex.tokens; rw [if_neg (by omega)]; rfl
  rw [ht]
  refine (rtokens_some s (by omega) w).mono fun e w' hh => ?_
  obtain ⟨v, a, er, he, hr⟩ := tkPost_form hh.1
  exact ⟨v, a, er, he, hr, hh.2⟩
end Go.Proofs.YtbbamgjdnibldaaGreat
namespace Go.Proofs.YtbbamgjdnibldaaGreat.Gram
open Go.RowKit
open Lex (Tk)
abbrev B := List UInt8
inductive Exp where
 | mk (form sub : Int) (name : B) (tk tl n m : Int) (kids : List Exp) (at_ : Int)
def Exp.at_ : Exp → Int | .mk _ _ _ _ _ _ _ _ a => a
def Exp.kids : Exp → List Exp | .mk _ _ _ _ _ _ _ k _ => k
structure Edge where
 name : B
 on : Bool
structure Var where
 name : B
 tk : Int
 tl : Int
 clock : List Edge
 at_ : Int
structure Trans where
 cond : Exp
 to : B
 cont : Bool
 at_ : Int
mutual
inductive Item where
 | mk (names : List B) (e : Exp) (states : List State) (at_ : Int)
inductive State where
 | mk (name : B) (unless_ until_ : List Trans) (locals : List Var) (items : List Item) (at_ : Int)
end
structure Node where
 name : B
 ins : List Var
 outs : List Var
 locals : List Var
 items : List Item
 at_ : Int
inductive PR (α : Type) where
 | ok (x : α) (i : Nat)
 | bad (a e : Int)
 | fuel
def PR.bind {α β : Type} (r : PR α) (f : α → Nat → PR β) : PR β :=
 match r with
 | .ok x i => f x i
 | .bad a e => .bad a e
 | .fuel => .fuel
def endTk : Tk := ⟨5, [], 0, 0, 0⟩
def tk (T : List Tk) (i : Nat) : Tk := T.getD i endTk
def sees (T : List Tk) (i : Nat) (s : B) : Bool := (tk T i).text == s
def isName (T : List Tk) (i : Nat) : Bool := (tk T i).kind == 1
def isNum (T : List Tk) (i : Nat) : Bool := (tk T i).kind == 2
def isVal (T : List Tk) (i : Nat) : Bool := isNum T i && ((tk T i).t != 0)
def fail {α : Type} (T : List Tk) (i : Nat) (e : Int) : PR α := .bad ((tk T i).at_ : Int) e
def need {α : Type} (T : List Tk) (i : Nat) (b : Bool) (r : PR α) : PR α := if b then r else fail T i 12
def room {α : Type} (T : List Tk) (i : Nat) (has most : Nat) (r : PR α) : PR α := if most ≤ has then fail T i 2 else r
def expect (T : List Tk) (i : Nat) (s : B) : PR Tk := need T i (sees T i s) (.ok (tk T i) (i + 1))
def name (T : List Tk) (i : Nat) : PR B := need T i (isName T i) (.ok (tk T i).text (i + 1))
def size (T : List Tk) (i : Nat) : PR Int := need T i (isNum T i && ((tk T i).t == 0)) (.ok (tk T i).n (i + 1))
def kind (T : List Tk) (i : Nat) : PR Int := need T i (Lex.kindOf (tk T i).text != 0) (.ok (Lex.kindOf (tk T i).text) (i + 1))
def expWords : List B :=
 [110, 111, 116] :: [45] :: [112, 114, 101] :: [40] :: [91] :: [116, 114, 117, 101] :: [102, 97, 108, 115, 101] :: [105, 102] :: [119, 104, 101, 110] :: [109, 101, 114, 103, 101] :: [99, 97, 115, 116] :: [116, 105, 99, 107] :: [114, 101, 115, 101, 116] :: [114, 101, 112] :: [109, 97, 112] :: [102, 111, 108, 100] :: []
def seesExp (T : List Tk) (i : Nat) : Bool := expWords.contains (tk T i).text || isName T i || isVal T i
def signs (lv : Nat) : List (B × Int × Int) :=
 match lv with
 | 0 => [([45, 62], 7, 0)]
 | 1 => [([102, 98, 121], 8, 0)]
 | 2 => [([61, 62], 4, 11)]
 | 3 => [([111, 114], 4, 9), ([120, 111, 114], 4, 10)]
 | 4 => [([97, 110, 100], 4, 8)]
 | 5 => [([61], 4, 14), ([60, 62], 4, 15), ([60], 4, 16), ([60, 61], 4, 17), ([62], 4, 18), ([62, 61], 4, 19)]
 | 6 => [([124], 4, 9), ([94], 4, 10)]
 | 7 => [([38], 4, 8)]
 | 8 => [([60, 60], 4, 12), ([62, 62], 4, 13)]
 | 9 => [([43], 4, 3), ([45], 4, 4)]
 | 10 => [([42], 4, 5), ([47], 4, 6), ([109, 111, 100], 4, 7)]
 | _ => []
def sign (T : List Tk) (i : Nat) (lv : Nat) : Option (B × Int × Int) := (signs lv).find? (fun s => (tk T i).text == s.1)
def join (s : B × Int × Int) (a b : Exp) : Exp := .mk s.2.1 s.2.2 [] 0 0 0 0 [a, b] a.at_
def literal (k n a : Int) : Exp := .mk 1 0 [] k 0 n 0 [] a
def indexed (T : List Tk) : Nat → Exp → Nat → PR Exp
 | 0, _, _ => .fuel
 | f + 1, e, i =>
  if sees T i [91] then (size T (i + 1)).bind fun n j => (expect T j [93]).bind fun _ k => indexed T f (.mk 16 0 [] 0 0 n 0 [e] e.at_) k
  else .ok e i
def edge (T : List Tk) (i : Nat) : PR Edge :=
 if sees T i [110, 111, 116] then (name T (i + 1)).bind fun n j => .ok ⟨n, false⟩ j else (name T i).bind fun n j => .ok ⟨n, true⟩ j
mutual
def exp (T : List Tk) : Nat → Nat → Nat → PR Exp
 | 0, _, _ => .fuel
 | f + 1, d, i => need T i (seesExp T i) (room T i d 40 (read T f (d + 1) 0 i))
def read (T : List Tk) : Nat → Nat → Nat → Nat → PR Exp
 | 0, _, _, _ => .fuel
 | f + 1, d, lv, i =>
  if lv ≤ 2 then
   (read T f d (lv + 1) i).bind fun a j =>
    match sign T j lv with
    | none => .ok a j
    | some s => (read T f d lv (j + 1)).bind fun b k => .ok (join s a b) k
  else if lv = 5 then
   (read T f d (lv + 1) i).bind fun a j =>
    match sign T j lv with
    | none => .ok a j
    | some s => (read T f d (lv + 1) (j + 1)).bind fun b k => .ok (join s a b) k
  else if lv ≤ 10 then (read T f d (lv + 1) i).bind fun a j => lefts T f d lv a j
  else if sees T i [110, 111, 116] || sees T i [45] || sees T i [112, 114, 101] then room T i d 40 (prefixed T f (d + 1) i)
  else (prim T f d i).bind fun e j => indexed T f e j
def lefts (T : List Tk) : Nat → Nat → Nat → Exp → Nat → PR Exp
 | 0, _, _, _, _ => .fuel
 | f + 1, d, lv, a, j =>
  match sign T j lv with
  | none => .ok a j
  | some s => (read T f d (lv + 1) (j + 1)).bind fun b k => lefts T f d lv (join s a b) k
def prefixed (T : List Tk) : Nat → Nat → Nat → PR Exp
 | 0, _, _ => .fuel
 | f + 1, d, i =>
  if sees T i [112, 114, 101] then (read T f d 11 (i + 1)).bind fun x j => .ok (.mk 6 0 [] 0 0 0 0 [x] (tk T i).at_) j
  else if sees T i [110, 111, 116] then (read T f d 11 (i + 1)).bind fun x j => .ok (.mk 3 1 [] 0 0 0 0 [x] (tk T i).at_) j
  else if isVal T (i + 1) then indexed T f (literal (tk T (i + 1)).t (Bv.wrp (tk T (i + 1)).t (wrap64 (-(tk T (i + 1)).n))) (tk T i).at_) (i + 2)
  else (read T f d 11 (i + 1)).bind fun x j => .ok (.mk 3 2 [] 0 0 0 0 [x] (tk T i).at_) j
def prim (T : List Tk) : Nat → Nat → Nat → PR Exp
 | 0, _, _ => .fuel
 | f + 1, d, i =>
  if isVal T i then need T i (decide (5 < (tk T i).t) || decide (0 ≤ (tk T i).n)) (.ok (literal (tk T i).t (tk T i).n (tk T i).at_) (i + 1))
  else if isName T i then
   (if sees T (i + 1) [40] then (args T f d (i + 1)).bind fun l j => .ok (.mk 13 0 (tk T i).text 0 0 0 0 l (tk T i).at_) j
    else .ok (.mk 2 0 (tk T i).text 0 0 0 0 [] (tk T i).at_) (i + 1))
  else if sees T i [40] then (exp T f d (i + 1)).bind fun e j => (expect T j [41]).bind fun _ k => .ok e k
  else need T i (seesExp T i) (form T f d (tk T i) (i + 1))
def args (T : List Tk) : Nat → Nat → Nat → PR (List Exp)
 | 0, _, _ => .fuel
 | f + 1, d, i =>
  (expect T i [40]).bind fun _ j =>
   (if sees T j [41] then PR.ok [] j else exps T f d [] j).bind fun l k => (expect T k [41]).bind fun _ m => .ok l m
def exps (T : List Tk) : Nat → Nat → List Exp → Nat → PR (List Exp)
 | 0, _, _, _ => .fuel
 | f + 1, d, acc, i =>
  need T i (seesExp T i) (room T i acc.length 16 ((exp T f d i).bind fun e j =>
   if sees T j [44] then exps T f d (acc ++ [e]) (j + 1) else .ok (acc ++ [e]) j))
def form (T : List Tk) : Nat → Nat → Tk → Nat → PR Exp
 | 0, _, _, _ => .fuel
 | f + 1, d, t, i =>
  let a : Int := t.at_
  if t.text = [116, 114, 117, 101] then .ok (.mk 1 0 [] 1 0 1 0 [] a) i
  else if t.text = [102, 97, 108, 115, 101] then .ok (.mk 1 0 [] 1 0 0 0 [] a) i
  else if t.text = [91] then (exps T f d [] i).bind fun l j => (expect T j [93]).bind fun _ k => .ok (.mk 15 0 [] 0 0 0 0 l a) k
  else if t.text = [105, 102] then
   (exp T f d i).bind fun x j => (expect T j [116, 104, 101, 110]).bind fun _ j => (exp T f d j).bind fun y j => (expect T j [101, 108, 115, 101]).bind fun _ j => (exp T f d j).bind fun z j => .ok (.mk 5 0 [] 0 0 0 0 [x, y, z] a) j
  else if t.text = [119, 104, 101, 110] then
   (expect T i [40]).bind fun _ j => (exp T f d j).bind fun x j => (expect T j [44]).bind fun _ j => (edge T j).bind fun g j => (expect T j [41]).bind fun _ j => .ok (.mk 9 0 g.name 0 0 (if g.on then 1 else 0) 0 [x] a) j
  else if t.text = [99, 97, 115, 116] then
   (expect T i [40]).bind fun _ j => (kind T j).bind fun k j => (expect T j [44]).bind fun _ j => (exp T f d j).bind fun x j => (expect T j [41]).bind fun _ j => .ok (.mk 11 0 [] k 0 0 0 [x] a) j
  else if t.text = [116, 105, 99, 107] then
   (expect T i [40]).bind fun _ j => (size T j).bind fun n j => (expect T j [44]).bind fun _ j => (size T j).bind fun m j => (expect T j [41]).bind fun _ j => .ok (.mk 12 0 [] 0 0 n m [] a) j
  else if t.text = [114, 101, 115, 101, 116] then
   (expect T i [40]).bind fun _ j => (name T j).bind fun n j => (args T f d j).bind fun l j => (expect T j [44]).bind fun _ j => (exp T f d j).bind fun x j => (expect T j [41]).bind fun _ j => .ok (.mk 14 0 n 0 0 0 0 (l ++ [x]) a) j
  else if t.text = [114, 101, 112] then
   (expect T i [40]).bind fun _ j => (exp T f d j).bind fun x j => (expect T j [44]).bind fun _ j => (size T j).bind fun n j => (expect T j [41]).bind fun _ j => .ok (.mk 17 0 [] 0 0 n 0 [x] a) j
  else if t.text = [109, 97, 112] then
   (expect T i [40]).bind fun _ j => (name T j).bind fun n j => (expect T j [44]).bind fun _ j => (exps T f d [] j).bind fun l j => (expect T j [41]).bind fun _ j => .ok (.mk 18 0 n 0 0 0 0 l a) j
  else if t.text = [109, 101, 114, 103, 101] then
   (expect T i [40]).bind fun _ j => (name T j).bind fun n j => (expect T j [44]).bind fun _ j => (exp T f d j).bind fun x j => (expect T j [44]).bind fun _ j => (exp T f d j).bind fun y j => (expect T j [41]).bind fun _ j => .ok (.mk 10 0 n 0 0 0 0 [x, y] a) j
  else
   (expect T i [40]).bind fun _ j => (name T j).bind fun n j => (expect T j [44]).bind fun _ j => (exp T f d j).bind fun x j => (expect T j [44]).bind fun _ j => (exp T f d j).bind fun y j => (expect T j [41]).bind fun _ j => .ok (.mk 19 0 n 0 0 0 0 [x, y] a) j
end
def names (T : List Tk) : Nat → List (B × Int) → Nat → Nat → PR (List (B × Int))
 | 0, _, _, _ => .fuel
 | f + 1, acc, has, i =>
  need T i (isName T i) (room T i (has + acc.length) 200
   (if sees T (i + 1) [44] then names T f (acc ++ [((tk T i).text, ((tk T i).at_ : Int))]) has (i + 2) else .ok (acc ++ [((tk T i).text, ((tk T i).at_ : Int))]) (i + 1)))
def ty (T : List Tk) (i : Nat) : PR (Int × Int) :=
 (kind T i).bind fun k j => if sees T j [94] then (size T (j + 1)).bind fun n m => .ok (k, n) m else .ok (k, 0) j
def decl (T : List Tk) (f : Nat) (vars : List Var) (i : Nat) : PR (List Var) :=
 (names T f [] vars.length i).bind fun ns j => (expect T j [58]).bind fun _ j => (ty T j).bind fun t j =>
  .ok (vars ++ ns.map fun n => ⟨n.1, t.1, t.2, [], n.2⟩) j
def decls (T : List Tk) : Nat → List Var → Nat → PR (List Var)
 | 0, _, _ => .fuel
 | f + 1, vars, i => (decl T f vars i).bind fun vs j => if sees T j [59] then decls T f vs (j + 1) else .ok vs j
def edges (T : List Tk) : Nat → List Edge → Nat → PR (List Edge)
 | 0, _, _ => .fuel
 | f + 1, acc, i =>
  need T i (isName T i || sees T i [110, 111, 116]) (room T i acc.length 16 ((edge T i).bind fun g j =>
   if sees T j [97, 110, 100] then edges T f (acc ++ [g]) (j + 1) else .ok (acc ++ [g]) j))
def local_ (T : List Tk) (f : Nat) (vars : List Var) (i : Nat) : PR (List Var) :=
 (decl T f vars i).bind fun vs j =>
  (if sees T j [119, 104, 101, 110] then (edges T f [] (j + 1)).bind fun c k => .ok (vs.take vars.length ++ (vs.drop vars.length).map fun v => { v with clock := c }) k else .ok vs j).bind fun vs k =>
   (expect T k [59]).bind fun _ m => .ok vs m
def localsL (T : List Tk) : Nat → List Var → Nat → PR (List Var)
 | 0, _, _ => .fuel
 | f + 1, vars, i => (local_ T f vars i).bind fun vs j => if isName T j then localsL T f vs j else .ok vs j
def locals (T : List Tk) (f : Nat) (i : Nat) : PR (List Var) := if sees T i [118, 97, 114] then localsL T f [] (i + 1) else .ok [] i
def lhs (T : List Tk) : Nat → List B → Nat → PR (List B)
 | 0, _, _ => .fuel
 | f + 1, acc, i =>
  need T i (isName T i) (room T i acc.length 16 ((name T i).bind fun n j => if sees T j [44] then lhs T f (acc ++ [n]) (j + 1) else .ok (acc ++ [n]) j))
def equation (T : List Tk) (f d i : Nat) : PR Item :=
 (if sees T i [40] then (lhs T f [] (i + 1)).bind fun ns j => (expect T j [41]).bind fun _ k => .ok ns k else (name T i).bind fun n j => .ok [n] j).bind fun ns j =>
  (expect T j [61]).bind fun _ j => (exp T f d j).bind fun e j => (expect T j [59]).bind fun _ j => .ok (.mk ns e [] (tk T i).at_) j
def trans (T : List Tk) (f d i : Nat) : PR Trans :=
 (exp T f d (i + 1)).bind fun c j =>
  (if sees T j [99, 111, 110, 116, 105, 110, 117, 101] then PR.ok true (j + 1) else (expect T j [116, 104, 101, 110]).bind fun _ k => .ok false k).bind fun ct j =>
   (name T j).bind fun n j => (expect T j [59]).bind fun _ j => .ok ⟨c, n, ct, c.at_⟩ j
def transs (T : List Tk) (w : B) (d : Nat) : Nat → List Trans → Nat → PR (List Trans)
 | 0, _, _ => .fuel
 | f + 1, acc, i => if sees T i w then room T i acc.length 16 ((trans T f d i).bind fun t j => transs T w d f (acc ++ [t]) j) else .ok acc i
def seesItem (T : List Tk) (i : Nat) : Bool := isName T i || sees T i [40] || sees T i [97, 117, 116, 111, 109, 97, 116, 111, 110]
def zeroExp : Exp := .mk 0 0 [] 0 0 0 0 [] 0
mutual
def items (T : List Tk) : Nat → Nat → List Item → Nat → PR (List Item)
 | 0, _, _, _ => .fuel
 | f + 1, d, acc, i => if seesItem T i then room T i acc.length 200 ((item T f d i).bind fun x j => items T f d (acc ++ [x]) j) else .ok acc i
def item (T : List Tk) : Nat → Nat → Nat → PR Item
 | 0, _, _ => .fuel
 | f + 1, d, i =>
  if sees T i [97, 117, 116, 111, 109, 97, 116, 111, 110] then
   room T i d 40 (need T (i + 1) (sees T (i + 1) [115, 116, 97, 116, 101]) ((states T f (d + 1) [] (i + 1)).bind fun ss j => (expect T j [101, 110, 100]).bind fun _ k => .ok (.mk [] zeroExp ss (tk T i).at_) k))
  else equation T f d i
def states (T : List Tk) : Nat → Nat → List State → Nat → PR (List State)
 | 0, _, _, _ => .fuel
 | f + 1, d, acc, i => if sees T i [115, 116, 97, 116, 101] then room T i acc.length 16 ((state T f d i).bind fun x j => states T f d (acc ++ [x]) j) else .ok acc i
def state (T : List Tk) : Nat → Nat → Nat → PR State
 | 0, _, _ => .fuel
 | f + 1, d, i =>
  (name T (i + 1)).bind fun n j => (transs T [117, 110, 108, 101, 115, 115] d f [] j).bind fun us j => (locals T f j).bind fun ls j => (expect T j [100, 111]).bind fun _ j =>
   need T j (seesItem T j) ((items T f d [] j).bind fun its j => (transs T [117, 110, 116, 105, 108] d f [] j).bind fun ut j => .ok (.mk n us ut ls its (tk T i).at_) j)
end
def node (T : List Tk) (f i : Nat) : PR Node :=
 (expect T i [110, 111, 100, 101]).bind fun t j => (name T j).bind fun n j => (expect T j [40]).bind fun _ j =>
  (if sees T j [41] then PR.ok [] j else decls T f [] j).bind fun ins j => (expect T j [41]).bind fun _ j => (expect T j [114, 101, 116, 117, 114, 110, 115]).bind fun _ j => (expect T j [40]).bind fun _ j =>
   (decls T f [] j).bind fun outs j => (expect T j [41]).bind fun _ j => (locals T f j).bind fun ls j => (expect T j [108, 101, 116]).bind fun _ j =>
    need T j (seesItem T j) ((items T f 0 [] j).bind fun its j => (expect T j [116, 101, 108]).bind fun _ j => .ok ⟨n, ins, outs, ls, its, t.at_⟩ j)
def nodes (T : List Tk) : Nat → List Node → Nat → PR (List Node)
 | 0, _, _ => .fuel
 | f + 1, acc, i => if sees T i [110, 111, 100, 101] then room T i acc.length 60 ((node T f i).bind fun n j => nodes T f (acc ++ [n]) j) else .ok acc i
def program (T : List Tk) (f : Nat) : PR (List Node) := (nodes T f [] 0).bind fun ns j => need T j ((tk T j).kind == 5) (.ok ns j)
inductive Res where
 | ok (l : List Node)
 | bad (a e : Int)
 | fuel
def parse (s : B) : Res :=
 match Lex.tokens s with
 | .err a e => .bad a e
 | .ok T => match program T (20 * T.length + 100) with
  | .ok l _ => .ok l
  | .bad a e => .bad a e
  | .fuel => .fuel
end Go.Proofs.YtbbamgjdnibldaaGreat.Gram
