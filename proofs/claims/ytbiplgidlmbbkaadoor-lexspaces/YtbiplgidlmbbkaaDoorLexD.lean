/- lex's reader, on: the walk of its method skip: blanks and comments are passed over. -/
import Derived.Test.YtbiplgidlmbbkaaDoorLexC
namespace Go.Proofs.YtbiplgidlmbbkaaDoor
open Go.RowKit

/-- a callee that draws nothing, met behind draws -/
theorem quiet_same2 {P : Program} {f : FuncId} {args : Array Value} {w : World} {a n : Nat} {v : Value}
    (h : Calls P f args (w.drewN (a + n)) fun e w' => e = .returned v ∧ w' = w.drewN (a + n)) : Calls P f args (w.drewN (a + n)) fun e w'' => e = .returned v ∧ ∃ m, w'' = w.drewN (a + m) :=
  h.mono fun _ _ ⟨he, hm⟩ => ⟨he, n, hm⟩

set_option maxHeartbeats 1600000 in
theorem skip_any (b : Nat) (s : ByteArray) (i m : Nat) (hs : s.size ≤ 65536) (hi : i ≤ s.size) (w : World) (h : Rd w b s i m) :
    Calls Tryd.prog 26 #[.pointer (some ⟨b, 0, none⟩)] w fun e w' =>
      (∃ v, e = .returned v) ∧ Rd w' b s (i + Lex.skp false (s.data.toList.drop i)) m ∧ w.grownBy w' (some b) := by
  go_enter Tryd.func26, Tryd.ntmps26
  go_wp2
  go_loopw [2] (fun _ wr => ∃ j : Nat, i ≤ j ∧ j ≤ s.size ∧ Rd wr b s j m ∧ w.grownBy wr (some b) ∧ Hid (j + Lex.skp false (s.data.toList.drop j) = i + Lex.skp false (s.data.toList.drop i))) (fun _ wr => s.size - (intOf ((wr.cell? ⟨b, 1, none⟩).getD .nilFunc)).toNat)
  case atStart => exact ⟨i, Nat.le_refl _, hi, h, World.grownBy.refl _ _, rfl⟩
  case round =>
    obtain ⟨j, hij, hj, hR, hG, HJ⟩ := hrel
    have c0 := hR.c0
    have c1 := hR.c1
    have fr1 := hR.fr 1
    by_cases hlt : j < s.size
    · have hd : decide ((j : Int) < (s.size : Int)) = true := by rw [decide_eq_true_iff]; omega
      have hx := fun wx => idx_str s j hlt (j : Int) rfl wx
      obtain ⟨c, hc⟩ : ∃ c : UInt8, c = s.data.toList[j]'(by simpa using hlt) := ⟨_, rfl⟩
      have hp : Lex.pk s.data.toList j = c.toNat := by rw [Lex.pk_eq (by simpa using hlt), hc]
      simp only [hp] at hx
      have HC : Hid (c = s.data.toList[j]'(by simpa using hlt)) := hc
      clear hc hp
      rcases Bool.eq_false_or_eq_true (Lex.blank c) with hpc | hpc
      · go_wp2
        go_quiet (fail)
        go_wp2
        go_quiet (exact quiet_same2 (lexBlank_any _ _))
        rw [hpc]
        go_wp2
        have hR2 := fun k => (hR.drewN k).add 1
        refine ⟨⟨j + 1, by omega, by omega, hR2 _, gset (gdrewN hG _) (.inr rfl) _, ?_⟩, ?_⟩
        · have e := HJ.out
          have e2 := Lex.skp_blank (l := s.data.toList) (j := j) (by simpa using hlt) (by rw [← HC.out]; exact hpc)
          show _ = _
          omega
        · rw [show (World.setCell _ ⟨b, 1, none⟩ (.int .i64 ((j : Int) + 1))).cell? ⟨b, 1, none⟩ = _ from (hR2 _).c1, c1]
          simp only [Option.getD_some, intOf, Int.toNat_natCast]
          omega
      · have p0 : ∀ wx, Rd wx b s j m → Calls Tryd.prog 36 #[.pointer (some ⟨b, 0, none⟩), .int .i64 0] wx fun e w' => e = .returned (.int .u8 (Lex.pk s.data.toList (j + 0) : Int)) ∧ ∃ k, w' = wx.drewN k :=
          fun wx hx => peek_any b s j 0 m hs (by omega) (by omega) wx hx
        have p1 : ∀ wx, Rd wx b s j m → Calls Tryd.prog 36 #[.pointer (some ⟨b, 0, none⟩), .int .i64 1] wx fun e w' => e = .returned (.int .u8 (Lex.pk s.data.toList (j + 1) : Int)) ∧ ∃ k, w' = wx.drewN k :=
          fun wx hx => peek_any b s j 1 m hs (by omega) (by omega) wx hx
        obtain ⟨q0, hq0⟩ : ∃ q0 : Nat, q0 = Lex.pk s.data.toList (j + 0) := ⟨_, rfl⟩
        obtain ⟨q1, hq1⟩ : ∃ q1 : Nat, q1 = Lex.pk s.data.toList (j + 1) := ⟨_, rfl⟩
        rw [← hq0] at p0
        rw [← hq1] at p1
        have HQ : Hid (q0 = Lex.pk s.data.toList (j + 0) ∧ q1 = Lex.pk s.data.toList (j + 1)) := ⟨hq0, hq1⟩
        clear hq0 hq1
        by_cases h0 : q0 = 45
        · subst h0
          have p0 : ∀ wx, Rd wx b s j m → Calls Tryd.prog 36 #[.pointer (some ⟨b, 0, none⟩), .int .i64 0] wx fun e w' => e = .returned (.int .u8 45) ∧ ∃ k, w' = wx.drewN k := p0
          by_cases h1 : q1 = 45
          · subst h1
            have p1 : ∀ wx, Rd wx b s j m → Calls Tryd.prog 36 #[.pointer (some ⟨b, 0, none⟩), .int .i64 1] wx fun e w' => e = .returned (.int .u8 45) ∧ ∃ k, w' = wx.drewN k := p1
            go_wp2
            go_quiet (fail)
            go_wp2
            go_quiet (exact quiet_same2 (lexBlank_any _ _))
            rw [hpc]
            go_wp2_with (go_at_call 36; refine (p0 _ (hR.drewN _)).mono ?_; rintro e w' ⟨rfl, k1, rfl⟩; refine Hid.out ?_)
            refine Lib.hid ?_
            go_wp2_with (go_at_call 36; refine (p1 _ (hR.drewN _)).mono ?_; rintro e w' ⟨rfl, k2, rfl⟩; refine Hid.out ?_)
            refine Lib.hid ?_
            go_wp2_with (go_at_call 37; refine (take_any 38 Lex.inLine enterInLine lexInLine_any b s j m hs hj _ (hR.drewN _)).mono ?_; rintro e w' ⟨rfl, hR2, hG2⟩)
            go_light
            obtain ⟨q0, q1⟩ := HQ.out
            have hpos := Lex.spn_inLine_pos (l := s.data.toList) (j := j) (by simpa using hlt) q0.symm
            have hle := Lex.spn_le Lex.inLine (s.data.toList.drop j)
            rw [List.length_drop] at hle
            have hsz : s.data.toList.length = s.size := by simp
            refine ⟨⟨j + Lex.spn Lex.inLine (s.data.toList.drop j), by omega, by omega, hR2, (gdrewN hG _).trans hG2, ?_⟩, ?_⟩
            · have e := HJ.out
              have e2 := Lex.skp_comment (l := s.data.toList) (j := j) (by simpa using hlt) (by rw [← HC.out]; exact hpc) q0.symm q1.symm
              show _ = _
              omega
            · rw [hR2.c1, c1]
              simp only [Option.getD_some, intOf, Int.toNat_natCast]
              omega
          · have hn : ((q1 : Int) == 45) = false := by rw [beq_eq_false_iff_ne]; omega
            go_wp2
            go_quiet (fail)
            go_wp2
            go_quiet (exact quiet_same2 (lexBlank_any _ _))
            rw [hpc]
            go_wp2_with (go_at_call 36; refine (p0 _ (hR.drewN _)).mono ?_; rintro e w' ⟨rfl, k1, rfl⟩; refine Hid.out ?_)
            refine Lib.hid ?_
            go_wp2_with (go_at_call 36; refine (p1 _ (hR.drewN _)).mono ?_; rintro e w' ⟨rfl, k2, rfl⟩)
            refine bodyPost_ret (v := .tuple #[]) (by kernel_rfl) rfl ?_
            go_light
            have e := HJ.out
            obtain ⟨q0, q1⟩ := HQ.out
            have e2 := Lex.skp_stop (l := s.data.toList) (j := j) (by simpa using hlt) (by rw [← HC.out]; exact hpc) (by intro hh; exact h1 (q1.trans hh.2))
            have e3 : j = i + Lex.skp false (s.data.toList.drop i) := by omega
            refine ⟨⟨_, rfl⟩, ?_, gdrewN hG _⟩
            rw [← e3]
            exact hR
        · have hn : ((q0 : Int) == 45) = false := by rw [beq_eq_false_iff_ne]; omega
          go_wp2
          go_quiet (fail)
          go_wp2
          go_quiet (exact quiet_same2 (lexBlank_any _ _))
          rw [hpc]
          go_wp2_with (go_at_call 36; refine (p0 _ (hR.drewN _)).mono ?_; rintro e w' ⟨rfl, k1, rfl⟩)
          refine bodyPost_ret (v := .tuple #[]) (by kernel_rfl) rfl ?_
          go_light
          have e := HJ.out
          obtain ⟨q0, q1⟩ := HQ.out
          have e2 := Lex.skp_stop (l := s.data.toList) (j := j) (by simpa using hlt) (by rw [← HC.out]; exact hpc) (by intro hh; exact h0 (q0.trans hh.1))
          have e3 : j = i + Lex.skp false (s.data.toList.drop i) := by omega
          refine ⟨⟨_, rfl⟩, ?_, gdrewN hG _⟩
          rw [← e3]
          exact hR
    · have hd : decide ((j : Int) < (s.size : Int)) = false := by rw [decide_eq_false_iff_not]; omega
      go_wp2
      go_quiet (fail)
      go_wp2
      go_end0
      go_light
      have e := HJ.out
      have e2 := Lex.skp_end (l := s.data.toList) (j := j) (by simpa using hlt)
      have e3 : j = i + Lex.skp false (s.data.toList.drop i) := by omega
      refine ⟨⟨_, rfl⟩, ?_, gdrewN hG _⟩
      rw [← e3]
      exact hR

end Go.Proofs.YtbiplgidlmbbkaaDoor
