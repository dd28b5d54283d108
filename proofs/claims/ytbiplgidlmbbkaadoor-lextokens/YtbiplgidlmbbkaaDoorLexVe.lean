/- The document's own tokens, on: its Tokens. -/
import Derived.Test.YtbiplgidlmbbkaaDoorLexVd
namespace Go.Proofs.YtbiplgidlmbbkaaDoor
open Go.RowKit Go.Maps Go.WideMaps

theorem rblank (c : UInt8) (n : Int) (hn : n = (c.toNat : Int)) : Lex.blank c = ((n == 32) || (n == 9) || (n == 10) || (n == 13)) := by
  unfold Lex.blank
  have e : ∀ k : Nat, (c.toNat == k) = (n == (k : Int)) := by
    intro k; rw [Bool.eq_iff_iff, beq_iff_eq, beq_iff_eq]; omega
  rw [e, e, e, e]; rfl

/-- six stores into a block that was not there -/
theorem stored6 {w W : World} {b : Nat} {v0 v1 v2 v3 v4 v5 : Value} {r : Option Nat} (h : w.grownBy W r) (hb : w.heap.size ≤ b) :
    w.grownBy ((((((W.setCell ⟨b, 0, none⟩ v0).setCell ⟨b, 1, none⟩ v1).setCell ⟨b, 2, none⟩ v2).setCell ⟨b, 3, none⟩ v3).setCell ⟨b, 4, none⟩ v4).setCell ⟨b, 5, none⟩ v5) r :=
  gset (gset (gset (gset (gset (gset h (.inl hb) _) (.inl hb) _) (.inl hb) _) (.inl hb) _) (.inl hb) _) (.inl hb) _

theorem stored6_tkb {W : World} {b : Nat} {v0 v1 v2 v3 v4 v5 : Value} (h : Six W b) :
    Tkb ((((((W.setCell ⟨b, 0, none⟩ v0).setCell ⟨b, 1, none⟩ v1).setCell ⟨b, 2, none⟩ v2).setCell ⟨b, 3, none⟩ v3).setCell ⟨b, 4, none⟩ v4).setCell ⟨b, 5, none⟩ v5) b v0 v1 v2 v3 v4 v5 := by
  obtain ⟨x0, x1, x2, x3, x4, x5, h⟩ := h
  unfold Tkb
  simp only [World.setCell, Array.getElem?_modify, if_true, h, Option.map_some]
  rfl

set_option maxHeartbeats 3200000 in
set_option maxRecDepth 100000 in
theorem rtokens_some (s : ByteArray) (hs : s.size ≤ 65536) (w : World) :
    Calls Tryd.prog 11 #[.string s] w fun e w' => tkPost w (Lex.tail s.data.toList 0 20000) e w' ∧ w.grownBy w' none := by
  obtain ⟨it, hit, hz, hsz, hby⟩ := infoP infoT
  have hsl : s.data.toList.length = s.size := by simp
  have hd0 : decide ((65536 : Int) < (s.size : Int)) = false := by rw [decide_eq_false_iff_not]; omega
  go_enter Tryd.func11, Tryd.ntmps11
  go_wp2
  go_loopw [5, 6] (fun v a wr => ∃ (acc : List Lex.Tk) (i : Nat), i ≤ s.size ∧ a = .int .i64 (i : Int) ∧ acc.length ≤ 20000 ∧ wr.ownsRow w.heap.size 30 6 v acc.length (Lex.row acc) ∧ w.grownBy wr none ∧ Hid (Lex.preL acc (Lex.tail s.data.toList i (20000 - acc.length)) = Lex.tail s.data.toList 0 20000)) (fun _ a _ => s.size - (intOf a).toNat)
  case atStart => exact ⟨[], 0, Nat.zero_le _, rfl, Nat.zero_le _, World.ownsRow_nil _ _ _ _, World.grownBy.refl _ _, rfl⟩
  case round =>
    obtain ⟨acc, i, hi, rfl, hacc, hown, hG, HT⟩ := hrel
    have hlf := fun ty wx => len_own hown ty wx
    go_wp2
    go_loop [6] (fun a => ∃ p : Nat, i ≤ p ∧ p ≤ s.size ∧ a = .int .i64 (p : Int) ∧ Hid (p + Lex.skp false (s.data.toList.drop p) = i + Lex.skp false (s.data.toList.drop i))) (fun a => s.size - (intOf a).toNat)
    case atStart => exact ⟨i, Nat.le_refl _, hi, rfl, Lib.hid rfl⟩
    case round =>
      obtain ⟨p, hip, hp, rfl, H2⟩ := hrel
      by_cases hlt : p < s.size
      · have hx := fun wx => idx_str s p hlt (p : Int) rfl wx
        obtain ⟨n, hn⟩ : ∃ n : Int, n = (Lex.pk s.data.toList p : Int) := ⟨_, rfl⟩
        simp only [← hn] at hx
        have hbl := rblank (s.data.toList[p]'(by omega)) n (by rw [hn, Lex.pk_eq (by omega)])
        have HN := Lib.hid hn
        have HBL := Lib.hid hbl
        clear hn hbl
        rcases Bool.eq_false_or_eq_true ((n == 32) || (n == 9) || (n == 10) || (n == 13)) with hb | hb
        · have HNX : Hid (p + 1 + Lex.skp false (s.data.toList.drop (p + 1)) = i + Lex.skp false (s.data.toList.drop i)) := by
            have e1 := H2.out
            have e2 := Lex.skp_blank (l := s.data.toList) (j := p) (by omega) (HBL.out.trans hb)
            exact Lib.hid (by omega)
          clear H2 HBL HN
          rcases Bool.eq_false_or_eq_true (n == 32) with q1 | q1
          · clear hb
            go_wp2
            go_round
            case rel => exact ⟨p + 1, by omega, by omega, by go_num, HNX⟩
            case measure => simp [intOf]; omega
          · rcases Bool.eq_false_or_eq_true (n == 9) with q2 | q2
            · clear hb
              go_wp2
              go_round
              case rel => exact ⟨p + 1, by omega, by omega, by go_num, HNX⟩
              case measure => simp [intOf]; omega
            · rcases Bool.eq_false_or_eq_true (n == 10) with q3 | q3
              · clear hb
                go_wp2
                go_round
                case rel => exact ⟨p + 1, by omega, by omega, by go_num, HNX⟩
                case measure => simp [intOf]; omega
              · have q4 : (n == 13) = true := by rw [q1, q2, q3] at hb; simpa using hb
                clear hb
                go_wp2
                go_round
                case rel => exact ⟨p + 1, by omega, by omega, by go_num, HNX⟩
                case measure => simp [intOf]; omega
        · have hbb := HBL.out.trans hb
          simp only [Bool.or_eq_false_iff] at hb
          obtain ⟨⟨⟨q1, q2⟩, q3⟩, q4⟩ := hb
          have HBB := Lib.hid hbb
          clear hbb HBL
          by_cases hcm : Lex.pk s.data.toList p = 45 ∧ Lex.pk s.data.toList (p + 1) = 45
          · have hlt2 : p + 1 < s.size := by
              rcases Nat.lt_or_ge (p + 1) s.size with h | h
              · exact h
              · have := Lex.pk_ge (l := s.data.toList) (j := p + 1) (by omega)
                omega
            have hlt3 : (p : Int) + 1 < (s.size : Int) := by omega
            have q5 : (n == 45) = true := by rw [beq_iff_eq, HN.out, hcm.1]; rfl
            have hx1 : ∀ wx, (Instr.index 9 (.string s) (.int .i64 ((p : Int) + 1))).run Tryd.prog wx = .ok (.int .u8 45) wx := by
              intro wx
              rw [idx_str s (p + 1) hlt2 ((p : Int) + 1) (by omega) wx, hcm.2]
              rfl
            obtain ⟨Q, hQ⟩ : ∃ Q, Q = p + Lex.spn Lex.inLine (s.data.toList.drop p) := ⟨_, rfl⟩
            have hQp : p < Q := by
              have := Lex.spn_inLine_pos (l := s.data.toList) (j := p) (by omega) hcm.1
              omega
            have HNX : Hid (Q + Lex.skp false (s.data.toList.drop Q) = i + Lex.skp false (s.data.toList.drop i)) := by
              have e1 := H2.out
              have e2 := Lex.skp_comment (l := s.data.toList) (j := p) (by omega) HBB.out hcm.1 hcm.2
              rw [← hQ] at e2
              exact Lib.hid (by omega)
            have HQ := Lib.hid hQ
            clear H2 HBB HN hcm hQ hlt2
            go_wp2
            go_loop [6] (fun a => ∃ q : Nat, p ≤ q ∧ q ≤ s.size ∧ a = .int .i64 (q : Int) ∧ Hid (q + Lex.spn Lex.inLine (s.data.toList.drop q) = Q)) (fun a => s.size - (intOf a).toNat)
            case atStart => exact ⟨p, Nat.le_refl _, hp, rfl, Lib.hid HQ.out.symm⟩
            case round =>
              obtain ⟨q, hpq, hq, rfl, H3⟩ := hrel
              by_cases hltq : q < s.size
              · have hxq := fun wx => idx_str s q hltq (q : Int) rfl wx
                obtain ⟨m, hm⟩ : ∃ m : Int, m = (Lex.pk s.data.toList q : Int) := ⟨_, rfl⟩
                simp only [← hm] at hxq
                have hin : Lex.inLine (s.data.toList[q]'(by omega)) = !(m == 10) := by
                  have := Lex.pk_eq (l := s.data.toList) (j := q) (by omega)
                  have e : ((s.data.toList[q]'(by omega)).toNat == 10) = (m == 10) := by
                    rw [Bool.eq_iff_iff, beq_iff_eq, beq_iff_eq]; omega
                  unfold Lex.inLine
                  rw [bne, e]
                have HIN := Lib.hid hin
                clear hin hm
                rcases Bool.eq_false_or_eq_true (m == 10) with r1 | r1
                · have e1 := H3.out
                  have e2 := Lex.spn_stop (p := Lex.inLine) (l := s.data.toList) (j := q) (by omega) (by rw [HIN.out, r1]; rfl)
                  have HQQ : Hid (q = Q) := Lib.hid (by omega)
                  clear e1 e2 H3 HIN
                  go_wp2
                  go_round
                  case rel => exact ⟨q, by omega, by omega, rfl, by rw [HQQ.out]; exact HNX⟩
                  case measure => simp [intOf]; have := HQQ.out; omega
                · have e1 := H3.out
                  have e2 := Lex.spn_step (p := Lex.inLine) (l := s.data.toList) (j := q) (by omega) (by rw [HIN.out, r1]; rfl)
                  have HNQ : Hid (q + 1 + Lex.spn Lex.inLine (s.data.toList.drop (q + 1)) = Q) := Lib.hid (by omega)
                  clear e1 e2 H3 HIN
                  go_wp2
                  go_round
                  case rel => exact ⟨q + 1, by omega, by omega, by go_num, HNQ⟩
                  case measure => simp [intOf]; omega
              · have e1 := H3.out
                have e2 := Lex.spn_end Lex.inLine (l := s.data.toList) (j := q) (by omega)
                have HQQ : Hid (q = Q) := Lib.hid (by omega)
                clear e1 e2 H3
                go_wp2
                go_round
                case rel => exact ⟨q, by omega, by omega, rfl, by rw [HQQ.out]; exact HNX⟩
                case measure => simp [intOf]; have := HQQ.out; omega
          · have HP : Hid (p = i + Lex.skp false (s.data.toList.drop i)) := by
              have e1 := H2.out
              have e2 := Lex.skp_stop (l := s.data.toList) (j := p) (by omega) HBB.out hcm
              exact Lib.hid (by omega)
            have hT := fun wx => rtoken_any s p hs hlt wx
            clear H2 HBB
            rcases Bool.eq_false_or_eq_true (n == 45) with q5 | q5
            · have hc2 : ¬ Lex.pk s.data.toList (p + 1) = 45 := fun h => hcm ⟨by have := HN.out; rw [beq_iff_eq] at q5; omega, h⟩
              by_cases hl2 : p + 1 < s.size
              · have hl3 : (p : Int) + 1 < (s.size : Int) := by omega
                have hx1 : ∀ wx, (Instr.index 9 (.string s) (.int .i64 ((p : Int) + 1))).run Tryd.prog wx = .ok (.int .u8 (Lex.pk s.data.toList (p + 1) : Int)) wx := fun wx => idx_str s (p + 1) hl2 ((p : Int) + 1) (by omega) wx
                obtain ⟨m2, hm2⟩ : ∃ m2 : Int, m2 = (Lex.pk s.data.toList (p + 1) : Int) := ⟨_, rfl⟩
                simp only [← hm2] at hx1
                have q6 : (m2 == 45) = false := by rw [beq_eq_false_iff_ne]; omega
                clear hm2 hc2 hcm HN
                cases htk : Lex.tokAt (s.data.toList.drop p) with
                | bad er =>
                  have HE : Hid (Lex.tail s.data.toList 0 20000 = .err p er) := by
                    show _ = _
                    rw [← HT.out, Lex.tail_bad (by rw [← HP.out]; exact htk), Lex.preL_err, ← HP.out]
                  have hne := tokAt_bad htk
                  have hne0 : (er == 0) = false := by rw [beq_eq_false_iff_ne]; exact bne_iff_ne.1 hne
                  rw [htk] at hT
                  have hT2 : ∀ wx, Calls Tryd.prog 21 #[.string s, .int .i64 (p : Int)] wx fun e w' => e = .returned (.tuple #[.agg #[.int .i64 0, .string ⟨#[]⟩, .int .i64 0, .int .i64 0, .int .i64 0, .int .i64 0], .int .i64 er]) ∧ wx.grownBy w' none := hT
                  clear htk HT hT
                  go_wp2_with (go_at_call 21; refine (hT2 _).mono ?_; rintro e w1 ⟨rfl, hg1⟩)
                  go_ret3
                  refine ⟨?_, galloc ((galloc hG _).trans hg1) _⟩
                  rw [HE.out]
                  exact ⟨rfl, bne_iff_ne.1 hne⟩
                | tok kd nn t len =>
                  have hcase := (Lex.tokAt_tok htk).resolve_left (fun hh => by have := congrArg List.length hh.1; rw [List.length_drop, List.length_nil] at this; omega)
                  have HK : Hid (Lex.tokAt (s.data.toList.drop (i + Lex.skp false (s.data.toList.drop i))) = .tok kd nn t len) := Lib.hid (by rw [← HP.out]; exact htk)
                  have hle : p + len ≤ s.size := by
                    have := Lex.tokAt_len htk
                    rw [List.length_drop] at this
                    omega
                  obtain ⟨x, hx9⟩ : ∃ x, x = s.extract p (p + len) := ⟨_, rfl⟩
                  have hxs : x.size = len := by
                    have e1 : x.data.toList.length = x.size := Array.length_toList
                    rw [← e1, hx9, ext_list, List.length_take, List.length_drop]
                    omega
                  rw [htk] at hT
                  have hT2 : ∀ wx, Calls Tryd.prog 21 #[.string s, .int .i64 (p : Int)] wx fun e w' => e = .returned (.tuple #[.agg #[.int .i64 kd, .string x, .int .i64 nn, .int .i64 t, .int .i64 0, .int .i64 (p : Int)], .int .i64 0]) ∧ wx.grownBy w' none :=
                    fun wx => (hT wx).mono fun e w' hh => ⟨by rw [hx9]; exact hh.1.1, hh.2⟩
                  obtain ⟨tk, htk2⟩ : ∃ tk : Lex.Tk, tk = ⟨kd, (s.data.toList.drop p).take len, nn, t, p⟩ := ⟨_, rfl⟩
                  have HX : Hid (Lex.cells tk = [.int .i64 kd, .string x, .int .i64 nn, .int .i64 t, .int .i64 0, .int .i64 (p : Int)]) := by
                    show _ = _
                    rw [htk2, hx9, ext_mk]; rfl
                  have HTK := Lib.hid htk2
                  have HXS := Lib.hid hxs
                  clear htk htk2 hx9 hxs hT
                  by_cases hf : acc.length = 20000
                  · have hf2 : 20000 ≤ acc.length := by omega
                    have HE : Hid (Lex.tail s.data.toList 0 20000 = .err p 2) := by
                      show _ = _
                      rw [← HT.out, hf, Lex.tail_full HK.out, Lex.preL_err, ← HP.out]
                    clear HT hf
                    go_wp2_with (go_at_call 21; refine (hT2 _).mono ?_; rintro e w1 ⟨rfl, hg1⟩; refine Hid.out ?_)
                    have h6 : Six w1 wr.heap.size := ((Tkb.new wr _ _ _ _ _ _).kept hg1 (by simp)).six
                    obtain ⟨⟨x0, c0⟩, ⟨x1, c1⟩, ⟨x2, c2⟩, ⟨x3, c3⟩, ⟨x4, c4⟩, ⟨x5, c5⟩⟩ := h6.c
                    have f0 := h6.f 0
                    have f1 := h6.f 1
                    have f2 := h6.f 2
                    have f3 := h6.f 3
                    have f4 := h6.f 4
                    have f5 := h6.f 5
                    have hlt7 : wr.heap.size < w1.heap.size := by have := hg1.size; rw [World.size_alloc] at this; omega
                    refine Lib.hid ?_
                    go_wp2
                    go_ret3
                    refine ⟨?_, ?_⟩
                    · rw [HE.out]
                      exact ⟨rfl, by decide⟩
                    · go_light
                      exact galloc (stored6 ((galloc hG _).trans hg1) hG.size) _
                  · have hf2 : ¬ 20000 ≤ acc.length := by omega
                    have HE : Hid (Lex.preL (acc ++ [tk]) (Lex.tail s.data.toList (p + len) (20000 - (acc ++ [tk]).length)) = Lex.tail s.data.toList 0 20000) := by
                      show _ = _
                      rw [← HT.out, Lex.tail_tok HK.out (by omega) hcase.2.1, Lex.preL_snoc, HTK.out, ← HP.out]
                      simp only [List.length_append, List.length_cons, List.length_nil, Nat.zero_add, Nat.sub_sub]
                    have h52 : (kd == 5) = false := by rw [beq_eq_false_iff_ne]; exact hcase.2.1
                    have hpos : 0 < len := hcase.2.2
                    have hxle : p + x.size ≤ s.size := by rw [HXS.out]; exact hle
                    clear HT HK hcase hf
                    go_wp2_with (go_at_call 21; refine (hT2 _).mono ?_; rintro e w1 ⟨rfl, hg1⟩; refine Hid.out ?_)
                    obtain ⟨W6, hW6⟩ : ∃ W6, W6 = (((((w1.setCell ⟨wr.heap.size, 0, none⟩ (.int .i64 kd)).setCell ⟨wr.heap.size, 1, none⟩ (.string x)).setCell ⟨wr.heap.size, 2, none⟩ (.int .i64 nn)).setCell ⟨wr.heap.size, 3, none⟩ (.int .i64 t)).setCell ⟨wr.heap.size, 4, none⟩ (.int .i64 0)).setCell ⟨wr.heap.size, 5, none⟩ (.int .i64 (p : Int)) := ⟨_, rfl⟩
                    have hg6 : wr.grownBy W6 none := by rw [hW6]; exact stored6 ((World.grownBy_alloc wr _ none).trans hg1) (Nat.le_refl _)
                    have hT6 : Tkb W6 wr.heap.size (.int .i64 kd) (.string x) (.int .i64 nn) (.int .i64 t) (.int .i64 0) (.int .i64 (p : Int)) := by rw [hW6]; exact stored6_tkb ((Tkb.new wr _ _ _ _ _ _).kept hg1 (by simp)).six
                    have hs6 : w1.heap.size = W6.heap.size := by rw [hW6]; simp
                    have HW6 := Lib.hid hW6
                    have HG6 := Lib.hid hg6
                    have HT6 := Lib.hid hT6
                    have HS6 := Lib.hid hs6
                    clear hW6 hg6 hT6 hs6
                    have h6 : Six w1 wr.heap.size := ((Tkb.new wr _ _ _ _ _ _).kept hg1 (by simp)).six
                    obtain ⟨⟨x0, c0⟩, ⟨x1, c1⟩, ⟨x2, c2⟩, ⟨x3, c3⟩, ⟨x4, c4⟩, ⟨x5, c5⟩⟩ := h6.c
                    have f0 := h6.f 0
                    have f1 := h6.f 1
                    have f2 := h6.f 2
                    have f3 := h6.f 3
                    have f4 := h6.f 4
                    have f5 := h6.f 5
                    have hlt7 : wr.heap.size < w1.heap.size := by have := hg1.size; rw [World.size_alloc] at this; omega
                    refine Lib.hid ?_
                    go_wp2_with (at_builtin; refine Hid.out ?_)
                    rw [← HW6.out]
                    have hown6 := hown.kept HG6.out (by cases u5.ownBlock <;> simp)
                    have hsz6 := HG6.out.size
                    have hszw := hG.size
                    have hw16 := HS6.out
                    refine Lib.hid ?_
                    refine wpList_append_own _ rfl _ _ 23 rfl w.heap.size 30 it _ 6 56 Tryd.underlying23 hit hz hsz hby rfl (by decide) _ acc.length (Lex.row acc) rfl ((hown6.alloc _).alloc _) ⟨w1.heap.size + 1, 0, none⟩ 1 1 [.int .i64 kd, .string x, .int .i64 nn, .int .i64 t, .int .i64 0, .int .i64 (p : Int)] rfl rfl ?_ (six_one _ _ _ _ _ _) ?_ ?_ ?_ ?_
                    · rw [HS6.out]; exact cell_six_new2 _ _ _ _ _ _ _ _ _
                    · unfold maxLen; omega
                    · omega
                    · simp only [World.size_alloc]; omega
                    intro v' w3 hown' hgrow3 _
                    have hT3 : Tkb w3 wr.heap.size (.int .i64 kd) (.string x) (.int .i64 nn) (.int .i64 t) (.int .i64 0) (.int .i64 (p : Int)) :=
                      ((HT6.out.kept (World.grownBy_alloc _ _ none) (by simp)).kept (World.grownBy_alloc _ _ none) (by simp)).kept hgrow3 (fun e => by have := hown.lt _ e.symm; omega)
                    have t0 := hT3.c.1
                    have t1 := hT3.c.2.1
                    have hg3 : w.grownBy w3 none := (galloc (galloc (hG.trans HG6.out) _) _).andThen hgrow3 (fun j e => .inl (hown.lt j e).1)
                    have hrow : Lex.row acc ++ [.int .i64 kd, .string x, .int .i64 nn, .int .i64 t, .int .i64 0, .int .i64 (p : Int)] = Lex.row (acc ++ [tk]) := by rw [Lex.row_snoc, HX.out]
                    have hlen2 : (acc ++ [tk]).length = acc.length + 1 := by simp
                    rw [hrow, ← hlen2] at hown'
                    have HO := Lib.hid hown'
                    clear hown' hrow hT3 c0 c1 c2 c3 c4 c5 f0 f1 f2 f3 f4 f5 hw16 hown6
                    go_wp2
                    go_light
                    refine ⟨⟨acc ++ [tk], p + len, hle, by rw [← HXS.out]; go_num, by omega, HO.out, hg3, HE⟩, ?_⟩
                    have e9 := HXS.out
                    simp only [intOf]
                    omega
              · have hl3 : ¬ (p : Int) + 1 < (s.size : Int) := by omega
                clear hc2 hcm HN
                cases htk : Lex.tokAt (s.data.toList.drop p) with
                | bad er =>
                  have HE : Hid (Lex.tail s.data.toList 0 20000 = .err p er) := by
                    show _ = _
                    rw [← HT.out, Lex.tail_bad (by rw [← HP.out]; exact htk), Lex.preL_err, ← HP.out]
                  have hne := tokAt_bad htk
                  have hne0 : (er == 0) = false := by rw [beq_eq_false_iff_ne]; exact bne_iff_ne.1 hne
                  rw [htk] at hT
                  have hT2 : ∀ wx, Calls Tryd.prog 21 #[.string s, .int .i64 (p : Int)] wx fun e w' => e = .returned (.tuple #[.agg #[.int .i64 0, .string ⟨#[]⟩, .int .i64 0, .int .i64 0, .int .i64 0, .int .i64 0], .int .i64 er]) ∧ wx.grownBy w' none := hT
                  clear htk HT hT
                  go_wp2_with (go_at_call 21; refine (hT2 _).mono ?_; rintro e w1 ⟨rfl, hg1⟩)
                  go_ret3
                  refine ⟨?_, galloc ((galloc hG _).trans hg1) _⟩
                  rw [HE.out]
                  exact ⟨rfl, bne_iff_ne.1 hne⟩
                | tok kd nn t len =>
                  have hcase := (Lex.tokAt_tok htk).resolve_left (fun hh => by have := congrArg List.length hh.1; rw [List.length_drop, List.length_nil] at this; omega)
                  have HK : Hid (Lex.tokAt (s.data.toList.drop (i + Lex.skp false (s.data.toList.drop i))) = .tok kd nn t len) := Lib.hid (by rw [← HP.out]; exact htk)
                  have hle : p + len ≤ s.size := by
                    have := Lex.tokAt_len htk
                    rw [List.length_drop] at this
                    omega
                  obtain ⟨x, hx9⟩ : ∃ x, x = s.extract p (p + len) := ⟨_, rfl⟩
                  have hxs : x.size = len := by
                    have e1 : x.data.toList.length = x.size := Array.length_toList
                    rw [← e1, hx9, ext_list, List.length_take, List.length_drop]
                    omega
                  rw [htk] at hT
                  have hT2 : ∀ wx, Calls Tryd.prog 21 #[.string s, .int .i64 (p : Int)] wx fun e w' => e = .returned (.tuple #[.agg #[.int .i64 kd, .string x, .int .i64 nn, .int .i64 t, .int .i64 0, .int .i64 (p : Int)], .int .i64 0]) ∧ wx.grownBy w' none :=
                    fun wx => (hT wx).mono fun e w' hh => ⟨by rw [hx9]; exact hh.1.1, hh.2⟩
                  obtain ⟨tk, htk2⟩ : ∃ tk : Lex.Tk, tk = ⟨kd, (s.data.toList.drop p).take len, nn, t, p⟩ := ⟨_, rfl⟩
                  have HX : Hid (Lex.cells tk = [.int .i64 kd, .string x, .int .i64 nn, .int .i64 t, .int .i64 0, .int .i64 (p : Int)]) := by
                    show _ = _
                    rw [htk2, hx9, ext_mk]; rfl
                  have HTK := Lib.hid htk2
                  have HXS := Lib.hid hxs
                  clear htk htk2 hx9 hxs hT
                  by_cases hf : acc.length = 20000
                  · have hf2 : 20000 ≤ acc.length := by omega
                    have HE : Hid (Lex.tail s.data.toList 0 20000 = .err p 2) := by
                      show _ = _
                      rw [← HT.out, hf, Lex.tail_full HK.out, Lex.preL_err, ← HP.out]
                    clear HT hf
                    go_wp2_with (go_at_call 21; refine (hT2 _).mono ?_; rintro e w1 ⟨rfl, hg1⟩; refine Hid.out ?_)
                    have h6 : Six w1 wr.heap.size := ((Tkb.new wr _ _ _ _ _ _).kept hg1 (by simp)).six
                    obtain ⟨⟨x0, c0⟩, ⟨x1, c1⟩, ⟨x2, c2⟩, ⟨x3, c3⟩, ⟨x4, c4⟩, ⟨x5, c5⟩⟩ := h6.c
                    have f0 := h6.f 0
                    have f1 := h6.f 1
                    have f2 := h6.f 2
                    have f3 := h6.f 3
                    have f4 := h6.f 4
                    have f5 := h6.f 5
                    have hlt7 : wr.heap.size < w1.heap.size := by have := hg1.size; rw [World.size_alloc] at this; omega
                    refine Lib.hid ?_
                    go_wp2
                    go_ret3
                    refine ⟨?_, ?_⟩
                    · rw [HE.out]
                      exact ⟨rfl, by decide⟩
                    · go_light
                      exact galloc (stored6 ((galloc hG _).trans hg1) hG.size) _
                  · have hf2 : ¬ 20000 ≤ acc.length := by omega
                    have HE : Hid (Lex.preL (acc ++ [tk]) (Lex.tail s.data.toList (p + len) (20000 - (acc ++ [tk]).length)) = Lex.tail s.data.toList 0 20000) := by
                      show _ = _
                      rw [← HT.out, Lex.tail_tok HK.out (by omega) hcase.2.1, Lex.preL_snoc, HTK.out, ← HP.out]
                      simp only [List.length_append, List.length_cons, List.length_nil, Nat.zero_add, Nat.sub_sub]
                    have h52 : (kd == 5) = false := by rw [beq_eq_false_iff_ne]; exact hcase.2.1
                    have hpos : 0 < len := hcase.2.2
                    have hxle : p + x.size ≤ s.size := by rw [HXS.out]; exact hle
                    clear HT HK hcase hf
                    go_wp2_with (go_at_call 21; refine (hT2 _).mono ?_; rintro e w1 ⟨rfl, hg1⟩; refine Hid.out ?_)
                    obtain ⟨W6, hW6⟩ : ∃ W6, W6 = (((((w1.setCell ⟨wr.heap.size, 0, none⟩ (.int .i64 kd)).setCell ⟨wr.heap.size, 1, none⟩ (.string x)).setCell ⟨wr.heap.size, 2, none⟩ (.int .i64 nn)).setCell ⟨wr.heap.size, 3, none⟩ (.int .i64 t)).setCell ⟨wr.heap.size, 4, none⟩ (.int .i64 0)).setCell ⟨wr.heap.size, 5, none⟩ (.int .i64 (p : Int)) := ⟨_, rfl⟩
                    have hg6 : wr.grownBy W6 none := by rw [hW6]; exact stored6 ((World.grownBy_alloc wr _ none).trans hg1) (Nat.le_refl _)
                    have hT6 : Tkb W6 wr.heap.size (.int .i64 kd) (.string x) (.int .i64 nn) (.int .i64 t) (.int .i64 0) (.int .i64 (p : Int)) := by rw [hW6]; exact stored6_tkb ((Tkb.new wr _ _ _ _ _ _).kept hg1 (by simp)).six
                    have hs6 : w1.heap.size = W6.heap.size := by rw [hW6]; simp
                    have HW6 := Lib.hid hW6
                    have HG6 := Lib.hid hg6
                    have HT6 := Lib.hid hT6
                    have HS6 := Lib.hid hs6
                    clear hW6 hg6 hT6 hs6
                    have h6 : Six w1 wr.heap.size := ((Tkb.new wr _ _ _ _ _ _).kept hg1 (by simp)).six
                    obtain ⟨⟨x0, c0⟩, ⟨x1, c1⟩, ⟨x2, c2⟩, ⟨x3, c3⟩, ⟨x4, c4⟩, ⟨x5, c5⟩⟩ := h6.c
                    have f0 := h6.f 0
                    have f1 := h6.f 1
                    have f2 := h6.f 2
                    have f3 := h6.f 3
                    have f4 := h6.f 4
                    have f5 := h6.f 5
                    have hlt7 : wr.heap.size < w1.heap.size := by have := hg1.size; rw [World.size_alloc] at this; omega
                    refine Lib.hid ?_
                    go_wp2_with (at_builtin; refine Hid.out ?_)
                    rw [← HW6.out]
                    have hown6 := hown.kept HG6.out (by cases u5.ownBlock <;> simp)
                    have hsz6 := HG6.out.size
                    have hszw := hG.size
                    have hw16 := HS6.out
                    refine Lib.hid ?_
                    refine wpList_append_own _ rfl _ _ 23 rfl w.heap.size 30 it _ 6 56 Tryd.underlying23 hit hz hsz hby rfl (by decide) _ acc.length (Lex.row acc) rfl ((hown6.alloc _).alloc _) ⟨w1.heap.size + 1, 0, none⟩ 1 1 [.int .i64 kd, .string x, .int .i64 nn, .int .i64 t, .int .i64 0, .int .i64 (p : Int)] rfl rfl ?_ (six_one _ _ _ _ _ _) ?_ ?_ ?_ ?_
                    · rw [HS6.out]; exact cell_six_new2 _ _ _ _ _ _ _ _ _
                    · unfold maxLen; omega
                    · omega
                    · simp only [World.size_alloc]; omega
                    intro v' w3 hown' hgrow3 _
                    have hT3 : Tkb w3 wr.heap.size (.int .i64 kd) (.string x) (.int .i64 nn) (.int .i64 t) (.int .i64 0) (.int .i64 (p : Int)) :=
                      ((HT6.out.kept (World.grownBy_alloc _ _ none) (by simp)).kept (World.grownBy_alloc _ _ none) (by simp)).kept hgrow3 (fun e => by have := hown.lt _ e.symm; omega)
                    have t0 := hT3.c.1
                    have t1 := hT3.c.2.1
                    have hg3 : w.grownBy w3 none := (galloc (galloc (hG.trans HG6.out) _) _).andThen hgrow3 (fun j e => .inl (hown.lt j e).1)
                    have hrow : Lex.row acc ++ [.int .i64 kd, .string x, .int .i64 nn, .int .i64 t, .int .i64 0, .int .i64 (p : Int)] = Lex.row (acc ++ [tk]) := by rw [Lex.row_snoc, HX.out]
                    have hlen2 : (acc ++ [tk]).length = acc.length + 1 := by simp
                    rw [hrow, ← hlen2] at hown'
                    have HO := Lib.hid hown'
                    clear hown' hrow hT3 c0 c1 c2 c3 c4 c5 f0 f1 f2 f3 f4 f5 hw16 hown6
                    go_wp2
                    go_light
                    refine ⟨⟨acc ++ [tk], p + len, hle, by rw [← HXS.out]; go_num, by omega, HO.out, hg3, HE⟩, ?_⟩
                    have e9 := HXS.out
                    simp only [intOf]
                    omega
            · clear hcm HN
              cases htk : Lex.tokAt (s.data.toList.drop p) with
              | bad er =>
                have HE : Hid (Lex.tail s.data.toList 0 20000 = .err p er) := by
                  show _ = _
                  rw [← HT.out, Lex.tail_bad (by rw [← HP.out]; exact htk), Lex.preL_err, ← HP.out]
                have hne := tokAt_bad htk
                have hne0 : (er == 0) = false := by rw [beq_eq_false_iff_ne]; exact bne_iff_ne.1 hne
                rw [htk] at hT
                have hT2 : ∀ wx, Calls Tryd.prog 21 #[.string s, .int .i64 (p : Int)] wx fun e w' => e = .returned (.tuple #[.agg #[.int .i64 0, .string ⟨#[]⟩, .int .i64 0, .int .i64 0, .int .i64 0, .int .i64 0], .int .i64 er]) ∧ wx.grownBy w' none := hT
                clear htk HT hT
                go_wp2_with (go_at_call 21; refine (hT2 _).mono ?_; rintro e w1 ⟨rfl, hg1⟩)
                go_ret3
                refine ⟨?_, galloc ((galloc hG _).trans hg1) _⟩
                rw [HE.out]
                exact ⟨rfl, bne_iff_ne.1 hne⟩
              | tok kd nn t len =>
                have hcase := (Lex.tokAt_tok htk).resolve_left (fun hh => by have := congrArg List.length hh.1; rw [List.length_drop, List.length_nil] at this; omega)
                have HK : Hid (Lex.tokAt (s.data.toList.drop (i + Lex.skp false (s.data.toList.drop i))) = .tok kd nn t len) := Lib.hid (by rw [← HP.out]; exact htk)
                have hle : p + len ≤ s.size := by
                  have := Lex.tokAt_len htk
                  rw [List.length_drop] at this
                  omega
                obtain ⟨x, hx9⟩ : ∃ x, x = s.extract p (p + len) := ⟨_, rfl⟩
                have hxs : x.size = len := by
                  have e1 : x.data.toList.length = x.size := Array.length_toList
                  rw [← e1, hx9, ext_list, List.length_take, List.length_drop]
                  omega
                rw [htk] at hT
                have hT2 : ∀ wx, Calls Tryd.prog 21 #[.string s, .int .i64 (p : Int)] wx fun e w' => e = .returned (.tuple #[.agg #[.int .i64 kd, .string x, .int .i64 nn, .int .i64 t, .int .i64 0, .int .i64 (p : Int)], .int .i64 0]) ∧ wx.grownBy w' none :=
                  fun wx => (hT wx).mono fun e w' hh => ⟨by rw [hx9]; exact hh.1.1, hh.2⟩
                obtain ⟨tk, htk2⟩ : ∃ tk : Lex.Tk, tk = ⟨kd, (s.data.toList.drop p).take len, nn, t, p⟩ := ⟨_, rfl⟩
                have HX : Hid (Lex.cells tk = [.int .i64 kd, .string x, .int .i64 nn, .int .i64 t, .int .i64 0, .int .i64 (p : Int)]) := by
                  show _ = _
                  rw [htk2, hx9, ext_mk]; rfl
                have HTK := Lib.hid htk2
                have HXS := Lib.hid hxs
                clear htk htk2 hx9 hxs hT
                by_cases hf : acc.length = 20000
                · have hf2 : 20000 ≤ acc.length := by omega
                  have HE : Hid (Lex.tail s.data.toList 0 20000 = .err p 2) := by
                    show _ = _
                    rw [← HT.out, hf, Lex.tail_full HK.out, Lex.preL_err, ← HP.out]
                  clear HT hf
                  go_wp2_with (go_at_call 21; refine (hT2 _).mono ?_; rintro e w1 ⟨rfl, hg1⟩; refine Hid.out ?_)
                  have h6 : Six w1 wr.heap.size := ((Tkb.new wr _ _ _ _ _ _).kept hg1 (by simp)).six
                  obtain ⟨⟨x0, c0⟩, ⟨x1, c1⟩, ⟨x2, c2⟩, ⟨x3, c3⟩, ⟨x4, c4⟩, ⟨x5, c5⟩⟩ := h6.c
                  have f0 := h6.f 0
                  have f1 := h6.f 1
                  have f2 := h6.f 2
                  have f3 := h6.f 3
                  have f4 := h6.f 4
                  have f5 := h6.f 5
                  have hlt7 : wr.heap.size < w1.heap.size := by have := hg1.size; rw [World.size_alloc] at this; omega
                  refine Lib.hid ?_
                  go_wp2
                  go_ret3
                  refine ⟨?_, ?_⟩
                  · rw [HE.out]
                    exact ⟨rfl, by decide⟩
                  · go_light
                    exact galloc (stored6 ((galloc hG _).trans hg1) hG.size) _
                · have hf2 : ¬ 20000 ≤ acc.length := by omega
                  have HE : Hid (Lex.preL (acc ++ [tk]) (Lex.tail s.data.toList (p + len) (20000 - (acc ++ [tk]).length)) = Lex.tail s.data.toList 0 20000) := by
                    show _ = _
                    rw [← HT.out, Lex.tail_tok HK.out (by omega) hcase.2.1, Lex.preL_snoc, HTK.out, ← HP.out]
                    simp only [List.length_append, List.length_cons, List.length_nil, Nat.zero_add, Nat.sub_sub]
                  have h52 : (kd == 5) = false := by rw [beq_eq_false_iff_ne]; exact hcase.2.1
                  have hpos : 0 < len := hcase.2.2
                  have hxle : p + x.size ≤ s.size := by rw [HXS.out]; exact hle
                  clear HT HK hcase hf
                  go_wp2_with (go_at_call 21; refine (hT2 _).mono ?_; rintro e w1 ⟨rfl, hg1⟩; refine Hid.out ?_)
                  obtain ⟨W6, hW6⟩ : ∃ W6, W6 = (((((w1.setCell ⟨wr.heap.size, 0, none⟩ (.int .i64 kd)).setCell ⟨wr.heap.size, 1, none⟩ (.string x)).setCell ⟨wr.heap.size, 2, none⟩ (.int .i64 nn)).setCell ⟨wr.heap.size, 3, none⟩ (.int .i64 t)).setCell ⟨wr.heap.size, 4, none⟩ (.int .i64 0)).setCell ⟨wr.heap.size, 5, none⟩ (.int .i64 (p : Int)) := ⟨_, rfl⟩
                  have hg6 : wr.grownBy W6 none := by rw [hW6]; exact stored6 ((World.grownBy_alloc wr _ none).trans hg1) (Nat.le_refl _)
                  have hT6 : Tkb W6 wr.heap.size (.int .i64 kd) (.string x) (.int .i64 nn) (.int .i64 t) (.int .i64 0) (.int .i64 (p : Int)) := by rw [hW6]; exact stored6_tkb ((Tkb.new wr _ _ _ _ _ _).kept hg1 (by simp)).six
                  have hs6 : w1.heap.size = W6.heap.size := by rw [hW6]; simp
                  have HW6 := Lib.hid hW6
                  have HG6 := Lib.hid hg6
                  have HT6 := Lib.hid hT6
                  have HS6 := Lib.hid hs6
                  clear hW6 hg6 hT6 hs6
                  have h6 : Six w1 wr.heap.size := ((Tkb.new wr _ _ _ _ _ _).kept hg1 (by simp)).six
                  obtain ⟨⟨x0, c0⟩, ⟨x1, c1⟩, ⟨x2, c2⟩, ⟨x3, c3⟩, ⟨x4, c4⟩, ⟨x5, c5⟩⟩ := h6.c
                  have f0 := h6.f 0
                  have f1 := h6.f 1
                  have f2 := h6.f 2
                  have f3 := h6.f 3
                  have f4 := h6.f 4
                  have f5 := h6.f 5
                  have hlt7 : wr.heap.size < w1.heap.size := by have := hg1.size; rw [World.size_alloc] at this; omega
                  refine Lib.hid ?_
                  go_wp2_with (at_builtin; refine Hid.out ?_)
                  rw [← HW6.out]
                  have hown6 := hown.kept HG6.out (by cases u5.ownBlock <;> simp)
                  have hsz6 := HG6.out.size
                  have hszw := hG.size
                  have hw16 := HS6.out
                  refine Lib.hid ?_
                  refine wpList_append_own _ rfl _ _ 23 rfl w.heap.size 30 it _ 6 56 Tryd.underlying23 hit hz hsz hby rfl (by decide) _ acc.length (Lex.row acc) rfl ((hown6.alloc _).alloc _) ⟨w1.heap.size + 1, 0, none⟩ 1 1 [.int .i64 kd, .string x, .int .i64 nn, .int .i64 t, .int .i64 0, .int .i64 (p : Int)] rfl rfl ?_ (six_one _ _ _ _ _ _) ?_ ?_ ?_ ?_
                  · rw [HS6.out]; exact cell_six_new2 _ _ _ _ _ _ _ _ _
                  · unfold maxLen; omega
                  · omega
                  · simp only [World.size_alloc]; omega
                  intro v' w3 hown' hgrow3 _
                  have hT3 : Tkb w3 wr.heap.size (.int .i64 kd) (.string x) (.int .i64 nn) (.int .i64 t) (.int .i64 0) (.int .i64 (p : Int)) :=
                    ((HT6.out.kept (World.grownBy_alloc _ _ none) (by simp)).kept (World.grownBy_alloc _ _ none) (by simp)).kept hgrow3 (fun e => by have := hown.lt _ e.symm; omega)
                  have t0 := hT3.c.1
                  have t1 := hT3.c.2.1
                  have hg3 : w.grownBy w3 none := (galloc (galloc (hG.trans HG6.out) _) _).andThen hgrow3 (fun j e => .inl (hown.lt j e).1)
                  have hrow : Lex.row acc ++ [.int .i64 kd, .string x, .int .i64 nn, .int .i64 t, .int .i64 0, .int .i64 (p : Int)] = Lex.row (acc ++ [tk]) := by rw [Lex.row_snoc, HX.out]
                  have hlen2 : (acc ++ [tk]).length = acc.length + 1 := by simp
                  rw [hrow, ← hlen2] at hown'
                  have HO := Lib.hid hown'
                  clear hown' hrow hT3 c0 c1 c2 c3 c4 c5 f0 f1 f2 f3 f4 f5 hw16 hown6
                  go_wp2
                  go_light
                  refine ⟨⟨acc ++ [tk], p + len, hle, by rw [← HXS.out]; go_num, by omega, HO.out, hg3, HE⟩, ?_⟩
                  have e9 := HXS.out
                  simp only [intOf]
                  omega
      · have HP : Hid (p = i + Lex.skp false (s.data.toList.drop i)) := by
          have e1 := H2.out
          have e2 := Lex.skp_end (l := s.data.toList) (j := p) (by omega)
          exact Lib.hid (by omega)
        clear H2
        have hnil : s.data.toList.drop p = [] := List.drop_eq_nil_of_le (by omega)
        have htk : Lex.tokAt (s.data.toList.drop (i + Lex.skp false (s.data.toList.drop i))) = .tok 5 0 0 0 := by rw [← HP.out, hnil]; rfl
        by_cases hf : acc.length = 20000
        · have hf2 : 20000 ≤ acc.length := by omega
          have HE : Hid (Lex.tail s.data.toList 0 20000 = .err p 2) := by
            show _ = _
            rw [← HT.out, hf, Lex.tail_full htk, Lex.preL_err, ← HP.out]
          clear HT hf htk hnil
          go_wp2
          go_ret3
          refine ⟨?_, galloc hG _⟩
          rw [HE.out]
          exact ⟨rfl, by decide⟩
        · have hf2 : ¬ 20000 ≤ acc.length := by omega
          obtain ⟨tk, htk2⟩ : ∃ tk : Lex.Tk, tk = ⟨5, [], 0, 0, p⟩ := ⟨_, rfl⟩
          have HX : Hid (Lex.cells tk = [.int .i64 5, .string ⟨#[]⟩, .int .i64 0, .int .i64 0, .int .i64 0, .int .i64 (p : Int)]) := by
            show _ = _
            rw [htk2]; rfl
          have HE : Hid (Lex.tail s.data.toList 0 20000 = .ok (acc ++ [tk])) := by
            show _ = _
            rw [← HT.out, Lex.tail_end htk (by omega), Lex.preL_ok, htk2, ← HP.out]
          clear HT htk hnil htk2
          go_wp2_with (at_builtin; refine wpList_append_own _ rfl _ _ 23 rfl w.heap.size 30 it _ 6 56 Tryd.underlying23 hit hz hsz hby rfl (by decide) _ acc.length (Lex.row acc) rfl ((hown.alloc _).alloc _) ⟨wr.heap.size + 1, 0, none⟩ 1 1 [.int .i64 5, .string ⟨#[]⟩, .int .i64 0, .int .i64 0, .int .i64 0, .int .i64 (p : Int)] rfl rfl (cell_six_new2 _ _ _ _ _ _ _ _ _) (six_one _ _ _ _ _ _) ?_ ?_ ?_ ?_)
          · unfold maxLen; omega
          · omega
          · have := hG.size; first | (simp only [World.size_alloc]; omega) | omega
          intro v' w3 hown' hgrow3 _
          have hT3 : Tkb w3 wr.heap.size (.int .i64 5) (.string ⟨#[]⟩) (.int .i64 0) (.int .i64 0) (.int .i64 0) (.int .i64 (p : Int)) :=
            ((Tkb.new wr _ _ _ _ _ _).kept (World.grownBy_alloc _ _ none) (by simp)).kept hgrow3 (fun e => by have := hown.lt _ e.symm; omega)
          have t0 := hT3.c.1
          have hg3 : w.grownBy w3 none := (galloc (galloc hG _) _).andThen hgrow3 (fun j e => .inl (hown.lt j e).1)
          have hrow : Lex.row acc ++ [.int .i64 5, .string ⟨#[]⟩, .int .i64 0, .int .i64 0, .int .i64 0, .int .i64 (p : Int)] = Lex.row (acc ++ [tk]) := by rw [Lex.row_snoc, HX.out]
          have hlen2 : (acc ++ [tk]).length = acc.length + 1 := by simp
          rw [hrow, ← hlen2] at hown'
          have HO := Lib.hid hown'
          clear hown' hrow hT3
          go_wp2
          go_ret3
          refine ⟨?_, hg3⟩
          rw [HE.out]
          exact ⟨_, rfl, HO.out⟩

/-- the document's own Tokens, of every text -/
theorem rtokens_any (s : ByteArray) (w : World) :
    Calls Tryd.prog 11 #[.string s] w fun e w' => ∃ v a er, e = .returned (.tuple #[v, .int .i64 a, .int .i64 er]) ∧ tkRel w.heap.size (Lex.tokens s.data.toList) v a er w' ∧ w.grownBy w' none := by
  have hsz : s.data.toList.length = s.size := by simp
  by_cases hs : 65536 < s.size
  · have ht : Lex.tokens s.data.toList = .err 0 2 := by unfold Lex.tokens; rw [if_pos (by omega)]
    rw [ht]
    have hd : decide ((65536 : Int) < (s.size : Int)) = true := by rw [decide_eq_true_iff]; omega
    go_enter Tryd.func11, Tryd.ntmps11
    go_wp2
    go_ret3
    exact ⟨_, _, _, rfl, ⟨rfl, rfl, rfl, by decide⟩, World.grownBy.refl _ _⟩
  · have ht : Lex.tokens s.data.toList = Lex.tail s.data.toList 0 20000 := by unfold Lex.tokens; rw [if_neg (by omega)]; rfl
    rw [ht]
    refine (rtokens_some s (by omega) w).mono fun e w' hh => ?_
    obtain ⟨v, a, er, he, hr⟩ := tkPost_form hh.1
    exact ⟨v, a, er, he, hr, hh.2⟩

end Go.Proofs.YtbiplgidlmbbkaaDoor
