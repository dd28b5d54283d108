/- GramBrackets' walk. -/
import Derived.Test.YtjcdkgjfecnkgaaGreatDoorGwD
import Derived.Test.YtjcdkgjfecnkgaaGreatDoorGwE
namespace Go.Proofs.YtjcdkgjfecnkgaaGreatDoor
open Go.RowKit Go.Maps Go.WideMaps

theorem bba_len (x : ByteArray) : x.data.toList.length = x.size := by simp
theorem bba_app (x y : ByteArray) : (x ++ y).data.toList = x.data.toList ++ y.data.toList := by simp

set_option maxHeartbeats 3200000 in
theorem gw_out (s : ByteArray) (n : Int) (hs : s.size ≤ maxLen) (w : World) (hl : LaidG w) (hn : (1000 : Int) < s.size ∨ n < 1 ∨ 5 < n) : Calls Tryz.prog 8 #[.string s, .int .i64 n] w fun e w' => e = .returned (.bool true) ∧ w.grownBy w' none := by
  unfold maxLen at hs
  have hal := alive_any w hl
  go_enter Tryz.func8, Tryz.ntmps8
  go_wp2_with (go_at_call 9; refine hal.mono ?_; rintro e w1 ⟨rfl, hg1⟩; refine Hid.out ?_)
  clear hal
  have HG := Lib.hid hg1
  clear hg1
  refine Lib.hid ?_
  go_wp2
  all_goals (go_ret; exact ⟨rfl, HG.out⟩)

/-- the node's items in memory -/
theorem brCells {W : World} {N : Gram.Node} {r : List Gram.Node} {a : Option Addr} {L c : Nat} (h : RepC W 0 [] (.l 49 6 ((N :: r).map nodeD)) (.slice a L c)) :
    ∃ g b d, a = some ⟨g, 0, none⟩ ∧ W.cell? ⟨g, 4, none⟩ = some (.slice b N.items.length d) ∧ N.items.length ≤ maxLen := by
  obtain ⟨g, cc, e⟩ := h.lies (by simp)
  cases e
  obtain ⟨vs, hv, q⟩ := h.rowAt (rows_map nodeD_len _) 0 rfl
  obtain ⟨x1, rfl, h_1⟩ := RepRow.cInv hv
  obtain ⟨b1, m1, k1, x2, rfl, _, h_2⟩ := h_1.lInv
  obtain ⟨b2, m2, k2, x3, rfl, _, h_3⟩ := h_2.lInv
  obtain ⟨b3, m3, k3, x4, rfl, _, h_4⟩ := h_3.lInv
  obtain ⟨b4, m4, k4, x5, rfl, hI, h_5⟩ := h_4.lInv
  obtain ⟨_, _, e4⟩ := RepC.len hI
  have h6 := RepC.small hI
  rw [itemsD_map, List.length_map] at e4 h6
  cases e4
  exact ⟨g, b4, k4, rfl, q 4 _ rfl, h6⟩

theorem brText (s A : ByteArray) (t : Nat) (h : A.data.toList = List.replicate t 40 ++ s.data.toList ++ List.replicate t 41) : ((⟨#[110, 111, 100, 101, 32, 102, 40, 41, 32, 114, 101, 116, 117, 114, 110, 115, 32, 40, 122, 58, 32, 105, 56, 41, 32, 108, 101, 116, 32, 122, 32, 61, 32]⟩ : ByteArray) ++ A ++ ⟨#[59, 32, 116, 101, 108]⟩).data.toList = Lex.headL ++ (List.replicate t 40 ++ s.data.toList ++ List.replicate t 41) ++ [59, 32, 116, 101, 108] := by
  rw [bba_app, bba_app, h]; rfl
theorem brStep {s A : ByteArray} {t : Nat} (h : A.data.toList = List.replicate t 40 ++ s.data.toList ++ List.replicate t 41) : ((⟨#[40]⟩ : ByteArray) ++ A ++ ⟨#[41]⟩).data.toList = List.replicate (t + 1) 40 ++ s.data.toList ++ List.replicate (t + 1) 41 := by
  rw [bba_app, bba_app, h]
  show 40 :: (List.replicate t 40 ++ s.data.toList ++ List.replicate t 41) ++ [41] = _
  rw [List.replicate_succ, List.replicate_succ' (n := t) (a := (41 : UInt8))]
  simp

set_option maxHeartbeats 6400000 in
set_option maxRecDepth 20000 in
theorem gw_in (s : ByteArray) (n : Nat) (w : World) (hl : LaidG w) (hs : s.size ≤ 1000) (hn1 : 1 ≤ n) (hn : n ≤ 5) : Calls Tryz.prog 8 #[.string s, .int .i64 (n : Int)] w fun e w' => e = .returned (.bool true) ∧ w.grownBy w' none := by
  have d1 : decide ((1000 : Int) < s.size) = false := by rw [decide_eq_false_iff_not]; omega
  have d2 : decide ((n : Int) < 1) = false := by rw [decide_eq_false_iff_not]; omega
  have d3 : decide ((5 : Int) < n) = false := by rw [decide_eq_false_iff_not]; omega
  have hal := alive_any w hl
  go_enter Tryz.func8, Tryz.ntmps8
  go_wp2_with (go_at_call 9; refine hal.mono ?_; rintro e w1 ⟨rfl, hg1⟩; refine Hid.out ?_)
  have hl1 := hl.on hg1
  clear hal
  have HG := Lib.hid hg1
  clear hg1
  refine Lib.hid ?_
  go_wp2
  go_loop [6] (fun iv => ∃ t : Nat, t ≤ 1000 ∧ iv = .int .i64 (t : Int) ∧ Hid (∀ i, i < t → ¬ (Lex.pk s.data.toList i = 45 ∧ Lex.pk s.data.toList (i + 1) = 45))) (fun i => 1001 - (intOf i).toNat)
  case atStart => exact ⟨0, Nat.zero_le _, rfl, Lib.hid (fun i h => by omega)⟩
  case round =>
    obtain ⟨t, ht, rfl, HD⟩ := hrel
    by_cases hlt : t + 1 < s.size
    · have i1 := fun wx => idx_str s t (by omega) (t : Int) rfl wx
      have i2 := fun wx => idx_str s (t + 1) (by omega) ((t : Int) + 1) (by omega) wx
      have hdec : decide ((t : Int) + 1 < s.size) = true := by rw [decide_eq_true_iff]; omega
      have HI : Hid (∀ z, z = Lex.pk s.data.toList t → ∀ y, y = Lex.pk s.data.toList (t + 1) → ¬ (z = 45 ∧ y = 45) → ∀ i, i < t + 1 → ¬ (Lex.pk s.data.toList i = 45 ∧ Lex.pk s.data.toList (i + 1) = 45)) := Lib.hid (by
        intro z hz y hy h i hi
        by_cases h2 : i < t
        · exact HD.out i h2
        · have e : i = t := by omega
          subst e; rw [← hz, ← hy]; exact h)
      obtain ⟨p, hp⟩ : ∃ p, p = Lex.pk s.data.toList t := ⟨_, rfl⟩
      obtain ⟨q, hq⟩ : ∃ q, q = Lex.pk s.data.toList (t + 1) := ⟨_, rfl⟩
      have HP := Lib.hid hp
      have HQ := Lib.hid hq
      rw [← hp] at i1
      rw [← hq] at i2
      clear hp hq HD
      by_cases h1 : p = 45
      · by_cases h2 : q = 45
        · have b1 : ((p : Int) == 45) = true := by rw [beq_iff_eq]; omega
          have b2 : ((q : Int) == 45) = true := by rw [beq_iff_eq]; omega
          clear h1 h2
          go_wp2
          go_ret
          exact ⟨rfl, HG.out⟩
        · have b1 : ((p : Int) == 45) = true := by rw [beq_iff_eq]; omega
          have b2 : ((q : Int) == 45) = false := by rw [beq_eq_false_iff_ne]; omega
          have HE := Lib.hid (HI.out p HP.out q HQ.out (fun h => h2 h.2))
          clear h1 h2
          go_wp2
          exact ⟨⟨t + 1, by omega, by go_num, HE⟩, by simp [intOf]; omega⟩
      · have b1 : ((p : Int) == 45) = false := by rw [beq_eq_false_iff_ne]; omega
        have HE := Lib.hid (HI.out p HP.out q HQ.out (fun h => h1 h.1))
        clear h1
        go_wp2
        exact ⟨⟨t + 1, by omega, by go_num, HE⟩, by simp [intOf]; omega⟩
    · have hdec : decide ((t : Int) + 1 < s.size) = false := by rw [decide_eq_false_iff_not]; omega
      have HN : Hid (Lex.noDash s.data.toList) := Lib.hid (by
        intro i h
        by_cases h2 : i < t
        · exact HD.out i h2 h
        · have e : Lex.pk s.data.toList (i + 1) = 0 := Lex.pk_ge (by rw [bba_len]; omega)
          rw [e] at h
          exact absurd h.2 (by decide))
      clear HD hlt
      have pz := fun wx => run_string_add_sum (P := Tryz.prog) wx ⟨#[110, 111, 100, 101, 32, 102, 40, 41, 32, 114, 101, 116, 117, 114, 110, 115, 32, 40, 122, 58, 32, 105, 56, 41, 32, 108, 101, 116, 32, 122, 32, 61, 32]⟩ s (by show 33 + s.size ≤ _; omega)
      have hA0 : s.data.toList = List.replicate 0 40 ++ s.data.toList ++ List.replicate 0 41 := by simp
      have ht0 := brText s s 0 hA0
      rw [show List.replicate 0 (40 : UInt8) ++ s.data.toList ++ List.replicate 0 41 = s.data.toList by simp] at ht0
      cases hp : Gram.parse (Lex.headL ++ s.data.toList ++ [59, 32, 116, 101, 108]) with
      | fuel => exact absurd hp (Gram.parse_any _)
      | bad a er =>
        have hpb : ∀ TX : ByteArray, TX.data.toList = Lex.headL ++ s.data.toList ++ [59, 32, 116, 101, 108] → Gram.parse TX.data.toList = .bad a er := fun TX e => by rw [e]; exact hp
        clear hp
        go_wp2_with (first | (go_at_call 10; refine (gparse_bad (hpb _ ht0) _ hl1).mono ?_; rintro e w2 ⟨rfl, hg2⟩; refine Hid.out ?_))
        have HG2 := Lib.hid (galloc (HG.out.trans hg2) (.cells #[.slice none 0 0] 25))
        have z0 := cell_alloc_zero w2 (.slice none 0 0) 25
        clear hg2
        refine Lib.hid ?_
        go_wp2_with (go_at_call 13; refine (num_any _ _).mono ?_; rintro e w' ⟨rfl, rfl⟩)
        all_goals (go_ret; exact ⟨rfl, HG2.out⟩)
      | ok l =>
        have hpo : ∀ TX : ByteArray, TX.data.toList = Lex.headL ++ s.data.toList ++ [59, 32, 116, 101, 108] → Gram.parse TX.data.toList = .ok l := fun TX e => by rw [e]; exact hp
        have HPR := Lib.hid hp
        clear hp
        go_wp2_with (first | (go_at_call 10; refine (gparse_ok (hpo _ ht0) _ hl1).mono ?_; rintro e w2 ⟨v1, rfl, k1, hg2⟩; obtain ⟨va, vn, vc, rfl⟩ := k1.form; refine Hid.out ?_))
        have hA2 := World.grownBy_alloc w2 (.cells #[.slice va vn vc] 25) none
        have HG2 := Lib.hid ((HG.out.trans hg2).trans hA2)
        have hl2 := (hl1.on hg2).on hA2
        have z0 := cell_alloc_zero w2 (.slice va vn vc) 25
        have x1 := RepC.mono (Nat.zero_le _) (RepC.kept hA2 (fun k e => by cases e) k1)
        obtain ⟨_, _, e1⟩ := RepC.len x1
        rw [List.length_map] at e1
        cases e1
        clear hg2 hA2 k1 hpo
        by_cases hone : l.length = 1
        · obtain ⟨N, rfl⟩ : ∃ N, l = [N] := by
            match l, hone with
            | [N], _ => exact ⟨N, rfl⟩
          clear hone
          obtain ⟨g, b4, d4, rfl, q4, hIm⟩ := brCells x1
          simp only [List.length_cons, List.length_nil, Nat.zero_add] at z0 x1 HG2 hl2 q4 ⊢
          by_cases hit : N.items.length = 1
          · obtain ⟨e, hN, hbr⟩ := Gram.parse_brks (by rw [bba_len]; exact hs) HN.out HPR.out hit
            have hbr' := hbr n hn
            rw [hit] at q4
            have HB := Lib.hid hbr'
            clear hbr hbr' HPR hit hIm
            refine Lib.hid ?_
            go_wp2_with (go_at_call 13; refine (num_any _ _).mono ?_; rintro e w' ⟨rfl, rfl⟩)
            obtain ⟨W, hW⟩ : ∃ W, W = w2.alloc (.cells #[.slice (some ⟨g, 0, none⟩) 1 vc] 25) := ⟨_, rfl⟩
            obtain ⟨p1, hp1⟩ : ∃ p, p = w2.heap.size := ⟨_, rfl⟩
            rw [← hW] at HG2 hl2 z0 x1 q4 ⊢
            rw [← hp1] at z0 ⊢
            clear hW hp1 q4
            have HX := Lib.hid x1
            clear x1
            go_loop [11, 12] (fun sv iv => ∃ (t : Nat) (A : ByteArray), t ≤ n ∧ iv = .int .i64 (t : Int) ∧ sv = .string A ∧ Hid (A.data.toList = List.replicate t 40 ++ s.data.toList ++ List.replicate t 41)) (fun _ i => n - (intOf i).toNat)
            case atStart => exact ⟨0, s, Nat.zero_le _, rfl, rfl, Lib.hid (by simp)⟩
            case round =>
              obtain ⟨t, A, ht, rfl, rfl, HA⟩ := hrel
              have hA : A.size ≤ 1100 := by
                rw [← bba_len, HA.out]
                simp only [List.length_append, List.length_replicate, bba_len]
                omega
              by_cases hlt : t < n
              · have HA2 := Lib.hid (brStep HA.out)
                go_wp2
                exact ⟨⟨t + 1, _, by omega, by go_num, rfl, HA2⟩, by simp [intOf]; omega⟩
              · have e : n = t := by omega
                subst e
                have ht1 := brText s A n HA.out
                have pz2 := fun wx => run_string_add_sum (P := Tryz.prog) wx ⟨#[110, 111, 100, 101, 32, 102, 40, 41, 32, 114, 101, 116, 117, 114, 110, 115, 32, 40, 122, 58, 32, 105, 56, 41, 32, 108, 101, 116, 32, 122, 32, 61, 32]⟩ A (by show 33 + A.size ≤ _; omega)
                rcases HB.out with hb | ⟨a2, hb⟩
                · have hpo : ∀ TX : ByteArray, TX.data.toList = Lex.headL ++ (List.replicate n 40 ++ s.data.toList ++ List.replicate n 41) ++ [59, 32, 116, 101, 108] → Gram.parse TX.data.toList = .ok ([N].map (brN n)) := fun TX e => by
                    rw [e, hb, hN]
                    simp [brN, brI, Gram.brNode, Gram.sfarL]
                  clear hb
                  go_wp2_with (first | (go_at_call 10; refine (gparse_ok (hpo _ ht1) _ hl2).mono ?_; rintro e w4 ⟨v2, rfl, k2, hg4⟩; obtain ⟨ua, un, uc, rfl⟩ := k2.form; refine Hid.out ?_))
                  have hA4 := World.grownBy_alloc w4 (.cells #[.slice ua un uc] 25) none
                  have HG4 := Lib.hid ((HG2.out.trans hg4).trans hA4)
                  have z1 := hA4.cell (hg4.cell z0 (by simp)) (by simp)
                  have z2 := cell_alloc_zero w4 (.slice ua un uc) 25
                  have y1 := RepC.kept (hg4.trans hA4) (fun k e => by cases e) HX.out
                  have y2 := RepC.mono (Nat.zero_le _) (RepC.kept hA4 (fun k e => by cases e) k2)
                  obtain ⟨_, _, e2⟩ := RepC.len y2
                  rw [List.length_map, List.length_map] at e2
                  cases e2
                  have HS := Lib.hid (same_br n [N] _ 0 _ _ _ _ 1 (by unfold maxLen; omega) y1 y2 (Lib.hid rfl))
                  simp only [List.length_cons, List.length_nil, Nat.zero_add] at z2 HS HG4 z1
                  clear k2 hg4 hA4 y1 y2 hpo z0
                  refine Lib.hid ?_
                  go_wp2_with (first | (go_at_call 13; refine (num_any _ _).mono ?_; rintro e w' ⟨rfl, rfl⟩) | (go_at_call 14; refine HS.out.mono ?_; rintro e w6 ⟨rfl, hg6⟩))
                  go_ret
                  exact ⟨rfl, HG4.out.trans hg6⟩
                · have hpb : ∀ TX : ByteArray, TX.data.toList = Lex.headL ++ (List.replicate n 40 ++ s.data.toList ++ List.replicate n 41) ++ [59, 32, 116, 101, 108] → Gram.parse TX.data.toList = .bad a2 2 := fun TX e => by rw [e, hb]
                  clear hb
                  go_wp2_with (first | (go_at_call 10; refine (gparse_bad (hpb _ ht1) _ hl2).mono ?_; rintro e w4 ⟨rfl, hg4⟩; refine Hid.out ?_))
                  have HG4 := Lib.hid (galloc (HG2.out.trans hg4) (.cells #[.slice none 0 0] 25))
                  clear hg4
                  refine Lib.hid ?_
                  go_wp2_with (go_at_call 13; refine (num_any _ _).mono ?_; rintro e w' ⟨rfl, rfl⟩)
                  go_ret
                  exact ⟨rfl, HG4.out⟩
          · have hni : ((N.items.length : Int) != 1) = true := by
              rw [bne_iff_ne]; omega
            unfold maxLen at hIm
            generalize N.items.length = M at q4 hni hIm
            clear x1 HPR hit
            refine Lib.hid ?_
            go_wp2_with (go_at_call 13; refine (num_any _ _).mono ?_; rintro e w' ⟨rfl, rfl⟩)
            go_ret
            exact ⟨rfl, HG2.out⟩
        · have hni : ((l.length : Int) != 1) = true := by
            rw [bne_iff_ne]; omega
          generalize l.length = M at z0 hni HG2
          clear x1 HPR hone
          refine Lib.hid ?_
          go_wp2_with (go_at_call 13; refine (num_any _ _).mono ?_; rintro e w' ⟨rfl, rfl⟩)
          go_ret
          exact ⟨rfl, HG2.out⟩

theorem gramBrackets_walk (s : ByteArray) (n : Int) (hs : s.size ≤ maxLen) (w : World) (hl : LaidG w) : Calls Tryz.prog 8 #[.string s, .int .i64 n] w fun e w' => e = .returned (.bool true) ∧ w.grownBy w' none := by
  by_cases hn : (1000 : Int) < s.size ∨ n < 1 ∨ 5 < n
  · exact gw_out s n hs w hl hn
  obtain ⟨m, rfl⟩ : ∃ m : Nat, n = (m : Int) := ⟨n.toNat, by omega⟩
  exact gw_in s m w hl (by omega) (by omega) (by omega)

end Go.Proofs.YtjcdkgjfecnkgaaGreatDoor
