/- The digits of a value with its kind behind are that value's token; and the walk of LexNumbers. -/
import Derived.Test.YtkcgnelebaajlaaDoorLexY
import Derived.Test.YtkcgnelebaajlaaDoorLexS
namespace Go.Proofs.YtkcgnelebaajlaaDoor
open Go.RowKit Go.Maps Go.WideMaps

namespace Lex
def topsL : List (List UInt8) := [[], [], [49, 50, 57], [51, 50, 55, 54, 57], [50, 49, 52, 55, 52, 56, 51, 54, 52, 57], [57, 50, 50, 51, 51, 55, 50, 48, 51, 54, 56, 53, 52, 55, 55, 53, 56, 48, 57], [50, 53, 54], [54, 53, 53, 51, 54], [52, 50, 57, 52, 57, 54, 55, 50, 57, 54], [49, 56, 52, 52, 54, 55, 52, 52, 48, 55, 51, 55, 48, 57, 53, 53, 49, 54, 49, 54]]
def topL (k : Int) : List UInt8 := topsL.getD k.toNat []
def zerosL : List UInt8 := [48, 48, 48, 48, 48, 48, 48, 48, 48, 48, 48, 48, 48, 48, 48, 48, 48, 48, 48, 48, 48]
def kindFacts (k : Int) : Bool :=
  (match kindL k with | [] => false | c :: _ => !digit c && word c) && (kindL k).all word && (kindOf (kindL k) == k) && decide ((kindL k).length ≤ 3) && (tokens (topL k ++ kindL k) == .err 0 11) && (tokens (zerosL ++ kindL k) == .err 0 11) && decide ((topL k).length ≤ 20)
theorem kind_all (k : Int) (h2 : 2 ≤ k) (h9 : k ≤ 9) : kindFacts k = true := by
  rcases top_wid k h2 h9 with rfl | rfl | rfl | rfl | rfl | rfl | rfl | rfl <;> kernel_rfl

theorem spn_all (p : UInt8 → Bool) (l m : List UInt8) (h : ∀ c ∈ l, p c = true) : spn p (l ++ m) = l.length + spn p m := by
  unfold spn
  rw [List.takeWhile_append_of_pos h, List.length_append]
theorem spn_none (p : UInt8 → Bool) {m : List UInt8} (h : ∀ c r, m = c :: r → p c = false) : spn p m = 0 := by
  cases m with
  | nil => rfl
  | cons c r => unfold spn; rw [List.takeWhile_cons, if_neg (by simp [h c r rfl])]; rfl

theorem tokens_num (k : Int) (h2 : 2 ≤ k) (h9 : k ≤ 9) (l : List UInt8) (hd : digits l) (hne : l ≠ []) (hlen : l.length ≤ 20) (htop : (numVal l : Int) ≤ top k) :
    tokens (l ++ kindL k) = .ok [⟨2, l ++ kindL k, Bv.wrp k (wrap64 (numVal l)), k, 0⟩, ⟨5, [], 0, 0, (l ++ kindL k).length⟩] := by
  have hf := kind_all k h2 h9
  simp only [kindFacts, Bool.and_eq_true, decide_eq_true_eq] at hf
  obtain ⟨⟨⟨⟨⟨⟨f1, f2⟩, f3⟩, f4⟩, -⟩, -⟩, -⟩ := hf
  rw [beq_iff_eq] at f3
  have hdl : ∀ c ∈ l, digit c = true := fun c hc => (digit_iff c).2 (hd c hc)
  have s1 : spn digit (l ++ kindL k) = l.length := by
    rw [spn_all _ _ _ hdl, spn_none]
    · rfl
    · intro c r e
      rw [e] at f1
      simp only [Bool.and_eq_true, Bool.not_eq_true'] at f1
      exact f1.1
  have s2 : spn word (kindL k) = (kindL k).length := by
    have := spn_all word (kindL k) [] (fun c hc => List.all_eq_true.1 f2 c hc)
    rw [List.append_nil] at this
    rw [this]; rfl
  have hk0 : ¬ (kindL k).length = 0 := by
    intro hh
    have : kindL k = [] := List.eq_nil_of_length_eq_zero hh
    rw [this] at f1
    cases f1
  have ht : tokAt (l ++ kindL k) = .tok 2 (Bv.wrp k (wrap64 (numVal l))) k (l.length + (kindL k).length) := by
    cases l with
    | nil => exact absurd rfl hne
    | cons c r =>
      have e1 : tokAt (c :: r ++ kindL k) = numTok (c :: r ++ kindL k) := by
        unfold tokAt
        rw [List.cons_append]
        dsimp only
        rw [if_pos (hdl c (by simp))]
      rw [e1]
      unfold numTok
      dsimp only
      rw [s1, List.drop_left, List.take_left, s2, List.take_length, if_neg hk0, f3, if_pos]
      unfold kindOk
      rw [decide_eq_true hlen, decide_eq_true h2, decide_eq_true htop]
      rfl
  have hsk : skp false (l ++ kindL k) = 0 := by
    cases l with
    | nil => exact absurd rfl hne
    | cons c r =>
      have hc := hd c (by simp)
      rw [List.cons_append, skp, if_neg (by rw [blank_iff]; omega), if_neg (by omega)]
  have htot : (l ++ kindL k).length = l.length + (kindL k).length := List.length_append
  unfold tokens
  rw [if_neg (by omega), toks, hsk, List.drop_zero, ht]
  dsimp only
  rw [if_neg (by decide), if_neg (by decide), ← htot, List.take_length, List.drop_length]
  obtain ⟨f, hf⟩ : ∃ f, (l ++ kindL k).length = f + 1 := ⟨(l ++ kindL k).length - 1, by omega⟩
  rw [hf]
  simp only [Nat.zero_add, Nat.add_zero]
  rfl
end Lex

namespace Bv
theorem wrp_bounds (k n : Int) (h2 : 2 ≤ k) (h9 : k ≤ 9) (h : I64 n) : -9223372036854775808 ≤ wrp k n ∧ wrp k n ≤ 9223372036854775807 ∧ (6 ≤ k → k ≤ 8 → 0 ≤ wrp k n ∧ wrp k n ≤ Lex.top k) ∧ (k ≤ 5 → -(Lex.top k) ≤ wrp k n ∧ wrp k n < Lex.top k) := by
  unfold I64 at h
  rcases top_wid k h2 h9 with rfl | rfl | rfl | rfl | rfl | rfl | rfl | rfl <;> simp [wrp, Lex.top] <;> omega
theorem wrp_fix (k n : Int) (h2 : 2 ≤ k) (h9 : k ≤ 9) (h : k ≤ 5 → -(Lex.top k) ≤ n ∧ n < Lex.top k) (h' : 6 ≤ k → k ≤ 8 → 0 ≤ n ∧ n ≤ Lex.top k) : wrp k n = n := by
  rcases top_wid k h2 h9 with rfl | rfl | rfl | rfl | rfl | rfl | rfl | rfl <;> simp [wrp, Lex.top] at h h' ⊢ <;> omega
theorem neg_fix (k N : Int) (h2 : 2 ≤ k) (h5 : k ≤ 5) (h1 : -(Lex.top k) ≤ N) (h0 : N < 0) : wrp k (wrap64 (-N)) = N ∨ wrp k (wrap64 (-N)) = wrap64 (-N) := by
  rcases (show k = 2 ∨ k = 3 ∨ k = 4 ∨ k = 5 by omega) with rfl | rfl | rfl | rfl
  · have e : wrap64 (-N) = -N := wrap_of _ _ 0 (by omega) (by simp [Lex.top] at h1; omega) (by simp [Lex.top] at h1; omega)
    rw [e]; simp [wrp, Lex.top] at h1 ⊢; omega
  · have e : wrap64 (-N) = -N := wrap_of _ _ 0 (by omega) (by simp [Lex.top] at h1; omega) (by simp [Lex.top] at h1; omega)
    rw [e]; simp [wrp, Lex.top] at h1 ⊢; omega
  · have e : wrap64 (-N) = -N := wrap_of _ _ 0 (by omega) (by simp [Lex.top] at h1; omega) (by simp [Lex.top] at h1; omega)
    rw [e]; simp [wrp, Lex.top] at h1 ⊢; omega
  · exact .inr rfl
theorem pos_top (k N : Int) (h2 : 2 ≤ k) (h9 : k ≤ 9) (hb : -9223372036854775808 ≤ N ∧ N ≤ 9223372036854775807) (h6 : 6 ≤ k → k ≤ 8 → 0 ≤ N ∧ N ≤ Lex.top k) (h5 : k ≤ 5 → N < Lex.top k ∧ 0 ≤ N) :
    (((if 0 ≤ N then N.toNat else (N + 18446744073709551616).toNat : Nat) : Int) ≤ Lex.top k) ∧ wrap64 ((if 0 ≤ N then N.toNat else (N + 18446744073709551616).toNat : Nat) : Int) = N := by
  by_cases h0 : 0 ≤ N
  · rw [if_pos h0]
    have e : ((N.toNat : Nat) : Int) = N := Int.toNat_of_nonneg h0
    rw [e]
    refine ⟨?_, wrap_of _ _ 0 (by omega) hb.1 hb.2⟩
    by_cases hk : k ≤ 5
    · have := h5 hk; omega
    · by_cases hk8 : k ≤ 8
      · exact (h6 (by omega) hk8).2
      · have : k = 9 := by omega
        subst this
        simp [Lex.top]; omega
  · rw [if_neg h0]
    have e : (((N + 18446744073709551616).toNat : Nat) : Int) = N + 18446744073709551616 := Int.toNat_of_nonneg (by omega)
    rw [e]
    have h9' : k = 9 := by
      by_cases hk : k ≤ 5
      · have := h5 hk; omega
      · by_cases hk8 : k ≤ 8
        · have := h6 (by omega) hk8; omega
        · omega
    subst h9'
    exact ⟨by simp [Lex.top]; omega, wrap_of _ _ 1 (by omega) hb.1 hb.2⟩
end Bv

theorem hold_idx {P : Program} {ops : Array Oper} {Q : Exit → Act → World → Prop} {d : Option Tmp} {t ty : TypeId} {x y : Operand} {ps : String} {af : Array Edge} {g : Option (Nat × Bool)} {rest : List Oper} {a : Act} {w : World}
    (h : Hid (wpList P ops Q ({ dst := d, op := Op.indexAddr t x y, type := ty, pos := ps, after := af, guard := g } :: rest) a w)) : wpList P ops Q ({ dst := d, op := Op.indexAddr t x y, type := ty, pos := ps, after := af, guard := g } :: rest) a w := h

set_option maxHeartbeats 16000000 in
set_option maxRecDepth 100000 in
theorem lexNumbers_walk (a0 a1 : Int) (w1 : (Lit.int .i64 a1).wf = true) (w : World) (hl : LaidR w) :
    Calls Tryd.prog 4 #[.int .i64 a0, .int .i64 a1] w fun e w' => e = .returned (.bool true) ∧ w.grownBy w' none := by
  by_cases hr : 2 ≤ a0 ∧ a0 ≤ 9
  · obtain ⟨h2, h9⟩ := hr
    obtain ⟨j, rfl⟩ : ∃ j : Nat, a0 = (j : Int) := ⟨a0.toNat, by omega⟩
    have hj10 : (j : Int) < 10 := by omega
    have hI : Bv.I64 a1 := by
      have e1 : IntKind.i64.min = -9223372036854775808 := rfl
      have e2 : IntKind.i64.max = 9223372036854775807 := rfl
      simp only [Lit.wf, e1, e2, Bool.and_eq_true, decide_eq_true_eq] at w1
      exact ⟨by omega, by omega⟩
    have hB := Bv.wrp_bounds (j : Int) a1 h2 h9 hI
    have d1 : decide ((j : Int) < 2) = false := by rw [decide_eq_false_iff_not]; omega
    have d2 : decide (9 < (j : Int)) = false := by rw [decide_eq_false_iff_not]; omega
    obtain ⟨N, hN⟩ : ∃ N, N = Bv.wrp (j : Int) a1 := ⟨_, rfl⟩
    have hW := fun wx => rwrap_any (j : Int) a1 wx
    rw [← hN] at hB hW
    clear hN hI
    have hU := fun wx => runsigned_any N hB.1 hB.2.1 wx
    have hK := fun wx => rkindName_any (j : Int) h2 h9 wx
    have hf := Lex.kind_all (j : Int) h2 h9
    simp only [Lex.kindFacts, Bool.and_eq_true, decide_eq_true_eq] at hf
    obtain ⟨⟨⟨-, f4⟩, f5⟩, f6⟩ := (⟨⟨⟨trivial, hf.1.1.1.2⟩, hf.1.1.2⟩, hf.1.2, hf.2⟩ : ((True ∧ _) ∧ _) ∧ _ ∧ _)
    obtain ⟨kb, hkb⟩ : ∃ kb : ByteArray, kb = ⟨(Lex.kindL (j : Int)).toArray⟩ := ⟨_, rfl⟩
    rw [← hkb] at hK
    have hkl : kb.data.toList = Lex.kindL (j : Int) := by rw [hkb]
    have hks : kb.size ≤ 3 := by
      have h3 : kb.data.toList.length = kb.size := Array.length_toList
      rw [hkl] at h3
      omega
    clear hf hkb
    have hg0 := Lib.hid hB
    have HK : Hid (kb.data.toList = Lex.kindL (j : Int)) := hkl
    have ht5 := beq_iff_eq.1 f5
    have ht6 := beq_iff_eq.1 f6.1
    have HT5 : Hid _ := ht5
    have HT6 : Hid _ := ht6
    have hf7 := f6.2
    clear hkl f5 f6 ht5 ht6
    obtain ⟨tb, htb⟩ : ∃ tb : ByteArray, tb = ⟨(Lex.topL (j : Int)).toArray⟩ := ⟨_, rfl⟩
    have htl : tb.data.toList = Lex.topL (j : Int) := by rw [htb]
    have hts : tb.size ≤ 20 := by
      have h3 : tb.data.toList.length = tb.size := Array.length_toList
      rw [htl] at h3
      omega
    have HTB : Hid (tb = ⟨(Lex.topL (j : Int)).toArray⟩) := htb
    have HTL : Hid (tb.data.toList = Lex.topL (j : Int)) := htl
    clear htb htl hf7 f4
    by_cases h6 : (j : Int) < 6
    · have d3 : decide ((j : Int) < 6) = true := by rw [decide_eq_true_iff]; exact h6
      by_cases hn : N < 0
      · have d4 : decide (N < 0) = true := by rw [decide_eq_true_iff]; exact hn
        have hNm := fun wx => rnumber_neg N hB.1 hn wx
        obtain ⟨T, hTd⟩ : ∃ T, T = Bv.wrp (j : Int) (wrap64 (-N)) := ⟨_, rfl⟩
        have hW2 := fun wx => rwrap_any (j : Int) (wrap64 (-N)) wx
        rw [← hTd] at hW2
        have hfix := Bv.neg_fix (j : Int) N h2 (by omega) (hg0.out.2.2.2 (by omega)).1 hn
        rw [← hTd] at hfix
        have HV : Hid ((((-N).toNat : Nat) : Int) ≤ Lex.top (j : Int) ∧ Bv.wrp (j : Int) (wrap64 (((-N).toNat : Nat) : Int)) = T) := by
          have e : (((-N).toNat : Nat) : Int) = -N := Int.toNat_of_nonneg (by omega)
          have hh := (hg0.out.2.2.2 (by omega)).1
          rw [e, hTd]
          exact ⟨by omega, rfl⟩
        generalize (-N).toNat = v at hNm HV
        clear hTd
        clear hB hg0
        by_cases hTN : T = N
        · have hne : (N != T) = false := by rw [bne_eq_false_iff_eq]; exact hTN.symm
          have heq : (T == N) = true := by rw [beq_iff_eq]; exact hTN
          clear hfix hTN
          go_enter Tryd.func4, Tryd.ntmps4
          go_wp2_with (first | (go_at_call 9; refine (alive_any _ hl).mono ?_; rintro e w1 ⟨rfl, hg1⟩) | (go_at_call 13; refine (hW _).mono ?_; rintro e w' ⟨rfl, hw'⟩; subst hw') | (go_at_call 14; refine (hU _).mono ?_; rintro e w' ⟨⟨d0, rfl, -⟩, hw'⟩; subst hw') | (go_at_call 15; refine (hNm _).mono ?_; rintro e w' ⟨⟨y, rfl, l, hyl, hnum0⟩, hw'⟩; subst hw'; refine Hid.out ?_))
          have hys : 1 ≤ y.size := by
            have h3 : y.data.toList.length = y.size := Array.length_toList
            rw [hyl, List.length_cons] at h3
            omega
          obtain ⟨d, hd⟩ : ∃ d : ByteArray, d = y.extract 1 y.size := ⟨_, rfl⟩
          have hnum : Lex.isNum v d.data.toList := by
            have e : d.data.toList = l := by
              have h3 : y.data.toList.length = y.size := Array.length_toList
              rw [hd]
              have h4 := ext_list y 1 (y.size - 1)
              rw [show 1 + (y.size - 1) = y.size by omega] at h4
              rw [h4, hyl, List.drop_one, List.tail_cons]
              rw [hyl, List.length_cons] at h3
              exact List.take_of_length_le (by omega)
            rw [e]
            exact hnum0
          have hslf : ∀ wx, (Instr.slice 9 (.string y) (some (.int .i64 1)) none none).run Tryd.prog wx = .ok (.string d) wx := by
            intro wx
            rw [run_slice_string_from_if (P := Tryd.prog) wx 9 y .i64 1 Tryd.underlying9, if_pos (by omega), hd]
            rfl
          clear hyl hnum0 hd
          have hds : d.size ≤ 20 := by
            have h3 : d.data.toList.length = d.size := Array.length_toList
            have := hnum.2.2.2
            omega
          have htok : Lex.tokens (d ++ kb).data.toList = .ok [⟨2, d.data.toList ++ Lex.kindL (j : Int), T, (j : Int), 0⟩, ⟨5, [], 0, 0, (d.data.toList ++ Lex.kindL (j : Int)).length⟩] := by
            have e1 : (d ++ kb).data.toList = d.data.toList ++ Lex.kindL (j : Int) := by rw [ByteArray.data_append, Array.toList_append, HK.out]
            rw [e1, Lex.tokens_num (j : Int) h2 h9 _ hnum.1 hnum.2.1 hnum.2.2.2 (by rw [hnum.2.2.1]; exact HV.out.1), hnum.2.2.1, HV.out.2]
          have HT : Hid _ := htok
          clear htok hnum
          refine Lib.hid ?_
          go_wp2_with (go_at_call 16; refine (hK _).mono ?_; rintro e w2 ⟨rfl, hg2⟩; refine Hid.out ?_)
          have hl2 := (hl.on hg1 (by simp)).on hg2 (by simp)
          refine Lib.hid ?_
          go_wp2_with (go_at_call 10; refine (tokens_any _ _ hl2).mono ?_; rintro e w3 ⟨v3, p3, e3, rfl, hrel, hg3⟩; refine Hid.out ?_)
          rw [HT.out] at hrel
          obtain ⟨rfl, rfl, hown⟩ := hrel
          have hl3 := hl2.on hg3 (by simp)
          refine Lib.hid ?_
          go_wp2_with (first | (go_at_call 13; refine (hW2 _).mono ?_; rintro e w' ⟨rfl, hw'⟩; subst hw') | (with_reducible refine hold_idx ?_))
          refine hold_gen (fun W => W.cell? ⟨_, j, none⟩ = some (.string tb) ∧ World.grownBy _ W none) ⟨by rw [HTB.out]; exact row_strings _ Lex.topsL 9 j (by show j < 10; omega), World.grownBy_alloc _ _ none⟩ ?_
          rintro w4 ⟨hcell, hg4⟩
          have hl4 := hl3.on hg4 (by simp)
          go_wp2_with (go_at_call 10; refine (tokens_any _ _ hl4).mono ?_; rintro e w5 ⟨v5, p5, e5, rfl, hrel5, hg5⟩; refine Hid.out ?_)
          rw [show (tb ++ kb).data.toList = Lex.topL (j : Int) ++ Lex.kindL (j : Int) by rw [ByteArray.data_append, Array.toList_append, HK.out, HTL.out], HT5.out] at hrel5
          obtain ⟨rfl, rfl, rfl, -⟩ := hrel5
          have hl5 := hl4.on hg5 (by simp)
          refine Lib.hid ?_
          go_wp2_with (go_at_call 10; refine (tokens_any _ _ hl5).mono ?_; rintro e w6 ⟨v6, p6, e6, rfl, hrel6, hg6⟩; refine Hid.out ?_)
          rw [show (⟨#[48, 48, 48, 48, 48, 48, 48, 48, 48, 48, 48, 48, 48, 48, 48, 48, 48, 48, 48, 48, 48]⟩ ++ kb : ByteArray).data.toList = Lex.zerosL ++ Lex.kindL (j : Int) by rw [ByteArray.data_append, Array.toList_append, HK.out]; rfl, HT6.out] at hrel6
          obtain ⟨rfl, rfl, rfl, -⟩ := hrel6
          have hg36 := (hg4.trans hg5).trans hg6
          have hown6 := hown.kept hg36 (by cases v3.ownBlock <;> simp)
          obtain ⟨g, cap, rfl, hgb, hgl, hcap⟩ := own_form hown6 (by show 0 < 2; decide)
          have c0 : w6.cell? ⟨g, 0, none⟩ = some (.int .i64 2) := hown6.cellAt 0 (by show 0 < 2 * 6; decide)
          have c2 : w6.cell? ⟨g, 2, none⟩ = some (.int .i64 T) := hown6.cellAt 2 (by show 2 < 2 * 6; decide)
          have c3 : w6.cell? ⟨g, 3, none⟩ = some (.int .i64 (j : Int)) := hown6.cellAt 3 (by show 3 < 2 * 6; decide)
          have c4 : w6.cell? ⟨g, 4, none⟩ = some (.int .i64 0) := hown6.cellAt 4 (by show 4 < 2 * 6; decide)
          have hcap2 : (2 : Nat) ≤ cap := hcap
          have hG := ((hg1.trans hg2).trans hg3).trans hg36
          clear hown hown6 hcap hcell
          refine Lib.hid ?_
          go_wp2_with (go_at_call 12; refine (num_any _ _).mono ?_; rintro e w' ⟨rfl, hw'⟩; subst hw')
          go_ret
          exact ⟨rfl, hG⟩
        · have hne : (N != T) = true := by rw [bne_iff_ne]; exact fun h => hTN h.symm
          have hTM : (T == wrap64 (-N)) = true := by rw [beq_iff_eq]; exact hfix.resolve_left hTN
          clear hfix hTN
          go_enter Tryd.func4, Tryd.ntmps4
          go_wp2_with (first | (go_at_call 9; refine (alive_any _ hl).mono ?_; rintro e w1 ⟨rfl, hg1⟩) | (go_at_call 13; refine (hW _).mono ?_; rintro e w' ⟨rfl, hw'⟩; subst hw') | (go_at_call 14; refine (hU _).mono ?_; rintro e w' ⟨⟨d0, rfl, -⟩, hw'⟩; subst hw') | (go_at_call 15; refine (hNm _).mono ?_; rintro e w' ⟨⟨y, rfl, l, hyl, hnum0⟩, hw'⟩; subst hw'; refine Hid.out ?_))
          have hys : 1 ≤ y.size := by
            have h3 : y.data.toList.length = y.size := Array.length_toList
            rw [hyl, List.length_cons] at h3
            omega
          obtain ⟨d, hd⟩ : ∃ d : ByteArray, d = y.extract 1 y.size := ⟨_, rfl⟩
          have hnum : Lex.isNum v d.data.toList := by
            have e : d.data.toList = l := by
              have h3 : y.data.toList.length = y.size := Array.length_toList
              rw [hd]
              have h4 := ext_list y 1 (y.size - 1)
              rw [show 1 + (y.size - 1) = y.size by omega] at h4
              rw [h4, hyl, List.drop_one, List.tail_cons]
              rw [hyl, List.length_cons] at h3
              exact List.take_of_length_le (by omega)
            rw [e]
            exact hnum0
          have hslf : ∀ wx, (Instr.slice 9 (.string y) (some (.int .i64 1)) none none).run Tryd.prog wx = .ok (.string d) wx := by
            intro wx
            rw [run_slice_string_from_if (P := Tryd.prog) wx 9 y .i64 1 Tryd.underlying9, if_pos (by omega), hd]
            rfl
          clear hyl hnum0 hd
          have hds : d.size ≤ 20 := by
            have h3 : d.data.toList.length = d.size := Array.length_toList
            have := hnum.2.2.2
            omega
          have htok : Lex.tokens (d ++ kb).data.toList = .ok [⟨2, d.data.toList ++ Lex.kindL (j : Int), T, (j : Int), 0⟩, ⟨5, [], 0, 0, (d.data.toList ++ Lex.kindL (j : Int)).length⟩] := by
            have e1 : (d ++ kb).data.toList = d.data.toList ++ Lex.kindL (j : Int) := by rw [ByteArray.data_append, Array.toList_append, HK.out]
            rw [e1, Lex.tokens_num (j : Int) h2 h9 _ hnum.1 hnum.2.1 hnum.2.2.2 (by rw [hnum.2.2.1]; exact HV.out.1), hnum.2.2.1, HV.out.2]
          have HT : Hid _ := htok
          clear htok hnum
          refine Lib.hid ?_
          go_wp2_with (go_at_call 16; refine (hK _).mono ?_; rintro e w2 ⟨rfl, hg2⟩; refine Hid.out ?_)
          have hl2 := (hl.on hg1 (by simp)).on hg2 (by simp)
          refine Lib.hid ?_
          go_wp2_with (go_at_call 10; refine (tokens_any _ _ hl2).mono ?_; rintro e w3 ⟨v3, p3, e3, rfl, hrel, hg3⟩; refine Hid.out ?_)
          rw [HT.out] at hrel
          obtain ⟨rfl, rfl, hown⟩ := hrel
          have hl3 := hl2.on hg3 (by simp)
          refine Lib.hid ?_
          go_wp2_with (first | (go_at_call 13; refine (hW2 _).mono ?_; rintro e w' ⟨rfl, hw'⟩; subst hw') | (with_reducible refine hold_idx ?_))
          refine hold_gen (fun W => W.cell? ⟨_, j, none⟩ = some (.string tb) ∧ World.grownBy _ W none) ⟨by rw [HTB.out]; exact row_strings _ Lex.topsL 9 j (by show j < 10; omega), World.grownBy_alloc _ _ none⟩ ?_
          rintro w4 ⟨hcell, hg4⟩
          have hl4 := hl3.on hg4 (by simp)
          go_wp2_with (go_at_call 10; refine (tokens_any _ _ hl4).mono ?_; rintro e w5 ⟨v5, p5, e5, rfl, hrel5, hg5⟩; refine Hid.out ?_)
          rw [show (tb ++ kb).data.toList = Lex.topL (j : Int) ++ Lex.kindL (j : Int) by rw [ByteArray.data_append, Array.toList_append, HK.out, HTL.out], HT5.out] at hrel5
          obtain ⟨rfl, rfl, rfl, -⟩ := hrel5
          have hl5 := hl4.on hg5 (by simp)
          refine Lib.hid ?_
          go_wp2_with (go_at_call 10; refine (tokens_any _ _ hl5).mono ?_; rintro e w6 ⟨v6, p6, e6, rfl, hrel6, hg6⟩; refine Hid.out ?_)
          rw [show (⟨#[48, 48, 48, 48, 48, 48, 48, 48, 48, 48, 48, 48, 48, 48, 48, 48, 48, 48, 48, 48, 48]⟩ ++ kb : ByteArray).data.toList = Lex.zerosL ++ Lex.kindL (j : Int) by rw [ByteArray.data_append, Array.toList_append, HK.out]; rfl, HT6.out] at hrel6
          obtain ⟨rfl, rfl, rfl, -⟩ := hrel6
          have hg36 := (hg4.trans hg5).trans hg6
          have hown6 := hown.kept hg36 (by cases v3.ownBlock <;> simp)
          obtain ⟨g, cap, rfl, hgb, hgl, hcap⟩ := own_form hown6 (by show 0 < 2; decide)
          have c0 : w6.cell? ⟨g, 0, none⟩ = some (.int .i64 2) := hown6.cellAt 0 (by show 0 < 2 * 6; decide)
          have c2 : w6.cell? ⟨g, 2, none⟩ = some (.int .i64 T) := hown6.cellAt 2 (by show 2 < 2 * 6; decide)
          have c3 : w6.cell? ⟨g, 3, none⟩ = some (.int .i64 (j : Int)) := hown6.cellAt 3 (by show 3 < 2 * 6; decide)
          have c4 : w6.cell? ⟨g, 4, none⟩ = some (.int .i64 0) := hown6.cellAt 4 (by show 4 < 2 * 6; decide)
          have hcap2 : (2 : Nat) ≤ cap := hcap
          have hG := ((hg1.trans hg2).trans hg3).trans hg36
          clear hown hown6 hcap hcell
          refine Lib.hid ?_
          go_wp2_with (go_at_call 12; refine (num_any _ _).mono ?_; rintro e w' ⟨rfl, hw'⟩; subst hw')
          go_ret
          exact ⟨rfl, hG⟩
      · have d4 : decide (N < 0) = false := by rw [decide_eq_false_iff_not]; exact hn
        have HV : Hid (((if 0 ≤ N then N.toNat else (N + 18446744073709551616).toNat : Nat) : Int) ≤ Lex.top (j : Int) ∧ Bv.wrp (j : Int) (wrap64 ((if 0 ≤ N then N.toNat else (N + 18446744073709551616).toNat : Nat) : Int)) = N) := by
          have hh := hg0.out
          have hp := Bv.pos_top (j : Int) N h2 h9 ⟨hh.1, hh.2.1⟩ hh.2.2.1 (fun h5 => ⟨(hh.2.2.2 h5).2, by omega⟩)
          refine ⟨hp.1, ?_⟩
          rw [hp.2]
          exact Bv.wrp_fix (j : Int) N h2 h9 hh.2.2.2 hh.2.2.1
        generalize (if 0 ≤ N then N.toNat else (N + 18446744073709551616).toNat) = v at hU HV
        clear hB hg0
        have hW2 := hW
        go_enter Tryd.func4, Tryd.ntmps4
        go_wp2_with (first | (go_at_call 9; refine (alive_any _ hl).mono ?_; rintro e w1 ⟨rfl, hg1⟩) | (go_at_call 13; refine (hW _).mono ?_; rintro e w' ⟨rfl, hw'⟩; subst hw') | (go_at_call 14; refine (hU _).mono ?_; rintro e w' ⟨⟨d, rfl, hnum⟩, hw'⟩; subst hw'; refine Hid.out ?_))
        have hds : d.size ≤ 20 := by
          have h3 : d.data.toList.length = d.size := Array.length_toList
          have := hnum.2.2.2
          omega
        have htok : Lex.tokens (d ++ kb).data.toList = .ok [⟨2, d.data.toList ++ Lex.kindL (j : Int), N, (j : Int), 0⟩, ⟨5, [], 0, 0, (d.data.toList ++ Lex.kindL (j : Int)).length⟩] := by
          have e1 : (d ++ kb).data.toList = d.data.toList ++ Lex.kindL (j : Int) := by rw [ByteArray.data_append, Array.toList_append, HK.out]
          rw [e1, Lex.tokens_num (j : Int) h2 h9 _ hnum.1 hnum.2.1 hnum.2.2.2 (by rw [hnum.2.2.1]; exact HV.out.1), hnum.2.2.1, HV.out.2]
        have HT : Hid _ := htok
        clear htok hnum
        refine Lib.hid ?_
        go_wp2_with (go_at_call 16; refine (hK _).mono ?_; rintro e w2 ⟨rfl, hg2⟩; refine Hid.out ?_)
        have hl2 := (hl.on hg1 (by simp)).on hg2 (by simp)
        refine Lib.hid ?_
        go_wp2_with (go_at_call 10; refine (tokens_any _ _ hl2).mono ?_; rintro e w3 ⟨v3, p3, e3, rfl, hrel, hg3⟩; refine Hid.out ?_)
        rw [HT.out] at hrel
        obtain ⟨rfl, rfl, hown⟩ := hrel
        have hl3 := hl2.on hg3 (by simp)
        refine Lib.hid ?_
        go_wp2_with (first | (go_at_call 13; refine (hW2 _).mono ?_; rintro e w' ⟨rfl, hw'⟩; subst hw') | (with_reducible refine hold_idx ?_))
        refine hold_gen (fun W => W.cell? ⟨_, j, none⟩ = some (.string tb) ∧ World.grownBy _ W none) ⟨by rw [HTB.out]; exact row_strings _ Lex.topsL 9 j (by show j < 10; omega), World.grownBy_alloc _ _ none⟩ ?_
        rintro w4 ⟨hcell, hg4⟩
        have hl4 := hl3.on hg4 (by simp)
        go_wp2_with (go_at_call 10; refine (tokens_any _ _ hl4).mono ?_; rintro e w5 ⟨v5, p5, e5, rfl, hrel5, hg5⟩; refine Hid.out ?_)
        rw [show (tb ++ kb).data.toList = Lex.topL (j : Int) ++ Lex.kindL (j : Int) by rw [ByteArray.data_append, Array.toList_append, HK.out, HTL.out], HT5.out] at hrel5
        obtain ⟨rfl, rfl, rfl, -⟩ := hrel5
        have hl5 := hl4.on hg5 (by simp)
        refine Lib.hid ?_
        go_wp2_with (go_at_call 10; refine (tokens_any _ _ hl5).mono ?_; rintro e w6 ⟨v6, p6, e6, rfl, hrel6, hg6⟩; refine Hid.out ?_)
        rw [show (⟨#[48, 48, 48, 48, 48, 48, 48, 48, 48, 48, 48, 48, 48, 48, 48, 48, 48, 48, 48, 48, 48]⟩ ++ kb : ByteArray).data.toList = Lex.zerosL ++ Lex.kindL (j : Int) by rw [ByteArray.data_append, Array.toList_append, HK.out]; rfl, HT6.out] at hrel6
        obtain ⟨rfl, rfl, rfl, -⟩ := hrel6
        have hg36 := (hg4.trans hg5).trans hg6
        have hown6 := hown.kept hg36 (by cases v3.ownBlock <;> simp)
        obtain ⟨g, cap, rfl, hgb, hgl, hcap⟩ := own_form hown6 (by show 0 < 2; decide)
        have c0 : w6.cell? ⟨g, 0, none⟩ = some (.int .i64 2) := hown6.cellAt 0 (by show 0 < 2 * 6; decide)
        have c2 : w6.cell? ⟨g, 2, none⟩ = some (.int .i64 N) := hown6.cellAt 2 (by show 2 < 2 * 6; decide)
        have c3 : w6.cell? ⟨g, 3, none⟩ = some (.int .i64 (j : Int)) := hown6.cellAt 3 (by show 3 < 2 * 6; decide)
        have c4 : w6.cell? ⟨g, 4, none⟩ = some (.int .i64 0) := hown6.cellAt 4 (by show 4 < 2 * 6; decide)
        have hcap2 : (2 : Nat) ≤ cap := hcap
        have hG := ((hg1.trans hg2).trans hg3).trans hg36
        clear hown hown6 hcap hcell
        refine Lib.hid ?_
        go_wp2_with (go_at_call 12; refine (num_any _ _).mono ?_; rintro e w' ⟨rfl, hw'⟩; subst hw')
        go_ret
        exact ⟨rfl, hG⟩
    · have d3 : decide ((j : Int) < 6) = false := by rw [decide_eq_false_iff_not]; exact h6
      have HV : Hid (((if 0 ≤ N then N.toNat else (N + 18446744073709551616).toNat : Nat) : Int) ≤ Lex.top (j : Int) ∧ Bv.wrp (j : Int) (wrap64 ((if 0 ≤ N then N.toNat else (N + 18446744073709551616).toNat : Nat) : Int)) = N) := by
        have hh := hg0.out
        have hp := Bv.pos_top (j : Int) N h2 h9 ⟨hh.1, hh.2.1⟩ hh.2.2.1 (fun h5 => ⟨(hh.2.2.2 h5).2, by omega⟩)
        refine ⟨hp.1, ?_⟩
        rw [hp.2]
        exact Bv.wrp_fix (j : Int) N h2 h9 hh.2.2.2 hh.2.2.1
      generalize (if 0 ≤ N then N.toNat else (N + 18446744073709551616).toNat) = v at hU HV
      clear hB hg0
      have hW2 := hW
      go_enter Tryd.func4, Tryd.ntmps4
      go_wp2_with (first | (go_at_call 9; refine (alive_any _ hl).mono ?_; rintro e w1 ⟨rfl, hg1⟩) | (go_at_call 13; refine (hW _).mono ?_; rintro e w' ⟨rfl, hw'⟩; subst hw') | (go_at_call 14; refine (hU _).mono ?_; rintro e w' ⟨⟨d, rfl, hnum⟩, hw'⟩; subst hw'; refine Hid.out ?_))
      have hds : d.size ≤ 20 := by
        have h3 : d.data.toList.length = d.size := Array.length_toList
        have := hnum.2.2.2
        omega
      have htok : Lex.tokens (d ++ kb).data.toList = .ok [⟨2, d.data.toList ++ Lex.kindL (j : Int), N, (j : Int), 0⟩, ⟨5, [], 0, 0, (d.data.toList ++ Lex.kindL (j : Int)).length⟩] := by
        have e1 : (d ++ kb).data.toList = d.data.toList ++ Lex.kindL (j : Int) := by rw [ByteArray.data_append, Array.toList_append, HK.out]
        rw [e1, Lex.tokens_num (j : Int) h2 h9 _ hnum.1 hnum.2.1 hnum.2.2.2 (by rw [hnum.2.2.1]; exact HV.out.1), hnum.2.2.1, HV.out.2]
      have HT : Hid _ := htok
      clear htok hnum
      refine Lib.hid ?_
      go_wp2_with (go_at_call 16; refine (hK _).mono ?_; rintro e w2 ⟨rfl, hg2⟩; refine Hid.out ?_)
      have hl2 := (hl.on hg1 (by simp)).on hg2 (by simp)
      refine Lib.hid ?_
      go_wp2_with (go_at_call 10; refine (tokens_any _ _ hl2).mono ?_; rintro e w3 ⟨v3, p3, e3, rfl, hrel, hg3⟩; refine Hid.out ?_)
      rw [HT.out] at hrel
      obtain ⟨rfl, rfl, hown⟩ := hrel
      have hl3 := hl2.on hg3 (by simp)
      refine Lib.hid ?_
      go_wp2_with (first | (go_at_call 13; refine (hW2 _).mono ?_; rintro e w' ⟨rfl, hw'⟩; subst hw') | (with_reducible refine hold_idx ?_))
      refine hold_gen (fun W => W.cell? ⟨_, j, none⟩ = some (.string tb) ∧ World.grownBy _ W none) ⟨by rw [HTB.out]; exact row_strings _ Lex.topsL 9 j (by show j < 10; omega), World.grownBy_alloc _ _ none⟩ ?_
      rintro w4 ⟨hcell, hg4⟩
      have hl4 := hl3.on hg4 (by simp)
      go_wp2_with (go_at_call 10; refine (tokens_any _ _ hl4).mono ?_; rintro e w5 ⟨v5, p5, e5, rfl, hrel5, hg5⟩; refine Hid.out ?_)
      rw [show (tb ++ kb).data.toList = Lex.topL (j : Int) ++ Lex.kindL (j : Int) by rw [ByteArray.data_append, Array.toList_append, HK.out, HTL.out], HT5.out] at hrel5
      obtain ⟨rfl, rfl, rfl, -⟩ := hrel5
      have hl5 := hl4.on hg5 (by simp)
      refine Lib.hid ?_
      go_wp2_with (go_at_call 10; refine (tokens_any _ _ hl5).mono ?_; rintro e w6 ⟨v6, p6, e6, rfl, hrel6, hg6⟩; refine Hid.out ?_)
      rw [show (⟨#[48, 48, 48, 48, 48, 48, 48, 48, 48, 48, 48, 48, 48, 48, 48, 48, 48, 48, 48, 48, 48]⟩ ++ kb : ByteArray).data.toList = Lex.zerosL ++ Lex.kindL (j : Int) by rw [ByteArray.data_append, Array.toList_append, HK.out]; rfl, HT6.out] at hrel6
      obtain ⟨rfl, rfl, rfl, -⟩ := hrel6
      have hg36 := (hg4.trans hg5).trans hg6
      have hown6 := hown.kept hg36 (by cases v3.ownBlock <;> simp)
      obtain ⟨g, cap, rfl, hgb, hgl, hcap⟩ := own_form hown6 (by show 0 < 2; decide)
      have c0 : w6.cell? ⟨g, 0, none⟩ = some (.int .i64 2) := hown6.cellAt 0 (by show 0 < 2 * 6; decide)
      have c2 : w6.cell? ⟨g, 2, none⟩ = some (.int .i64 N) := hown6.cellAt 2 (by show 2 < 2 * 6; decide)
      have c3 : w6.cell? ⟨g, 3, none⟩ = some (.int .i64 (j : Int)) := hown6.cellAt 3 (by show 3 < 2 * 6; decide)
      have c4 : w6.cell? ⟨g, 4, none⟩ = some (.int .i64 0) := hown6.cellAt 4 (by show 4 < 2 * 6; decide)
      have hcap2 : (2 : Nat) ≤ cap := hcap
      have hG := ((hg1.trans hg2).trans hg3).trans hg36
      clear hown hown6 hcap hcell
      refine Lib.hid ?_
      go_wp2_with (go_at_call 12; refine (num_any _ _).mono ?_; rintro e w' ⟨rfl, hw'⟩; subst hw')
      go_ret
      exact ⟨rfl, hG⟩
  · go_enter Tryd.func4, Tryd.ntmps4
    go_wp2_with (first | (go_at_call 9; refine (alive_any _ hl).mono ?_; rintro e w1 ⟨rfl, hg1⟩) | (go_at_call 13; refine Hid.out ?_))
    all_goals first | (exfalso; omega) | (go_ret; exact ⟨rfl, hg1⟩)

end Go.Proofs.YtkcgnelebaajlaaDoor
