/- How long a name, a list of tokens and a text may be: the tokens of rows of one byte; and the walk of LexLong. -/
import Derived.Test.YtkcgnelebaajlaaDoorLexP
namespace Go.Proofs.YtkcgnelebaajlaaDoor
open Go.RowKit Go.Maps Go.WideMaps

namespace Lex
theorem names_all : ((List.range 61).all fun n => n == 0 || (tokens (List.replicate n 97) == if n ≤ 40 then .ok [⟨1, List.replicate n 97, 0, 0, 0⟩, ⟨5, [], 0, 0, n⟩] else .err 0 2)) = true := by kernel_rfl
theorem names (n : Nat) (h1 : 1 ≤ n) (h2 : n ≤ 60) : tokens (List.replicate n 97) = if n ≤ 40 then .ok [⟨1, List.replicate n 97, 0, 0, 0⟩, ⟨5, [], 0, 0, n⟩] else .err 0 2 := by
  have h := List.all_eq_true.1 names_all n (List.mem_range.2 (by omega))
  rw [Bool.or_eq_true] at h
  rcases h with h | h
  · rw [beq_iff_eq] at h; omega
  · exact beq_iff_eq.1 h

theorem toks_semi : ∀ (k f a room : Nat), k < f → (k < room → ∃ ts, toks f (List.replicate k 59) a room = .ok ts) ∧ (room ≤ k → toks f (List.replicate k 59) a room = .err (a + room) 2)
  | 0, 0, _, _, h => by omega
  | 0, f + 1, a, room, _ => by
    refine ⟨fun hr => ⟨[⟨5, [], 0, 0, a⟩], ?_⟩, fun hr => ?_⟩
    · obtain ⟨r, rfl⟩ : ∃ r, room = r + 1 := ⟨room - 1, by omega⟩
      rfl
    · have : room = 0 := by omega
      subst this
      rfl
  | k + 1, 0, _, _, h => by omega
  | k + 1, f + 1, a, room, h => by
    have hs : skp false (List.replicate (k + 1) 59) = 0 := by rw [List.replicate_succ]; unfold skp; rw [if_neg (by decide), if_neg (fun hh => absurd hh.1 (by decide))]
    have ht : tokAt (List.replicate (k + 1) 59) = .tok 4 0 0 1 := by
      rw [List.replicate_succ]
      have e : signW 59 (pk (59 :: List.replicate k 59) 1) = 1 := by
        unfold signW
        rw [if_neg (by omega), if_pos (by omega)]
      unfold tokAt
      dsimp only
      rw [if_neg (by decide), if_neg (by decide)]
      unfold signTok
      dsimp only
      rw [show pk (59 :: List.replicate k 59) 0 = 59 from rfl, e]
      rfl
    have ih := toks_semi k f (a + 1) (room - 1) (by omega)
    rw [toks, hs, List.drop_zero, ht]
    dsimp only
    by_cases hr : room = 0
    · subst hr
      refine ⟨fun h0 => by omega, fun _ => rfl⟩
    · rw [if_neg hr, if_neg (by decide)]
      rw [show (List.replicate (k + 1) (59 : UInt8)).drop 1 = List.replicate k 59 by rw [List.replicate_succ]; rfl, Nat.add_zero]
      refine ⟨fun h0 => ?_, fun h0 => ?_⟩
      · obtain ⟨ts, e⟩ := ih.1 (by omega)
        rw [e]; exact ⟨_, rfl⟩
      · rw [ih.2 (by omega)]
        show Res.err _ _ = _
        congr 1
        omega
theorem semis (k : Nat) (hk : k ≤ 20010) : (k < 20000 → ∃ ts, tokens (List.replicate k 59) = .ok ts) ∧ (20000 ≤ k → tokens (List.replicate k 59) = .err 20000 2) := by
  unfold tokens
  rw [List.length_replicate, if_neg (by omega)]
  have h := toks_semi k (k + 1) 0 20000 (by omega)
  rw [Nat.zero_add] at h
  exact h
theorem skp_spaces : ∀ n : Nat, skp false (List.replicate n 32) = n
  | 0 => rfl
  | n + 1 => by rw [List.replicate_succ]; unfold skp; rw [if_pos (by decide), skp_spaces n]
theorem spaces (n : Nat) : (n ≤ 65536 → ∃ ts, tokens (List.replicate n 32) = .ok ts) ∧ (65536 < n → tokens (List.replicate n 32) = .err 0 2) := by
  unfold tokens
  rw [List.length_replicate]
  refine ⟨fun h => ?_, fun h => by rw [if_pos h]⟩
  rw [if_neg (by omega), toks, skp_spaces, List.drop_eq_nil_of_le (by simp)]
  exact ⟨_, rfl⟩
end Lex

theorem mk_list (l : List UInt8) : (⟨l.toArray⟩ : ByteArray).data.toList = l := rfl

set_option maxHeartbeats 3200000 in
set_option maxRecDepth 100000 in
theorem lexLong_walk (a0 a1 a2 : Int) (w : World) (hl : LaidR w) :
    Calls Tryd.prog 6 #[.int .i64 a0, .int .i64 a1, .int .i64 a2] w fun e w' => e = .returned (.bool true) ∧ w.grownBy w' none := by
  by_cases hr : 1 ≤ a0 ∧ a0 ≤ 60 ∧ 0 ≤ a1 ∧ a1 ≤ 20010 ∧ 0 ≤ a2 ∧ a2 ≤ 65600
  · obtain ⟨h1, h2, h3, h4, h5, h6⟩ := hr
    obtain ⟨n, rfl⟩ : ∃ n : Nat, a0 = (n : Int) := ⟨a0.toNat, by omega⟩
    obtain ⟨k, rfl⟩ : ∃ k : Nat, a1 = (k : Int) := ⟨a1.toNat, by omega⟩
    obtain ⟨m, rfl⟩ : ∃ m : Nat, a2 = (m : Int) := ⟨a2.toNat, by omega⟩
    have d1 : decide ((n : Int) < 1) = false := by rw [decide_eq_false_iff_not]; omega
    have d2 : decide ((60 : Int) < n) = false := by rw [decide_eq_false_iff_not]; omega
    have d3 : decide ((k : Int) < 0) = false := by rw [decide_eq_false_iff_not]; omega
    have d4 : decide ((20010 : Int) < k) = false := by rw [decide_eq_false_iff_not]; omega
    have d5 : decide ((m : Int) < 0) = false := by rw [decide_eq_false_iff_not]; omega
    have d6 : decide ((65600 : Int) < m) = false := by rw [decide_eq_false_iff_not]; omega
    have H1 : Hid (1 ≤ n ∧ n ≤ 60 ∧ k ≤ 20010 ∧ m ≤ 65600) := ⟨by omega, by omega, by omega, by omega⟩
    clear h1 h2 h3 h4 h5 h6
    go_enter Tryd.func6, Tryd.ntmps6
    go_wp2_with (first | (go_at_call 9; refine (alive_any _ hl).mono ?_; rintro e w1 ⟨rfl, hg1⟩) | (go_at_call 17; refine Hid.out ?_))
    have hf1 : Calls Tryd.prog 17 #[.int .i64 (n : Int), .int .u8 97] w1 _ := fill_any n 97 (by have := H1.out; omega) w1
    have hl1 := hl.on hg1 (by simp)
    refine Lib.hid ?_
    go_wp2_with (go_at_call 17; refine hf1.mono ?_; rintro e w2 ⟨rfl, ho2, hg2⟩; refine Hid.out ?_)
    have hc2 := fill_text n 97 w1.heap.size w1.heap.size w2 ho2
    have hl2 := hl1.on hg2 (by simp)
    refine Lib.hid ?_
    go_wp2_with (first | (go_at_call 10; refine (tokens_any _ _ hl2).mono ?_; rintro e w3 ⟨v1, p1, e1, rfl, hrel1, hg3⟩; refine Hid.out ?_))
    have hl3 := hl2.on hg3 (by simp)
    have hf3 : Calls Tryd.prog 17 #[.int .i64 (k : Int), .int .u8 59] w3 _ := fill_any k 59 (by have := H1.out; omega) w3
    refine Lib.hid ?_
    go_wp2_with (go_at_call 17; refine hf3.mono ?_; rintro e w4 ⟨rfl, ho4, hg4⟩; refine Hid.out ?_)
    have hc4 := fill_text k 59 w3.heap.size w3.heap.size w4 ho4
    have hl4 := hl3.on hg4 (by simp)
    refine Lib.hid ?_
    go_wp2_with (first | (go_at_call 10; refine (tokens_any _ _ hl4).mono ?_; rintro e w5 ⟨v2, p2, e2, rfl, hrel2, hg5⟩; refine Hid.out ?_))
    have hl5 := hl4.on hg5 (by simp)
    have hf5 : Calls Tryd.prog 17 #[.int .i64 (m : Int), .int .u8 32] w5 _ := fill_any m 32 (by have := H1.out; omega) w5
    refine Lib.hid ?_
    go_wp2_with (go_at_call 17; refine hf5.mono ?_; rintro e w6 ⟨rfl, ho6, hg6⟩; refine Hid.out ?_)
    have hc6 := fill_text m 32 w5.heap.size w5.heap.size w6 ho6
    have hl6 := hl5.on hg6 (by simp)
    refine Lib.hid ?_
    go_wp2_with (first | (go_at_call 10; refine (tokens_any _ _ hl6).mono ?_; rintro e w7 ⟨v3, p3, e3, rfl, hrel3, hg7⟩; refine Hid.out ?_))
    obtain ⟨b1, b2, b3, b4⟩ := H1.out
    have hG : w.grownBy w7 none := (((((hg1.trans hg2).trans hg3).trans hg4).trans hg5).trans hg6).trans hg7
    have t1 := Lex.names n b1 b2
    have t2 := Lex.semis k b3
    have t3 := Lex.spaces m
    simp only [Array.toList_replicate] at hrel1 hrel2 hrel3
    have f1 : (decide ((n : Int) ≤ 40) = true ∧ decide ((40 : Int) < n) = false ∧ e1 = 0 ∧ ∀ ty wx, (Builtin.len_ #[23] ty #[v1]).run Tryd.prog wx = .ok (.int .i64 2) wx) ∨ (decide ((n : Int) ≤ 40) = false ∧ decide ((40 : Int) < n) = true ∧ e1 = 2) := by
      by_cases h : n ≤ 40
      · rw [t1, if_pos h] at hrel1
        exact .inl ⟨by rw [decide_eq_true_iff]; omega, by rw [decide_eq_false_iff_not]; omega, hrel1.2.1, fun ty wx => len_own hrel1.2.2 ty wx⟩
      · rw [t1, if_neg h] at hrel1
        exact .inr ⟨by rw [decide_eq_false_iff_not]; omega, by rw [decide_eq_true_iff]; omega, hrel1.2.2.1⟩
    have f2 : (decide ((k : Int) < 20000) = true ∧ decide ((20000 : Int) ≤ k) = false ∧ e2 = 0) ∨ (decide ((k : Int) < 20000) = false ∧ decide ((20000 : Int) ≤ k) = true ∧ e2 = 2 ∧ p2 = 20000) := by
      by_cases h : k < 20000
      · obtain ⟨ts, e⟩ := t2.1 h
        rw [e] at hrel2
        exact .inl ⟨by rw [decide_eq_true_iff]; omega, by rw [decide_eq_false_iff_not]; omega, hrel2.2.1⟩
      · rw [t2.2 (by omega)] at hrel2
        exact .inr ⟨by rw [decide_eq_false_iff_not]; omega, by rw [decide_eq_true_iff]; omega, hrel2.2.2.1, hrel2.2.1⟩
    have f3 : (decide ((65536 : Int) < m) = false ∧ e3 = 0) ∨ (decide ((65536 : Int) < m) = true ∧ e3 = 2) := by
      by_cases h : m ≤ 65536
      · obtain ⟨ts, e⟩ := t3.1 h
        rw [e] at hrel3
        exact .inl ⟨by rw [decide_eq_false_iff_not]; omega, hrel3.2.1⟩
      · rw [t3.2 (by omega)] at hrel3
        exact .inr ⟨by rw [decide_eq_true_iff]; omega, hrel3.2.2.1⟩
    clear hrel1 hrel2 hrel3 t1 t2 t3 b1 b2 b3 b4 H1 ho2 ho4 ho6 hc2 hc4 hc6 hf1 hf3 hf5
    rcases f1 with ⟨x1, x2, rfl, x3⟩ | ⟨x1, x2, rfl⟩
    all_goals rcases f2 with ⟨y1, y2, rfl⟩ | ⟨y1, y2, rfl, rfl⟩
    all_goals rcases f3 with ⟨z1, rfl⟩ | ⟨z1, rfl⟩
    all_goals refine Lib.hid ?_
    all_goals go_wp2_with (go_at_call 12; refine (num_any _ _).mono ?_; rintro e w' ⟨rfl, hw'⟩; subst hw')
    all_goals (go_ret; exact ⟨rfl, hG⟩)
  · go_enter Tryd.func6, Tryd.ntmps6
    go_wp2_with (first | (go_at_call 9; refine (alive_any _ hl).mono ?_; rintro e w1 ⟨rfl, hg1⟩) | (go_at_call 17; refine Hid.out ?_))
    all_goals first | (exfalso; omega) | (go_ret; exact ⟨rfl, hg1⟩)

end Go.Proofs.YtkcgnelebaajlaaDoor
