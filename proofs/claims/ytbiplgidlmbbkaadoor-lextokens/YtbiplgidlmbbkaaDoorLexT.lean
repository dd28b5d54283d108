/- The document's own tokens: its letter, digit, Kind and key answer as the plain definitions say. -/
import Derived.Test.YtbiplgidlmbbkaaDoorLexS
namespace Go.Proofs.YtbiplgidlmbbkaaDoor
open Go.RowKit Go.Maps Go.WideMaps

namespace Lex
def letter (c : UInt8) : Bool := word c && !digit c
def kinds9 : List (List UInt8) := [[98, 111, 111, 108], [105, 56], [105, 49, 54], [105, 51, 50], [105, 54, 52], [117, 56], [117, 49, 54], [117, 51, 50], [117, 54, 52]]
def k9 (t : Nat) : List UInt8 := kinds9.getD t []
theorem kind9_all : ((List.range 9).all fun t => kindOf (k9 t) == (t : Int) + 1) = true := by kernel_rfl
theorem kind9 (t : Nat) (h : t < 9) : kindOf (k9 t) = (t : Int) + 1 := beq_iff_eq.1 (List.all_eq_true.1 kind9_all t (List.mem_range.2 h))
theorem tbl_all : (tbl.all fun p => p.2 == 0 || (List.range 9).any (fun t => p.1 == k9 t)) = true := by kernel_rfl
theorem kind0 (l : List UInt8) (h : ∀ t, t < 9 → ¬ l = k9 t) : kindOf l = 0 := by
  unfold kindOf look
  cases e : tbl.find? (fun p => p.1 == l) with
  | none => rfl
  | some p =>
    have h1 := List.all_eq_true.1 tbl_all p (List.mem_of_find?_eq_some e)
    have h2 : p.1 = l := beq_iff_eq.1 (List.find?_some (p := fun p : List UInt8 × Int => p.1 == l) e)
    rw [Bool.or_eq_true] at h1
    rcases h1 with h1 | h1
    · simpa using h1
    · obtain ⟨t, ht, h3⟩ := List.any_eq_true.1 h1
      exact absurd (h2.symm.trans (beq_iff_eq.1 h3)) (h t (List.mem_range.1 ht))
def keys33 : List (List UInt8) := [[110, 111, 100, 101], [114, 101, 116, 117, 114, 110, 115], [118, 97, 114], [108, 101, 116], [116, 101, 108], [105, 102], [116, 104, 101, 110], [101, 108, 115, 101], [110, 111, 116], [97, 110, 100], [111, 114], [120, 111, 114], [109, 111, 100], [112, 114, 101], [102, 98, 121], [119, 104, 101, 110], [109, 101, 114, 103, 101], [99, 97, 115, 116], [116, 105, 99, 107], [114, 101, 115, 101, 116], [114, 101, 112], [109, 97, 112], [102, 111, 108, 100], [111, 110], [116, 114, 117, 101], [102, 97, 108, 115, 101], [97, 117, 116, 111, 109, 97, 116, 111, 110], [115, 116, 97, 116, 101], [100, 111], [117, 110, 108, 101, 115, 115], [117, 110, 116, 105, 108], [99, 111, 110, 116, 105, 110, 117, 101], [101, 110, 100]]
theorem keys_all : (keys33.all fun k => (look k).isSome) = true := by kernel_rfl
theorem tbl_keys : (tbl.all fun p => decide (0 < p.2) || keys33.any (fun k => p.1 == k)) = true := by kernel_rfl
theorem key_yes (l : List UInt8) (h : l ∈ keys33) : (look l).isSome = true := List.all_eq_true.1 keys_all l h
theorem key_kind (l : List UInt8) (h : 0 < kindOf l) : (look l).isSome = true := by
  unfold kindOf at h
  cases e : look l with
  | none => rw [e] at h; exact absurd h (by decide)
  | some k => rfl
theorem key_no (l : List UInt8) (h : ¬ 0 < kindOf l) (h' : ¬ l ∈ keys33) : (look l).isSome = false := by
  unfold kindOf at h
  unfold look at h ⊢
  cases e : tbl.find? (fun p => p.1 == l) with
  | none => rfl
  | some p =>
    rw [e] at h
    have h1 := List.all_eq_true.1 tbl_keys p (List.mem_of_find?_eq_some e)
    have h2 : p.1 = l := beq_iff_eq.1 (List.find?_some (p := fun p : List UInt8 × Int => p.1 == l) e)
    rw [Bool.or_eq_true, decide_eq_true_eq] at h1
    rcases h1 with h1 | h1
    · exact absurd h1 h
    · obtain ⟨k, hk, h3⟩ := List.any_eq_true.1 h1
      exact absurd (by rw [← h2, beq_iff_eq.1 h3]; exact hk) h'
end Lex
theorem letter_iff (c : UInt8) : Lex.letter c = true ↔ c.toNat = 95 ∨ (97 ≤ c.toNat ∧ c.toNat ≤ 122) ∨ (65 ≤ c.toNat ∧ c.toNat ≤ 90) := by
  unfold Lex.letter
  rw [Bool.and_eq_true, word_iff, Bool.not_eq_true', ← Bool.not_eq_true, digit_iff]
  omega

set_option maxHeartbeats 400000 in
theorem rletter_any (c : UInt8) (w : World) :
    Calls Tryd.prog 29 #[.int .u8 (c.toNat : Int)] w fun e w' => e = .returned (.bool (Lex.letter c)) ∧ w' = w := by
  obtain ⟨n, hn⟩ : ∃ n : Int, n = (c.toNat : Int) := ⟨_, rfl⟩
  rw [← hn]
  have HN : Hid (n = (c.toNat : Int)) := hn
  clear hn
  by_cases h3 : 97 ≤ n
  · by_cases h2 : n ≤ 122
    · by_cases h1 : 65 ≤ n
      · go_enter Tryd.func29, Tryd.ntmps29
        go_wp2
        all_goals go_ret
        all_goals (have e := HN.out; first | exact ⟨ret_t (by rw [letter_iff]; omega), rfl⟩ | exact ⟨ret_f (by rw [letter_iff]; omega), rfl⟩ | exact ⟨ret_d (by rw [letter_iff]; omega), rfl⟩ | exact ⟨ret_e (by rw [letter_iff]; omega), rfl⟩ | exact ⟨ret_g (by rw [letter_iff]; simp only [Bool.or_eq_true, beq_iff_eq, decide_eq_true_eq]; omega), rfl⟩)
      · go_enter Tryd.func29, Tryd.ntmps29
        go_wp2
        all_goals go_ret
        all_goals (have e := HN.out; first | exact ⟨ret_t (by rw [letter_iff]; omega), rfl⟩ | exact ⟨ret_f (by rw [letter_iff]; omega), rfl⟩ | exact ⟨ret_d (by rw [letter_iff]; omega), rfl⟩ | exact ⟨ret_e (by rw [letter_iff]; omega), rfl⟩ | exact ⟨ret_g (by rw [letter_iff]; simp only [Bool.or_eq_true, beq_iff_eq, decide_eq_true_eq]; omega), rfl⟩)
    · by_cases h1 : 65 ≤ n
      · go_enter Tryd.func29, Tryd.ntmps29
        go_wp2
        all_goals go_ret
        all_goals (have e := HN.out; first | exact ⟨ret_t (by rw [letter_iff]; omega), rfl⟩ | exact ⟨ret_f (by rw [letter_iff]; omega), rfl⟩ | exact ⟨ret_d (by rw [letter_iff]; omega), rfl⟩ | exact ⟨ret_e (by rw [letter_iff]; omega), rfl⟩ | exact ⟨ret_g (by rw [letter_iff]; simp only [Bool.or_eq_true, beq_iff_eq, decide_eq_true_eq]; omega), rfl⟩)
      · go_enter Tryd.func29, Tryd.ntmps29
        go_wp2
        all_goals go_ret
        all_goals (have e := HN.out; first | exact ⟨ret_t (by rw [letter_iff]; omega), rfl⟩ | exact ⟨ret_f (by rw [letter_iff]; omega), rfl⟩ | exact ⟨ret_d (by rw [letter_iff]; omega), rfl⟩ | exact ⟨ret_e (by rw [letter_iff]; omega), rfl⟩ | exact ⟨ret_g (by rw [letter_iff]; simp only [Bool.or_eq_true, beq_iff_eq, decide_eq_true_eq]; omega), rfl⟩)
  · by_cases h2 : n ≤ 122
    · by_cases h1 : 65 ≤ n
      · go_enter Tryd.func29, Tryd.ntmps29
        go_wp2
        all_goals go_ret
        all_goals (have e := HN.out; first | exact ⟨ret_t (by rw [letter_iff]; omega), rfl⟩ | exact ⟨ret_f (by rw [letter_iff]; omega), rfl⟩ | exact ⟨ret_d (by rw [letter_iff]; omega), rfl⟩ | exact ⟨ret_e (by rw [letter_iff]; omega), rfl⟩ | exact ⟨ret_g (by rw [letter_iff]; simp only [Bool.or_eq_true, beq_iff_eq, decide_eq_true_eq]; omega), rfl⟩)
      · go_enter Tryd.func29, Tryd.ntmps29
        go_wp2
        all_goals go_ret
        all_goals (have e := HN.out; first | exact ⟨ret_t (by rw [letter_iff]; omega), rfl⟩ | exact ⟨ret_f (by rw [letter_iff]; omega), rfl⟩ | exact ⟨ret_d (by rw [letter_iff]; omega), rfl⟩ | exact ⟨ret_e (by rw [letter_iff]; omega), rfl⟩ | exact ⟨ret_g (by rw [letter_iff]; simp only [Bool.or_eq_true, beq_iff_eq, decide_eq_true_eq]; omega), rfl⟩)
    · by_cases h1 : 65 ≤ n
      · go_enter Tryd.func29, Tryd.ntmps29
        go_wp2
        all_goals go_ret
        all_goals (have e := HN.out; first | exact ⟨ret_t (by rw [letter_iff]; omega), rfl⟩ | exact ⟨ret_f (by rw [letter_iff]; omega), rfl⟩ | exact ⟨ret_d (by rw [letter_iff]; omega), rfl⟩ | exact ⟨ret_e (by rw [letter_iff]; omega), rfl⟩ | exact ⟨ret_g (by rw [letter_iff]; simp only [Bool.or_eq_true, beq_iff_eq, decide_eq_true_eq]; omega), rfl⟩)
      · go_enter Tryd.func29, Tryd.ntmps29
        go_wp2
        all_goals go_ret
        all_goals (have e := HN.out; first | exact ⟨ret_t (by rw [letter_iff]; omega), rfl⟩ | exact ⟨ret_f (by rw [letter_iff]; omega), rfl⟩ | exact ⟨ret_d (by rw [letter_iff]; omega), rfl⟩ | exact ⟨ret_e (by rw [letter_iff]; omega), rfl⟩ | exact ⟨ret_g (by rw [letter_iff]; simp only [Bool.or_eq_true, beq_iff_eq, decide_eq_true_eq]; omega), rfl⟩)

set_option maxHeartbeats 400000 in
theorem rdigit_any (c : UInt8) (w : World) :
    Calls Tryd.prog 30 #[.int .u8 (c.toNat : Int)] w fun e w' => e = .returned (.bool (Lex.digit c)) ∧ w' = w := by
  obtain ⟨n, hn⟩ : ∃ n : Int, n = (c.toNat : Int) := ⟨_, rfl⟩
  rw [← hn]
  have HN : Hid (n = (c.toNat : Int)) := hn
  clear hn
  by_cases h1 : 48 ≤ n
  · go_enter Tryd.func30, Tryd.ntmps30
    go_wp2
    all_goals go_ret
    all_goals (have e := HN.out; first | exact ⟨ret_t (by rw [digit_iff]; omega), rfl⟩ | exact ⟨ret_f (by rw [digit_iff]; omega), rfl⟩ | exact ⟨ret_d (by rw [digit_iff]; omega), rfl⟩ | exact ⟨ret_e (by rw [digit_iff]; omega), rfl⟩ | exact ⟨ret_g (by rw [digit_iff]; simp only [Bool.or_eq_true, beq_iff_eq, decide_eq_true_eq]; omega), rfl⟩)
  · go_enter Tryd.func30, Tryd.ntmps30
    go_wp2
    all_goals go_ret
    all_goals (have e := HN.out; first | exact ⟨ret_t (by rw [digit_iff]; omega), rfl⟩ | exact ⟨ret_f (by rw [digit_iff]; omega), rfl⟩ | exact ⟨ret_d (by rw [digit_iff]; omega), rfl⟩ | exact ⟨ret_e (by rw [digit_iff]; omega), rfl⟩ | exact ⟨ret_g (by rw [digit_iff]; simp only [Bool.or_eq_true, beq_iff_eq, decide_eq_true_eq]; omega), rfl⟩)

set_option maxHeartbeats 800000 in
theorem rkind_any (x : ByteArray) (w : World) :
    Calls Tryd.prog 32 #[.string x] w fun e w' => e = .returned (.int .i64 (Lex.kindOf x.data.toList)) ∧ w.grownBy w' none := by
  go_enter Tryd.func32, Tryd.ntmps32
  go_wp2
  have hc : ∀ t, t < 9 → (w.alloc (.cells (Lex.kinds9.map (fun k => Value.string ⟨k.toArray⟩)).toArray 9)).cell? ⟨w.heap.size, t, none⟩ = some (.string ⟨(Lex.k9 t).toArray⟩) := fun t ht => row_strings w Lex.kinds9 9 t ht
  have hg : w.grownBy (w.alloc (.cells (Lex.kinds9.map (fun k => Value.string ⟨k.toArray⟩)).toArray 9)) none := World.grownBy_alloc w _ none
  go_loopw [4] (fun i wr => ∃ t : Nat, t ≤ 9 ∧ i = .int .i64 (t : Int) ∧ ((∀ t, t < 9 → wr.cell? ⟨w.heap.size, t, none⟩ = some (.string ⟨(Lex.k9 t).toArray⟩)) ∧ w.grownBy wr none) ∧ Hid (∀ s, s < t → ¬ x.data.toList = Lex.k9 s)) (fun i _ => 9 - (intOf i).toNat)
  case atStart => exact ⟨0, Nat.zero_le _, rfl, ⟨hc, hg⟩, fun s hs => by omega⟩
  case round =>
    clear hc hg
    obtain ⟨t, ht, rfl, ⟨hc, hg⟩, H⟩ := hrel
    by_cases hlt : t < 9
    · have ct := hc t hlt
      have ht9 : (t : Int) < 9 := by omega
      obtain ⟨z, hz⟩ : ∃ z : ByteArray, z = ⟨(Lex.k9 t).toArray⟩ := ⟨_, rfl⟩
      have hzl : z.data.toList = Lex.k9 t := by rw [hz]
      rw [← hz] at ct
      have HC := Lib.hid hc
      clear hz hc
      by_cases heq : x.data.toList = Lex.k9 t
      · have hcmp : (z.toList == x.toList) = true := by rw [beq_iff_eq, ByteArray.toList_eq, ByteArray.toList_eq, hzl, heq]
        have HE : Hid _ := heq
        clear heq hzl
        go_wp2
        go_ret
        refine ⟨ret_int ?_, hg⟩
        rw [HE.out, Lex.kind9 t hlt]
      · have hcmp : (z.toList == x.toList) = false := by
          rw [beq_eq_false_iff_ne, ByteArray.toList_eq, ByteArray.toList_eq, hzl]
          exact fun h => heq h.symm
        have HE : Hid _ := heq
        clear heq hzl
        go_wp2
        refine ⟨⟨t + 1, by omega, by go_num, ⟨HC.out, hg⟩, fun s hs => ?_⟩, by simp [intOf]; omega⟩
        by_cases hst : s = t
        · subst hst; exact HE.out
        · exact H.out s (by omega)
    · have e : t = 9 := by omega
      subst e
      clear hc
      go_wp2
      go_ret
      refine ⟨ret_int ?_, hg⟩
      rw [Lex.kind0 _ H.out]

set_option maxHeartbeats 3200000 in
theorem rkey_any (x : ByteArray) (w : World) :
    Calls Tryd.prog 31 #[.string x] w fun e w' => e = .returned (.bool (Lex.look x.data.toList).isSome) ∧ w.grownBy w' none := by
  have hK := fun wx => rkind_any x wx
  by_cases hk : 0 < Lex.kindOf x.data.toList
  · rw [Lex.key_kind _ hk]
    have hd : decide (0 < Lex.kindOf x.data.toList) = true := decide_eq_true hk
    generalize Lex.kindOf x.data.toList = k at hK hd
    go_enter Tryd.func31, Tryd.ntmps31
    go_wp2_with (go_at_call 32; refine (hK _).mono ?_; rintro e w1 ⟨rfl, hg⟩)
    go_ret
    exact ⟨rfl, hg⟩
  · have hd : decide (0 < Lex.kindOf x.data.toList) = false := decide_eq_false hk
    have HK := Lib.hid hk
    have hx : x.toList = x.data.toList := ByteArray.toList_eq x
    have HX := Lib.hid hx
    clear hk hx
    obtain ⟨k, hkk⟩ : ∃ k, k = Lex.kindOf x.data.toList := ⟨_, rfl⟩
    rw [← hkk] at hK hd
    clear hkk
    go_enter Tryd.func31, Tryd.ntmps31
    go_wp2_with (go_at_call 32; refine (hK _).mono ?_; rintro e w1 ⟨rfl, hg⟩)
    all_goals go_ret
    all_goals go_light
    all_goals clear hK hd
    all_goals first
      | (rename_i h; exact ⟨ret_t (Lex.key_yes _ (by rw [← HX.out, beq_iff_eq.1 h]; decide)), hg⟩)
      | (exfalso; simp_all; done)
      | (have hno : ¬ x.data.toList ∈ Lex.keys33 := by
           rw [← HX.out]
           clear HX HK hg
           generalize x.toList = y at *
           intro hm
           simp only [Lex.keys33, List.mem_cons, List.not_mem_nil, or_false] at hm
           simp only [beq_eq_false_iff_ne, ne_eq] at *
           simp_all
         exact ⟨ret_f (by rw [Lex.key_no _ (by have := HK.out; omega) hno]; decide), hg⟩)

end Go.Proofs.YtbiplgidlmbbkaaDoor
