/- The document's own tokens, on: its sign answers as the plain definitions say. -/
import Derived.Test.YtbiplgidlmbbkaaDoorLexT
namespace Go.Proofs.YtbiplgidlmbbkaaDoor
open Go.RowKit Go.Maps Go.WideMaps

theorem pair_beq (c d a b : UInt8) (n m : Int) (hn : n = (c.toNat : Int)) (hm : m = (d.toNat : Int)) : ([c, d] == [a, b]) = (decide (n = (a.toNat : Int)) && decide (m = (b.toNat : Int))) := by
  rw [Bool.eq_iff_iff, beq_iff_eq, Bool.and_eq_true, decide_eq_true_eq, decide_eq_true_eq]
  simp only [List.cons.injEq, and_true, ← UInt8.toNat_inj]
  omega

set_option maxHeartbeats 3200000 in
theorem rsign_any (s : ByteArray) (i : Nat) (hs : s.size ≤ 65536) (hi : i < s.size) (w : World) :
    Calls Tryd.prog 34 #[.string s, .int .i64 (i : Int)] w fun e w' => e = .returned (.int .i64 (Lex.signW (Lex.pk s.data.toList i) (Lex.pk s.data.toList (i + 1)))) ∧ w' = w := by
  obtain ⟨n, hn⟩ : ∃ n : Int, n = (Lex.pk s.data.toList i : Int) := ⟨_, rfl⟩
  obtain ⟨m, hm⟩ : ∃ m : Int, m = (Lex.pk s.data.toList (i + 1) : Int) := ⟨_, rfl⟩
  have hx := fun wx => idx_str s i hi (i : Int) rfl wx
  simp only [← hn] at hx
  have hsz : s.data.toList.length = s.size := Array.length_toList
  have ew : wrap64 ((i : Int) + 2) = (i : Int) + 2 := by unfold wrap64; omega
  by_cases h2 : i + 2 ≤ s.size
  · have hd : decide ((i : Int) + 2 ≤ (s.size : Int)) = true := by rw [decide_eq_true_iff]; omega
    have hsl : ∀ wx, (Instr.slice 9 (.string s) (some (.int .i64 (i : Int))) (some (.int .i64 ((i : Int) + 2))) none).run Tryd.prog wx = .ok (.string (s.extract i (i + 2))) wx := fun wx => slc_str s i (i + 2) (by omega) h2 wx
    obtain ⟨z, hz⟩ : ∃ z, z = s.extract i (i + 2) := ⟨_, rfl⟩
    rw [← hz] at hsl
    have hzl : z.toList = [s.data.toList[i]'(by omega), s.data.toList[i + 1]'(by omega)] := by
      rw [ByteArray.toList_eq, hz, ext_list, List.drop_eq_getElem_cons (by omega), List.drop_eq_getElem_cons (by omega)]
      rfl
    have hn2 : n = (s.data.toList[i]'(by omega)).toNat := by rw [hn, Lex.pk_eq (by omega)]
    have hm2 : m = (s.data.toList[i + 1]'(by omega)).toNat := by rw [hm, Lex.pk_eq (by omega)]
    have q0 : (z.toList == [45, 62]) = (decide (n = 45) && decide (m = 62)) := by rw [hzl]; exact pair_beq _ _ 45 62 n m hn2 hm2
    have q1 : (z.toList == [61, 62]) = (decide (n = 61) && decide (m = 62)) := by rw [hzl]; exact pair_beq _ _ 61 62 n m hn2 hm2
    have q2 : (z.toList == [60, 62]) = (decide (n = 60) && decide (m = 62)) := by rw [hzl]; exact pair_beq _ _ 60 62 n m hn2 hm2
    have q3 : (z.toList == [60, 61]) = (decide (n = 60) && decide (m = 61)) := by rw [hzl]; exact pair_beq _ _ 60 61 n m hn2 hm2
    have q4 : (z.toList == [62, 61]) = (decide (n = 62) && decide (m = 61)) := by rw [hzl]; exact pair_beq _ _ 62 61 n m hn2 hm2
    have q5 : (z.toList == [60, 60]) = (decide (n = 60) && decide (m = 60)) := by rw [hzl]; exact pair_beq _ _ 60 60 n m hn2 hm2
    have q6 : (z.toList == [62, 62]) = (decide (n = 62) && decide (m = 62)) := by rw [hzl]; exact pair_beq _ _ 62 62 n m hn2 hm2
    have HN : Hid (n = (Lex.pk s.data.toList i : Int) ∧ m = (Lex.pk s.data.toList (i + 1) : Int)) := ⟨hn, hm⟩
    clear hz hzl hn2 hm2 hn hm
    go_enter Tryd.func34, Tryd.ntmps34
    go_wp2
    all_goals go_ret
    all_goals go_light
    all_goals refine ⟨ret_int ?_, rfl⟩
    all_goals have e := HN.out
    all_goals generalize Lex.pk s.data.toList i = cn at e
    all_goals generalize Lex.pk s.data.toList (i + 1) = dn at e
    all_goals clear HN hsl q0 q1 q2 q3 q4 q5 q6 hx ew hd
    all_goals (try simp only [beq_iff_eq, beq_eq_false_iff_ne, ne_eq] at *)
    all_goals (unfold Lex.signW; repeat' split)
    all_goals omega
  · have hd : decide ((i : Int) + 2 ≤ (s.size : Int)) = false := by rw [decide_eq_false_iff_not]; omega
    have hm0 : Lex.pk s.data.toList (i + 1) = 0 := Lex.pk_ge (by omega)
    rw [hm0]
    have HN : Hid (n = (Lex.pk s.data.toList i : Int)) := hn
    clear hn hm hm0
    go_enter Tryd.func34, Tryd.ntmps34
    go_wp2
    all_goals go_ret
    all_goals go_light
    all_goals refine ⟨ret_int ?_, rfl⟩
    all_goals have e := HN.out
    all_goals generalize Lex.pk s.data.toList i = cn at e
    all_goals clear HN hx ew hd
    all_goals simp only [beq_iff_eq, beq_eq_false_iff_ne, ne_eq] at *
    all_goals (unfold Lex.signW; repeat' split)
    all_goals omega

end Go.Proofs.YtbiplgidlmbbkaaDoor
