/- The document's own text of a literal; the value of a kind; two literals that are one. -/
import Derived.Test.YtachmiajldeakaaGreatDoorShU
namespace Go.Proofs.YtachmiajldeakaaGreatDoor
open Go.RowKit Go.Maps Go.WideMaps

theorem ba_app (x y : List UInt8) : (⟨x.toArray⟩ : ByteArray) ++ ⟨y.toArray⟩ = ⟨(x ++ y).toArray⟩ := ba_ext (by rw [ByteArray.data_append, Array.toList_append])
theorem ba_size (x : List UInt8) : (⟨x.toArray⟩ : ByteArray).size = x.length := by simp [ByteArray.size]

set_option maxHeartbeats 3200000 in
theorem rlit_any (k n : Int) (hk : isLit k n) (i1 : -9223372036854775808 ≤ n) (i2 : n ≤ 9223372036854775807) (w : World) :
    Calls Tryz.prog 20 #[.int .i64 k, .int .i64 n] w fun e w' => e = .returned (.string ⟨(Lex.litL k n).toArray⟩) ∧ w.grownBy w' none := by
  rcases hk with ⟨rfl, rfl | rfl⟩ | ⟨h2, h9⟩
  · go_enter Tryz.func20, Tryz.ntmps20
    go_wp2
    go_ret
    exact ⟨rfl, World.grownBy.refl _ _⟩
  · go_enter Tryz.func20, Tryz.ntmps20
    go_wp2
    go_ret
    exact ⟨rfl, World.grownBy.refl _ _⟩
  · have e1 : (k == 1) = false := by rw [beq_eq_false_iff_ne]; omega
    by_cases hk9 : k = 9
    · subst hk9
      have hL : Lex.litL 9 n = Lib.decDigits (if 0 ≤ n then n.toNat else (n + 18446744073709551616).toNat) ++ [117, 54, 52] := rfl
      have hU := fun wx => runs_any n i1 i2 wx
      have hz := Lex.dec_len20 (if 0 ≤ n then n.toNat else (n + 18446744073709551616).toNat) (by split <;> omega)
      rw [hL]
      generalize Lib.decDigits (if 0 ≤ n then n.toNat else (n + 18446744073709551616).toNat) = D at hU hz
      have hs := ba_size D
      have ha := ba_app D [117, 54, 52]
      rw [← ha]
      generalize (⟨D.toArray⟩ : ByteArray) = X at hU hs ha
      clear ha hL
      go_enter Tryz.func20, Tryz.ntmps20
      go_wp2_with (go_at_call 38; refine (hU _).mono ?_; rintro e w' ⟨rfl, hw'⟩; obtain rfl := hw'.symm; refine Hid.out ?_)
      refine Lib.hid ?_
      go_wp2
      go_ret
      exact ⟨rfl, World.grownBy.refl _ _⟩
    · have e9 : (k == 9) = false := by rw [beq_eq_false_iff_ne]; exact hk9
      have hN := fun wx => rnum_any n i1 i2 wx
      have hK := fun wx => rkind_any k h2 h9 wx
      have hz : (Lib.itoa n).length ≤ 21 := by have := digL_len k n i1 i2; unfold digL at this; rw [if_neg hk9] at this; exact this
      have hzk := kindS_len k h2 h9
      have s1 := ba_size (Lib.itoa n)
      have s2 := ba_size (Lex.kindS k)
      have a1 := ba_app (Lib.itoa n) (Lex.kindS k)
      have a2 := ba_app [40] (Lib.itoa n ++ Lex.kindS k)
      have a3 := ba_app ([40] ++ (Lib.itoa n ++ Lex.kindS k)) [41]
      by_cases h0 : 0 ≤ n
      · have d0 : decide (n < 0) = false := by rw [decide_eq_false_iff_not]; omega
        have hL := litL_bare k n (by omega) (.inl h0)
        unfold digL at hL
        rw [if_neg hk9] at hL
        rw [hL, ← a1]
        clear hL a1 a2 a3
        generalize (⟨(Lib.itoa n).toArray⟩ : ByteArray) = X at hN s1
        generalize (⟨(Lex.kindS k).toArray⟩ : ByteArray) = Y at hK s2
        go_enter Tryz.func20, Tryz.ntmps20
        go_wp2_with (first
          | (go_at_call 39; refine (hN _).mono ?_; rintro e w' ⟨rfl, hw'⟩; obtain rfl := hw'.symm)
          | (go_at_call 23; refine (hK _).mono ?_; rintro e w2 ⟨rfl, hg⟩; refine Hid.out ?_))
        have HG := Lib.hid hg
        clear hg
        refine Lib.hid ?_
        go_wp2
        go_ret
        exact ⟨rfl, HG.out⟩
      · have d0 : decide (n < 0) = true := by rw [decide_eq_true_iff]; omega
        have hL := litL_neg k n (by omega) (by omega)
        unfold digL at hL
        rw [if_neg hk9] at hL
        have hL2 : Lex.litL k n = [40] ++ (Lib.itoa n ++ Lex.kindS k) ++ [41] := by rw [hL]; simp
        rw [hL2, ← a3, ← a2, ← a1]
        clear hL hL2 a1 a2 a3
        generalize (⟨(Lib.itoa n).toArray⟩ : ByteArray) = X at hN s1
        generalize (⟨(Lex.kindS k).toArray⟩ : ByteArray) = Y at hK s2
        go_enter Tryz.func20, Tryz.ntmps20
        go_wp2_with (first
          | (go_at_call 39; refine (hN _).mono ?_; rintro e w' ⟨rfl, hw'⟩; obtain rfl := hw'.symm)
          | (go_at_call 23; refine (hK _).mono ?_; rintro e w2 ⟨rfl, hg⟩; refine Hid.out ?_))
        have HG := Lib.hid hg
        clear hg
        refine Lib.hid ?_
        go_wp2
        go_ret
        exact ⟨rfl, HG.out⟩

set_option maxHeartbeats 1600000 in
set_option maxRecDepth 100000 in
theorem rexpLit_any (k n : Int) (hk : isLit k n) (i1 : -9223372036854775808 ≤ n) (i2 : n ≤ 9223372036854775807) (w : World) :
    Calls Tryz.prog 9 #[litV k n 0 none 0 0] w fun e w' => e = .returned (.string ⟨(Lex.litL k n).toArray⟩) ∧ w.grownBy w' none := by
  have hl := fun wx => rlit_any k n hk i1 i2 wx
  unfold litV
  go_enter Tryz.func9, Tryz.ntmps9
  go_wp2_with (go_at_call 20; refine (hl _).mono ?_; rintro e w' ⟨rfl, hg⟩)
  go_ret
  exact ⟨rfl, (World.grownBy_alloc w _ none).trans hg⟩

set_option maxHeartbeats 1600000 in
theorem sameLit (k n a : Int) (ka : Option Addr) (kc : Nat) (w : World) :
    Calls Tryz.prog 10 #[litV k n 0 none 0 0, litV k n a ka 0 kc, .bool false] w fun e w' => e = .returned (.bool true) ∧ w.grownBy w' none := by
  unfold litV
  go_enter Tryz.func10, Tryz.ntmps10
  go_wp2
  obtain ⟨W0, hW0⟩ : ∃ W0, W0 = (w.alloc (.cells #[.int .i64 1, .int .i64 0, .string ⟨#[]⟩, .int .i64 k, .int .i64 0, .int .i64 n, .int .i64 0, .slice none 0 0, .int .i64 0] 28)).alloc (.cells #[.int .i64 1, .int .i64 0, .string ⟨#[]⟩, .int .i64 k, .int .i64 0, .int .i64 n, .int .i64 0, .slice ka 0 kc, .int .i64 a] 28) := ⟨_, rfl⟩
  have hg0 : w.grownBy W0 none := by rw [hW0]; exact (World.grownBy_alloc w _ none).trans (World.grownBy_alloc _ _ none)
  have z1 : W0.cell? ⟨w.heap.size, 7, none⟩ = some (.slice none 0 0) := by rw [hW0]; simp
  rw [← hW0]
  clear hW0
  go_loopw [7] (fun iv wr => iv = .int .i64 0 ∧ wr = W0) (fun _ _ => 0)
  case atStart => exact ⟨rfl, rfl⟩
  case round =>
    obtain ⟨rfl, hwr⟩ := hrel
    obtain rfl := hwr.symm
    go_wp2
    go_ret
    exact ⟨rfl, hg0⟩

end Go.Proofs.YtachmiajldeakaaGreatDoor
