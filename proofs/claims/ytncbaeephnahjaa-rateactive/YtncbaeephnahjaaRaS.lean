/- RateActive. (Written by mkras.py.) -/
import Derived.Test.YtncbaeephnahjaaRaR
namespace Go.Proofs.Ytncbaeephnahjaa
open Go.RowKit Go.Maps Go.WideMaps Go.Shelf
open Rat (okP baseF baseM toN per off isOn cst tot Best)

theorem pairs1 (W : World) (g : Nat) (a b : Int) (t : TypeId) (h : W.heap[g]? = some (.cells #[.int .i64 a, .int .i64 b] t (0, 0))) : PairsI W (some ⟨g, 0, none⟩) [(a, b)] := by
  intro i x hx
  refine ⟨g, 0, rfl, ?_⟩
  match i, hx with
  | 0, hx => simp at hx; subst hx; exact ⟨cell_of_row _ _ 0 _ _ _ h, cell_of_row _ _ 1 _ _ _ h⟩
  | i + 1, hx => simp at hx
theorem base1_bad {p o : Int} (h : okP (p, o) = false) : baseM [(p, o)] = (0, 1) := by simp [baseM, h]
theorem base1_ok {p o : Int} (h : okP (p, o) = true) : baseM [(p, o)] = (p.toNat, 0) := by
  have h1 := Rat.okP_one h
  have h2 : Nat.lcm 1 p.toNat = p.toNat := Nat.lcm_one_left _
  have h3 : ¬ p.toNat > 5000 := by omega
  rw [baseM, if_neg (by simp [h]), if_neg (by simp)]
  simp only [baseF, h2, if_neg h3]

set_option maxRecDepth 100000 in
set_option maxHeartbeats 4000000 in
theorem rateActive_any (p o t : Int) (hp : p ≤ 9223372036854775807) (hp0 : -9223372036854775808 ≤ p) (ht : t ≤ 9223372036854775807) (ht0 : -9223372036854775808 ≤ t) (w : World) :
    Calls Try.prog 4 #[.int .i64 p, .int .i64 o, .int .i64 t] w fun e w' => e = .returned (.bool true) ∧ w.grownBy w' none := by
  have hal := alive_any w
  have hact := active_any p o t hp ht
  have hmx := max1_any p
  have htb : ∀ V : World, Calls Try.prog 8 #[.slice (some ⟨V.heap.size, 0, none⟩) 1 1] (V.alloc (.cells #[.int .i64 p, .int .i64 o] 35)) (TPost [(p, o)] (V.alloc (.cells #[.int .i64 p, .int .i64 o] 35))) := fun V => table_any [(p, o)] (some ⟨V.heap.size, 0, none⟩) 1 _ (pairs1 _ _ _ _ _ (heap_alloc_new V _)) (by simp)
  have hnum1 := num_any 1
  have hnum0 := num_any 0
  by_cases h1 : 1 ≤ p
  · by_cases h2 : 0 ≤ o
    · by_cases h3 : o < p
      · by_cases h4 : 0 ≤ t
        · by_cases h5 : p ≤ 64
          · have HOK : Hid (okP (p, o) = true) := Lib.hid (by simp [okP, h1, h2, h3, h5])
            obtain ⟨b, hb⟩ : ∃ b, b = p.toNat := ⟨_, rfl⟩
            replace htb := fun V => (htb V).mono (R' := fun e w' => ∃ tb, e = .returned (.tuple #[.int .i64 (b : Int), .slice (some ⟨tb, 0, none⟩) b b, .int .i64 0]) ∧ TableAt w' tb b 1 (isOn [(p, o)]) ∧ (V.alloc (.cells #[.int .i64 p, .int .i64 o] 35)).grownBy w' none) (fun e w' h => by
              obtain ⟨hg, hh⟩ := h
              rw [base1_ok HOK.out, ← hb] at hh
              rcases hh with ⟨h0, _⟩ | ⟨tb, _, _, he, hT⟩
              · exact absurd rfl h0
              · exact ⟨tb, he, hT, hg⟩)
            have eb : p = (b : Int) := by omega
            obtain ⟨i, hi⟩ : ∃ i, i = t.toNat % b := ⟨_, rfl⟩
            have hib : i < b := by rw [hi]; exact Nat.mod_lt _ (by omega)
            have ei : t % (b : Int) = (i : Int) := by rw [hi, ← Int.toNat_of_nonneg h4]; simp
            have hon : isOn [(p, o)] i 0 = (i == o.toNat) := by
              rw [isOn, (Rat.toN_at (x := (p, o)) (by simp)).1, (Rat.toN_at (x := (p, o)) (by simp)).2, Bool.eq_iff_iff]
              simp only [decide_eq_true_eq, beq_iff_eq]
              rw [← hb, Nat.mod_eq_of_lt hib]
            obtain ⟨o', rfl⟩ : ∃ o' : Nat, o = (o' : Int) := ⟨o.toNat, by omega⟩
            have hmx2 := hmx
            rw [if_neg (show ¬ p < 1 by omega)] at hmx2
            clear hmx
            have hmx := hmx2
            clear hmx2
            subst eb
            have ei0 : 0 ≤ t := h4
            by_cases hx : i = o'
            · have hact2 : actI (b : Int) (o' : Int) t = true := by rw [actI, ei, hx]; simp [h4]; omega
              rw [hact2] at hact
              have hon2 : isOn [((b : Int), (o' : Int))] i 0 = true := by rw [hon, hx]; simp
              have HON := Lib.hid hon2
              have e5 : ((i : Int) == (o' : Int)) = true := by simp [hx]
              clear hact2 hon hon2 hi hb
              subst hx
              go_enter Try.func4, Try.ntmps4
              go_wp2_with (first | (go_at_call 7; refine hal.mono ?_; clear hal; rintro e w1 ⟨rfl, hg1⟩; have HG1 := Lib.hid hg1; clear hg1) | (go_at_call 11; refine (hmx _).mono ?_; rintro e w2 ⟨rfl, rfl⟩) | (go_at_call 12; refine (hact _).mono ?_; rintro e w2 ⟨rfl, rfl⟩) | (go_at_call 10; first | (refine (hnum1 _).mono ?_; rintro e w4 ⟨rfl, rfl⟩) | (refine (hnum0 _).mono ?_; rintro e w4 ⟨rfl, rfl⟩)) | (go_at_call 8; refine (htb _).mono ?_; clear htb; rintro e w3 ⟨tb, rfl, hT, hg3⟩; have HG3 := Lib.hid hg3; obtain ⟨⟨arr, a1, a2⟩, a3⟩ := hT; obtain ⟨row, b1, b2⟩ := a3 i hib; have c0 := (cell_of_row w3 tb i _ _ _ a1).trans (a2 i hib); have d0 := (cell_of_row w3 _ 0 _ _ _ b1).trans (b2 0 (by decide)); rw [HON.out] at d0; clear a1 a2 a3 b1 b2 hg3))
              go_ret
              exact ⟨rfl, gtrans (gtrans HG1.out (World.grownBy_alloc _ _ none)) HG3.out⟩
            · have hact2 : actI (b : Int) (o' : Int) t = false := by rw [actI, ei]; simp [h4]; omega
              rw [hact2] at hact
              have hon2 : isOn [((b : Int), (o' : Int))] i 0 = false := by rw [hon]; simp [hx]
              have HON := Lib.hid hon2
              have e5 : ((i : Int) == (o' : Int)) = false := by simp; omega
              clear hact2 hon hon2 hi hb
              go_enter Try.func4, Try.ntmps4
              go_wp2_with (first | (go_at_call 7; refine hal.mono ?_; clear hal; rintro e w1 ⟨rfl, hg1⟩; have HG1 := Lib.hid hg1; clear hg1) | (go_at_call 11; refine (hmx _).mono ?_; rintro e w2 ⟨rfl, rfl⟩) | (go_at_call 12; refine (hact _).mono ?_; rintro e w2 ⟨rfl, rfl⟩) | (go_at_call 10; first | (refine (hnum1 _).mono ?_; rintro e w4 ⟨rfl, rfl⟩) | (refine (hnum0 _).mono ?_; rintro e w4 ⟨rfl, rfl⟩)) | (go_at_call 8; refine (htb _).mono ?_; clear htb; rintro e w3 ⟨tb, rfl, hT, hg3⟩; have HG3 := Lib.hid hg3; obtain ⟨⟨arr, a1, a2⟩, a3⟩ := hT; obtain ⟨row, b1, b2⟩ := a3 i hib; have c0 := (cell_of_row w3 tb i _ _ _ a1).trans (a2 i hib); have d0 := (cell_of_row w3 _ 0 _ _ _ b1).trans (b2 0 (by decide)); rw [HON.out] at d0; clear a1 a2 a3 b1 b2 hg3))
              go_ret
              exact ⟨rfl, gtrans (gtrans HG1.out (World.grownBy_alloc _ _ none)) HG3.out⟩
          · have HOK : Hid (okP (p, o) = false) := Lib.hid (by simp [okP, h5])
            have hact2 : actI p o t = (t % p == o) := by rw [actI, Bool.eq_iff_iff]; simp [h1, h2, h4]
            rw [hact2] at hact
            rw [if_neg (show ¬ p < 1 by omega)] at hmx
            have hm0 := Int.emod_nonneg t (show p ≠ 0 by omega)
            have hm1 := Int.emod_lt_of_pos t (show 0 < p by omega)
            clear hact2
            replace htb := fun V => (htb V).mono (R' := fun e w' => e = .returned (.tuple #[.int .i64 0, .slice none 0 0, .int .i64 1]) ∧ (V.alloc (.cells #[.int .i64 p, .int .i64 o] 35)).grownBy w' none) (fun e w' h => by
              obtain ⟨hg, hh⟩ := h
              rw [base1_bad HOK.out] at hh
              rcases hh with ⟨_, he⟩ | ⟨tb, h0, _⟩
              · exact ⟨he, hg⟩
              · cases h0)
            go_enter Try.func4, Try.ntmps4
            go_wp2_with (first | (go_at_call 7; refine hal.mono ?_; clear hal; rintro e w1 ⟨rfl, hg1⟩; have HG1 := Lib.hid hg1; clear hg1) | (go_at_call 11; refine (hmx _).mono ?_; rintro e w2 ⟨rfl, rfl⟩) | (go_at_call 12; refine (hact _).mono ?_; rintro e w2 ⟨rfl, rfl⟩) | (go_at_call 10; first | (refine (hnum1 _).mono ?_; rintro e w4 ⟨rfl, rfl⟩) | (refine (hnum0 _).mono ?_; rintro e w4 ⟨rfl, rfl⟩)) | (go_at_call 8; refine (htb _).mono ?_; clear htb; rintro e w3 ⟨rfl, hg3⟩; have HG3 := Lib.hid hg3; clear hg3))
            go_ret
            exact ⟨rfl, gtrans (gtrans HG1.out (World.grownBy_alloc _ _ none)) HG3.out⟩
        · have hact2 : actI p o t = false := by simp [actI, h4]
          rw [hact2] at hact
          by_cases h5 : p ≤ 64
          · have HOK : Hid (okP (p, o) = true) := Lib.hid (by simp [okP, h1, h2, h3, h5])
            obtain ⟨b, hb⟩ : ∃ b, b = p.toNat := ⟨_, rfl⟩
            replace htb := fun V => (htb V).mono (R' := fun e w' => ∃ tb, e = .returned (.tuple #[.int .i64 (b : Int), .slice (some ⟨tb, 0, none⟩) b b, .int .i64 0]) ∧ TableAt w' tb b 1 (isOn [(p, o)]) ∧ (V.alloc (.cells #[.int .i64 p, .int .i64 o] 35)).grownBy w' none) (fun e w' h => by
              obtain ⟨hg, hh⟩ := h
              rw [base1_ok HOK.out, ← hb] at hh
              rcases hh with ⟨h0, _⟩ | ⟨tb, _, _, he, hT⟩
              · exact absurd rfl h0
              · exact ⟨tb, he, hT, hg⟩)
            have HB := Lib.hid hb
            clear hb
            go_enter Try.func4, Try.ntmps4
            go_wp2_with (first | (go_at_call 7; refine hal.mono ?_; clear hal; rintro e w1 ⟨rfl, hg1⟩; have HG1 := Lib.hid hg1; clear hg1) | (go_at_call 11; refine (hmx _).mono ?_; rintro e w2 ⟨rfl, rfl⟩) | (go_at_call 12; refine (hact _).mono ?_; rintro e w2 ⟨rfl, rfl⟩) | (go_at_call 10; first | (refine (hnum1 _).mono ?_; rintro e w4 ⟨rfl, rfl⟩) | (refine (hnum0 _).mono ?_; rintro e w4 ⟨rfl, rfl⟩)) | (go_at_call 8; refine (htb _).mono ?_; clear htb; rintro e w3 ⟨tb, rfl, hT, hg3⟩; have HG3 := Lib.hid hg3; clear hg3 hT))
            go_ret
            exact ⟨rfl, gtrans (gtrans HG1.out (World.grownBy_alloc _ _ none)) HG3.out⟩
          · have HOK : Hid (okP (p, o) = false) := Lib.hid (by simp [okP, h5])
            replace htb := fun V => (htb V).mono (R' := fun e w' => e = .returned (.tuple #[.int .i64 0, .slice none 0 0, .int .i64 1]) ∧ (V.alloc (.cells #[.int .i64 p, .int .i64 o] 35)).grownBy w' none) (fun e w' h => by
              obtain ⟨hg, hh⟩ := h
              rw [base1_bad HOK.out] at hh
              rcases hh with ⟨_, he⟩ | ⟨tb, h0, _⟩
              · exact ⟨he, hg⟩
              · cases h0)
            go_enter Try.func4, Try.ntmps4
            go_wp2_with (first | (go_at_call 7; refine hal.mono ?_; clear hal; rintro e w1 ⟨rfl, hg1⟩; have HG1 := Lib.hid hg1; clear hg1) | (go_at_call 11; refine (hmx _).mono ?_; rintro e w2 ⟨rfl, rfl⟩) | (go_at_call 12; refine (hact _).mono ?_; rintro e w2 ⟨rfl, rfl⟩) | (go_at_call 10; first | (refine (hnum1 _).mono ?_; rintro e w4 ⟨rfl, rfl⟩) | (refine (hnum0 _).mono ?_; rintro e w4 ⟨rfl, rfl⟩)) | (go_at_call 8; refine (htb _).mono ?_; clear htb; rintro e w3 ⟨rfl, hg3⟩; have HG3 := Lib.hid hg3; clear hg3))
            go_ret
            exact ⟨rfl, gtrans (gtrans HG1.out (World.grownBy_alloc _ _ none)) HG3.out⟩
      · have HOK : Hid (okP (p, o) = false) := Lib.hid (by simp [okP]; omega)
        rw [show actI p o t = false by (rw [actI, Bool.and_eq_false_iff]; by_cases h4 : 0 ≤ t; (right; have := Int.emod_lt_of_pos t (show 0 < p by omega); simp; omega); (left; simp [h4]))] at hact
        replace htb := fun V => (htb V).mono (R' := fun e w' => e = .returned (.tuple #[.int .i64 0, .slice none 0 0, .int .i64 1]) ∧ (V.alloc (.cells #[.int .i64 p, .int .i64 o] 35)).grownBy w' none) (fun e w' h => by
          obtain ⟨hg, hh⟩ := h
          rw [base1_bad HOK.out] at hh
          rcases hh with ⟨_, he⟩ | ⟨tb, h0, _⟩
          · exact ⟨he, hg⟩
          · cases h0)
        go_enter Try.func4, Try.ntmps4
        go_wp2_with (first | (go_at_call 7; refine hal.mono ?_; clear hal; rintro e w1 ⟨rfl, hg1⟩; have HG1 := Lib.hid hg1; clear hg1) | (go_at_call 11; refine (hmx _).mono ?_; rintro e w2 ⟨rfl, rfl⟩) | (go_at_call 12; refine (hact _).mono ?_; rintro e w2 ⟨rfl, rfl⟩) | (go_at_call 10; first | (refine (hnum1 _).mono ?_; rintro e w4 ⟨rfl, rfl⟩) | (refine (hnum0 _).mono ?_; rintro e w4 ⟨rfl, rfl⟩)) | (go_at_call 8; refine (htb _).mono ?_; clear htb; rintro e w3 ⟨rfl, hg3⟩; have HG3 := Lib.hid hg3; clear hg3))
        go_ret
        exact ⟨rfl, gtrans (gtrans HG1.out (World.grownBy_alloc _ _ none)) HG3.out⟩
    · have HOK : Hid (okP (p, o) = false) := Lib.hid (by simp [okP]; omega)
      rw [show actI p o t = false by simp [actI, h2]] at hact
      replace htb := fun V => (htb V).mono (R' := fun e w' => e = .returned (.tuple #[.int .i64 0, .slice none 0 0, .int .i64 1]) ∧ (V.alloc (.cells #[.int .i64 p, .int .i64 o] 35)).grownBy w' none) (fun e w' h => by
        obtain ⟨hg, hh⟩ := h
        rw [base1_bad HOK.out] at hh
        rcases hh with ⟨_, he⟩ | ⟨tb, h0, _⟩
        · exact ⟨he, hg⟩
        · cases h0)
      go_enter Try.func4, Try.ntmps4
      go_wp2_with (first | (go_at_call 7; refine hal.mono ?_; clear hal; rintro e w1 ⟨rfl, hg1⟩; have HG1 := Lib.hid hg1; clear hg1) | (go_at_call 11; refine (hmx _).mono ?_; rintro e w2 ⟨rfl, rfl⟩) | (go_at_call 12; refine (hact _).mono ?_; rintro e w2 ⟨rfl, rfl⟩) | (go_at_call 10; first | (refine (hnum1 _).mono ?_; rintro e w4 ⟨rfl, rfl⟩) | (refine (hnum0 _).mono ?_; rintro e w4 ⟨rfl, rfl⟩)) | (go_at_call 8; refine (htb _).mono ?_; clear htb; rintro e w3 ⟨rfl, hg3⟩; have HG3 := Lib.hid hg3; clear hg3))
      go_ret
      exact ⟨rfl, gtrans (gtrans HG1.out (World.grownBy_alloc _ _ none)) HG3.out⟩
  · have HOK : Hid (okP (p, o) = false) := Lib.hid (by simp [okP]; omega)
    rw [show actI p o t = false by simp [actI, h1]] at hact
    replace htb := fun V => (htb V).mono (R' := fun e w' => e = .returned (.tuple #[.int .i64 0, .slice none 0 0, .int .i64 1]) ∧ (V.alloc (.cells #[.int .i64 p, .int .i64 o] 35)).grownBy w' none) (fun e w' h => by
      obtain ⟨hg, hh⟩ := h
      rw [base1_bad HOK.out] at hh
      rcases hh with ⟨_, he⟩ | ⟨tb, h0, _⟩
      · exact ⟨he, hg⟩
      · cases h0)
    go_enter Try.func4, Try.ntmps4
    go_wp2_with (first | (go_at_call 7; refine hal.mono ?_; clear hal; rintro e w1 ⟨rfl, hg1⟩; have HG1 := Lib.hid hg1; clear hg1) | (go_at_call 11; refine (hmx _).mono ?_; rintro e w2 ⟨rfl, rfl⟩) | (go_at_call 12; refine (hact _).mono ?_; rintro e w2 ⟨rfl, rfl⟩) | (go_at_call 10; first | (refine (hnum1 _).mono ?_; rintro e w4 ⟨rfl, rfl⟩) | (refine (hnum0 _).mono ?_; rintro e w4 ⟨rfl, rfl⟩)) | (go_at_call 8; refine (htb _).mono ?_; clear htb; rintro e w3 ⟨rfl, hg3⟩; have HG3 := Lib.hid hg3; clear hg3))
    go_ret
    exact ⟨rfl, gtrans (gtrans HG1.out (World.grownBy_alloc _ _ none)) HG3.out⟩
theorem wf64 {n : Int} (h : (Lit.int .i64 n).wf = true) : -9223372036854775808 ≤ n ∧ n ≤ 9223372036854775807 := by
  simp only [Lit.wf, Bool.and_eq_true, decide_eq_true_eq] at h
  exact h
theorem rateActive_run (p o t : Int) (hp : (Lit.int .i64 p).wf = true) (_ : (Lit.int .i64 o).wf = true) (ht : (Lit.int .i64 t).wf = true) (w : World) : Calls Try.prog 4 #[.int .i64 p, .int .i64 o, .int .i64 t] w fun e w' => e = .returned (.bool true) ∧ w.grownBy w' none :=
  rateActive_any p o t (wf64 hp).2 (wf64 hp).1 (wf64 ht).2 (wf64 ht).1 w
end Go.Proofs.Ytncbaeephnahjaa
