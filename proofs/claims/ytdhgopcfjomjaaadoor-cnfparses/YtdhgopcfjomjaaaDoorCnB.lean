/- cnf: weight, isLong, variable, areLiterals, Check. -/
import Derived.Test.YtdhgopcfjomjaaaDoorCnA
namespace Go.Proofs.YtdhgopcfjomjaaaDoor
open Go.RowKit Go.Maps Go.WideMaps
open Cn (I64)

theorem weight_any (a : Option Addr) (n c : Nat) (hn : n ≤ 140737488351232) (w : World) :
    Calls Tryd.prog 31 #[.slice a n c] w fun e w' => e = .returned (.int .i64 ((n : Int) + 1)) ∧ w' = w := by
  have hw : wrap64 ((n : Int) + 1) = (n : Int) + 1 := by unfold wrap64; omega
  go_enter Tryd.func31, Tryd.ntmps31
  go_wp2
  go_ret
  exact ⟨rfl, rfl⟩

set_option maxHeartbeats 2000000 in
set_option maxRecDepth 100000 in
theorem isLong_any (w : World) (a : Option Addr) (L : List (List Int)) (cap : Nat) (h : RowsAt w a L) (hm : L.length ≤ 140737488351232) :
    Calls Tryd.prog 25 #[.slice a L.length cap] w fun e w' => e = .returned (.bool (decide (200000 < Cn.wt L))) ∧ w' = w := by
  have HL := Lib.hid h
  have hm63 : L.length ≤ 9223372036854775807 := by omega
  have hwt := fun a n c (hn : n ≤ 140737488351232) V => weight_any a n c hn V
  obtain ⟨N, hN⟩ : ∃ N, N = L.length := ⟨_, rfl⟩
  rw [← hN] at hm63 ⊢
  have HN := Lib.hid hN
  clear hN h hm
  go_enter Tryd.func25, Tryd.ntmps25
  go_wp2
  go_loopw [3, 8] (fun nv iv wr => ∃ t : Nat, t ≤ N ∧ nv = .int .i64 ((Cn.wt (L.take t) : Nat) : Int) ∧ iv = .int .i64 (t : Int) ∧ w = wr ∧ Hid (Cn.wt (L.take t) ≤ 200000)) (fun _ iv _ => N - (intOf iv).toNat)
  case atStart => exact ⟨0, Nat.zero_le _, rfl, rfl, rfl, Lib.hid (by simp [Cn.wt])⟩
  case round =>
    obtain ⟨t, ht, rfl, rfl, rfl, HT⟩ := hrel
    by_cases hlt : t < N
    · obtain ⟨l, hl⟩ : ∃ l, L[t]? = some l := ⟨_, List.getElem?_eq_getElem (by rw [← HN.out]; exact hlt)⟩
      obtain ⟨b, o, ra, rc, rfl, hc, _, _, hlm, _⟩ := HL.out t l hl
      have hst := Cn.wt_step hl
      obtain ⟨k, hk⟩ : ∃ k, k = l.length := ⟨_, rfl⟩
      rw [← hk] at hc hlm hst
      obtain ⟨z, hz⟩ : ∃ z, z = Cn.wt (L.take t) := ⟨_, rfl⟩
      rw [← hz] at hst HT ⊢
      have HS := Lib.hid hst
      have HZ := Lib.hid hz
      have HK := Lib.hid hk
      have HLM := Lib.hid hlm
      clear hst hz hk hl
      obtain ⟨y, hy⟩ : ∃ y, y = z + (k + 1) := ⟨_, rfl⟩
      have hw1 : wrap64 ((z : Int) + ((k : Int) + 1)) = (y : Int) := by have := HT.out; unfold wrap64; omega
      have HW1 := Lib.hid hw1
      have HY := Lib.hid hy
      clear hy hlm
      by_cases hy2 : y ≤ 200000
      · have e1 : decide ((200000 : Int) < (y : Int)) = false := xF (by omega)
        go_wp2_with (go_at_call 31; refine (hwt _ _ _ HLM.out _).mono ?_; rintro e w1 ⟨rfl, hw1'⟩; obtain rfl := hw1'.symm)
        refine ⟨⟨t + 1, by omega, ?_, by go_num, trivial, Lib.hid ?_⟩, by simp [intOf]; omega⟩
        · rw [HS.out, ← HY.out, HW1.out]
        · rw [HS.out, ← HY.out]; exact hy2
      · have e1 : decide ((200000 : Int) < (y : Int)) = true := xT (by omega)
        go_wp2_with (go_at_call 31; refine (hwt _ _ _ HLM.out _).mono ?_; rintro e w1 ⟨rfl, hw1'⟩; obtain rfl := hw1'.symm)
        go_ret
        refine ⟨?_, rfl⟩
        have h2 := Cn.wt_take L (t + 1)
        rw [HS.out, ← HY.out] at h2
        rw [xT (show 200000 < Cn.wt L by omega)]; rfl
    · obtain rfl : t = N := by omega
      go_wp2
      go_ret
      refine ⟨?_, rfl⟩
      have h2 := HT.out
      rw [HN.out, List.take_length] at h2
      rw [xF (show ¬ 200000 < Cn.wt L by omega)]; rfl

/-- the variable of a literal -/
def varOf (l v : Int) : Int := if l < -v then 0 else if l < 0 then -l else if l ≤ v then l else 0
set_option maxHeartbeats 1000000 in
theorem variable_any (l v : Int) (hl : I64 l) (hv : 0 ≤ v ∧ v ≤ 1000000) (w : World) :
    Calls Tryd.prog 39 #[.int .i64 l, .int .i64 v] w fun e w' => e = .returned (.int .i64 (varOf l v)) ∧ w' = w := by
  have hn : wrap64 (-v) = -v := by unfold wrap64; omega
  unfold I64 at hl
  unfold varOf
  by_cases h1 : l < -v
  · rw [if_pos h1]
    go_enter Tryd.func39, Tryd.ntmps39
    go_wp2
    go_ret
    exact ⟨rfl, rfl⟩
  · rw [if_neg h1]
    by_cases h2 : l < 0
    · rw [if_pos h2]
      have hn2 : wrap64 (-l) = -l := by unfold wrap64; omega
      go_enter Tryd.func39, Tryd.ntmps39
      go_wp2
      go_ret
      exact ⟨rfl, rfl⟩
    · rw [if_neg h2]
      by_cases h3 : l ≤ v
      · rw [if_pos h3]
        go_enter Tryd.func39, Tryd.ntmps39
        go_wp2
        go_ret
        exact ⟨rfl, rfl⟩
      · rw [if_neg h3]
        go_enter Tryd.func39, Tryd.ntmps39
        go_wp2
        go_ret
        exact ⟨rfl, rfl⟩
theorem varOf_fair {l v : Int} : (varOf l v == 0) = !Cn.fair v l := by
  unfold varOf Cn.fair
  by_cases h1 : l < -v
  · rw [if_pos h1]; simp; omega
  · rw [if_neg h1]
    by_cases h2 : l < 0
    · rw [if_pos h2]
      rw [beq_eq_false_iff_ne.2 (show -l ≠ 0 by omega), xT (show l ≠ 0 by omega), xT (show -v ≤ l by omega), xT (show l ≤ v by omega)]; rfl
    · rw [if_neg h2]
      by_cases h3 : l ≤ v
      · rw [if_pos h3, xT (show -v ≤ l by omega), xT h3]
        by_cases h4 : l = 0
        · subst h4; rfl
        · rw [beq_eq_false_iff_ne.2 h4, xT h4]; rfl
      · rw [if_neg h3, xF h3]; simp

set_option maxHeartbeats 2000000 in
set_option maxRecDepth 20000 in
theorem areLits_any (w : World) (f : Cn.Fm) (a : Option Addr) (cap : Nat) (h : RowsAt w a f.cl) (hm : f.cl.length ≤ 140737488351232) (hv : 0 ≤ f.vars ∧ f.vars ≤ 200000) :
    Calls Tryd.prog 26 #[.agg #[.int .i64 f.vars, .slice a f.cl.length cap]] w fun e w' => e = .returned (.bool (Cn.fairs f.vars f.cl)) ∧ w.grownBy w' none := by
  obtain ⟨vs, L⟩ := f
  simp only at *
  have hva := fun l (hl : I64 l) V => variable_any l vs hl ⟨hv.1, by omega⟩ V
  have HL := Lib.hid h
  have HV := Lib.hid hv
  have hm63 : L.length ≤ 9223372036854775807 := by omega
  obtain ⟨N, hN⟩ : ∃ N, N = L.length := ⟨_, rfl⟩
  rw [← hN] at hm63 ⊢
  have HN := Lib.hid hN
  clear hN h hm hv
  have HVA := Lib.hid hva
  clear hva
  have hga := World.grownBy_alloc w (.cells #[.int .i64 vs, .slice a N cap] 24) none
  have HG := Lib.hid hga
  clear hga
  go_enter Tryd.func26, Tryd.ntmps26
  go_wp2
  obtain ⟨W, hW⟩ : ∃ W, W = w.alloc (.cells #[.int .i64 vs, .slice a N cap] 24) := ⟨_, rfl⟩
  have c0 : W.cell? ⟨w.heap.size, 0, none⟩ = some (.int .i64 vs) := by rw [hW]; simp
  have HW := Lib.hid (show w.grownBy W none by rw [hW]; exact HG.out)
  rw [← hW]
  clear hW HG
  go_loopw [10] (fun iv wr => ∃ t : Nat, t ≤ N ∧ iv = .int .i64 (t : Int) ∧ W = wr ∧ Hid (Cn.fairs vs (L.take t) = true)) (fun iv _ => N - (intOf iv).toNat)
  case atStart => exact ⟨0, Nat.zero_le _, rfl, rfl, Lib.hid rfl⟩
  case round =>
    obtain ⟨t, ht, rfl, rfl, HT⟩ := hrel
    by_cases hlt : t < N
    · obtain ⟨l, hl⟩ : ∃ l, L[t]? = some l := ⟨_, List.getElem?_eq_getElem (by rw [← HN.out]; exact hlt)⟩
      obtain ⟨b, o, ra, rc, rfl, hc0, hnum, _, hlm, h64⟩ := HL.out t l hl
      have hc := HW.out.cell hc0 (by simp)
      have HNU := Lib.hid (hnum.on HW.out)
      have hstp : L.take (t + 1) = L.take t ++ [l] := by rw [List.take_add_one, hl]; rfl
      have HS := Lib.hid (And.intro hstp (And.intro h64 hl))
      clear hnum hc0 hstp h64 hl
      have hk63 : l.length ≤ 9223372036854775807 := by omega
      obtain ⟨K, hK⟩ : ∃ K, K = l.length := ⟨_, rfl⟩
      rw [← hK] at hc hk63
      have HK := Lib.hid hK
      clear hK hlm
      go_wp2
      go_loopw [16] (fun iv wr => ∃ u : Nat, u ≤ K ∧ iv = .int .i64 (u : Int) ∧ W = wr ∧ Hid ((l.take u).all (Cn.fair vs) = true)) (fun iv _ => K - (intOf iv).toNat)
      case atStart => exact ⟨0, Nat.zero_le _, rfl, rfl, Lib.hid rfl⟩
      case round =>
        obtain ⟨u, hu, rfl, rfl, HU⟩ := hrel
        by_cases hul : u < K
        · obtain ⟨x, hx⟩ : ∃ x, l[u]? = some x := ⟨_, List.getElem?_eq_getElem (by rw [← HK.out]; exact hul)⟩
          obtain ⟨b1, o1, rfl, hd⟩ := HNU.out u x hx
          have h64 := HS.out.2.1 x (List.mem_of_getElem? hx)
          have hva := HVA.out x h64
          have hvf := varOf_fair (l := x) (v := vs)
          have hstp : l.take (u + 1) = l.take u ++ [x] := by rw [List.take_add_one, hx]; rfl
          obtain ⟨R, hR⟩ : ∃ R, R = varOf x vs := ⟨_, rfl⟩
          rw [← hR] at hva hvf
          have HS2 := Lib.hid (And.intro hstp hx)
          clear hstp hx h64 hR
          cases hf : Cn.fair vs x with
          | true =>
            rw [hf] at hvf
            simp only [Bool.not_true] at hvf
            have HF := Lib.hid hf
            clear hf
            go_wp2_with (go_at_call 39; refine (hva _).mono ?_; rintro e w1 ⟨rfl, hw1'⟩; obtain rfl := hw1'.symm)
            refine ⟨⟨u + 1, by omega, by go_num, trivial, Lib.hid ?_⟩, by simp [intOf]; omega⟩
            rw [HS2.out.1, List.all_append, HU.out]
            simp [HF.out]
          | false =>
            rw [hf] at hvf
            simp only [Bool.not_false] at hvf
            have HF := Lib.hid hf
            clear hf
            go_wp2_with (go_at_call 39; refine (hva _).mono ?_; rintro e w1 ⟨rfl, hw1'⟩; obtain rfl := hw1'.symm)
            go_ret
            refine ⟨?_, HW.out⟩
            have : Cn.fairs vs L = false := by
              rw [Bool.eq_false_iff]
              intro h0
              have := Cn.fairs_mem h0 (List.mem_of_getElem? HS.out.2.2) (List.mem_of_getElem? HS2.out.2)
              rw [HF.out] at this
              cases this
            rw [this]; rfl
        · obtain rfl : u = K := by omega
          go_wp2
          refine ⟨⟨t + 1, by omega, by go_num, trivial, Lib.hid ?_⟩, by simp [intOf]; omega⟩
          rw [HS.out.1]
          unfold Cn.fairs
          have h1 := HT.out
          have h2 := HU.out
          rw [HK.out, List.take_length] at h2
          unfold Cn.fairs at h1
          rw [List.all_append, h1]
          simp only [List.all_cons, List.all_nil, Bool.and_true, Bool.true_and]
          exact h2
    · obtain rfl : t = N := by omega
      go_wp2
      go_ret
      have h1 := HT.out
      rw [HN.out, List.take_length] at h1
      exact ⟨by rw [h1]; rfl, HW.out⟩

set_option maxHeartbeats 2000000 in
set_option maxRecDepth 100000 in
theorem check_any (w : World) (f : Cn.Fm) (a : Option Addr) (cap : Nat) (h : RowsAt w a f.cl) (hm : f.cl.length ≤ 140737488351232) :
    Calls Tryd.prog 10 #[.agg #[.int .i64 f.vars, .slice a f.cl.length cap]] w fun e w' => e = .returned (.int .i64 (Cn.check f)) ∧ w.grownBy w' none := by
  have hlo := fun V (hg : w.grownBy V none) => isLong_any V a f.cl cap (h.on hg) hm
  have hal := fun V (hg : w.grownBy V none) hv => areLits_any V f a cap (h.on hg) hm hv
  obtain ⟨R, hR⟩ : ∃ R, R = Cn.check f := ⟨_, rfl⟩
  rw [← hR]
  unfold Cn.check at hR
  have HM := Lib.hid hm
  obtain ⟨vs, hvs⟩ : ∃ vs, vs = f.vars := ⟨_, rfl⟩
  obtain ⟨N, hN⟩ : ∃ N, N = f.cl.length := ⟨_, rfl⟩
  rw [← hvs] at hR hal ⊢
  rw [← hN] at hlo hal ⊢
  clear h hm hN hvs
  obtain ⟨l1, hl1⟩ : ∃ l1, l1 = decide (200000 < Cn.wt f.cl) := ⟨_, rfl⟩
  rw [← hl1] at hlo
  by_cases h1 : 200000 < vs
  · rw [if_pos (.inl h1)] at hR
    have HR := Lib.hid hR
    clear hR hlo hal hl1
    go_enter Tryd.func10, Tryd.ntmps10
    go_wp2
    go_ret
    exact ⟨by rw [HR.out]; rfl, World.grownBy_alloc _ _ _⟩
  · cases l1 with
    | true =>
      rw [if_pos (.inr (of_decide_eq_true hl1.symm))] at hR
      have HR := Lib.hid hR
      clear hR hal hl1
      go_enter Tryd.func10, Tryd.ntmps10
      go_wp2_with (go_at_call 25; refine (hlo _ (World.grownBy_alloc _ _ _)).mono ?_; rintro e w1 ⟨rfl, hw1'⟩; obtain rfl := hw1'.symm)
      go_ret
      exact ⟨by rw [HR.out]; rfl, World.grownBy_alloc _ _ _⟩
    | false =>
      rw [if_neg (by have := of_decide_eq_false hl1.symm; omega)] at hR
      by_cases h2 : vs < 0
      · rw [if_pos h2] at hR
        have HR := Lib.hid hR
        clear hR hal hl1
        go_enter Tryd.func10, Tryd.ntmps10
        go_wp2_with (go_at_call 25; refine (hlo _ (World.grownBy_alloc _ _ _)).mono ?_; rintro e w1 ⟨rfl, hw1'⟩; obtain rfl := hw1'.symm)
        go_ret
        exact ⟨by rw [HR.out]; rfl, World.grownBy_alloc _ _ _⟩
      · rw [if_neg h2] at hR
        have hal2 := fun V (hg : w.grownBy V none) => hal V hg ⟨by omega, by omega⟩
        cases hf : Cn.fairs vs f.cl with
        | true =>
          rw [hf, if_pos rfl] at hR
          rw [hf] at hal2
          have HR := Lib.hid hR
          clear hR hal hl1 hf
          go_enter Tryd.func10, Tryd.ntmps10
          go_wp2_with (first | (go_at_call 25; refine (hlo _ (World.grownBy_alloc _ _ _)).mono ?_; rintro e w1 ⟨rfl, hw1'⟩; obtain rfl := hw1'.symm) | (go_at_call 26; refine (hal2 _ (World.grownBy_alloc _ _ _)).mono ?_; rintro e w2 ⟨rfl, hg2⟩))
          go_ret
          exact ⟨by rw [HR.out]; rfl, (World.grownBy_alloc _ _ _).trans hg2⟩
        | false =>
          rw [hf, if_neg (by decide)] at hR
          rw [hf] at hal2
          have HR := Lib.hid hR
          clear hR hal hl1 hf
          go_enter Tryd.func10, Tryd.ntmps10
          go_wp2_with (first | (go_at_call 25; refine (hlo _ (World.grownBy_alloc _ _ _)).mono ?_; rintro e w1 ⟨rfl, hw1'⟩; obtain rfl := hw1'.symm) | (go_at_call 26; refine (hal2 _ (World.grownBy_alloc _ _ _)).mono ?_; rintro e w2 ⟨rfl, hg2⟩))
          go_ret
          exact ⟨by rw [HR.out]; rfl, (World.grownBy_alloc _ _ _).trans hg2⟩
end Go.Proofs.YtdhgopcfjomjaaaDoor
