/- cnf: clauseHolds, Holds. -/
import Derived.Test.YtdhgopcfjomjaaaDoorCnB
namespace Go.Proofs.YtdhgopcfjomjaaaDoor
open Go.RowKit Go.Maps Go.WideMaps
open Cn (I64)

theorem any_step {l : List Int} {t : Nat} {x : Int} (p : Int → Bool) (h : l[t]? = some x) : (l.take (t + 1)).any p = ((l.take t).any p || p x) := by
  rw [List.take_add_one, h, List.any_append]
  simp
theorem all_step {α : Type} {l : List α} {t : Nat} {x : α} (p : α → Bool) (h : l[t]? = some x) : (l.take (t + 1)).all p = ((l.take t).all p && p x) := by
  rw [List.take_add_one, h, List.all_append]
  simp
theorem any_of {α : Type} {l : List α} {t : Nat} {x : α} {p : α → Bool} (h : l[t]? = some x) (hp : p x = true) : l.any p = true := List.any_eq_true.2 ⟨x, List.mem_of_getElem? h, hp⟩
theorem all_not {α : Type} {l : List α} {t : Nat} {x : α} {p : α → Bool} (h : l[t]? = some x) (hp : p x = false) : l.all p = false := by
  rw [Bool.eq_false_iff]
  intro h0
  have := List.all_eq_true.1 h0 x (List.mem_of_getElem? h)
  rw [hp] at this
  cases this

theorem varOf_lit {l v : Int} (h : Cn.fair v l = true) : varOf l v = if l < 0 then -l else l := by
  have hb := Cn.fair_bnd h
  unfold varOf
  rw [if_neg (by omega)]
  split
  · rfl
  · rw [if_pos hb.2.2]
/-- the value that a literal looks at -/
theorem bool_at {w : World} {a : Option Addr} {m : List Bool} {i : Nat} (h : BoolsAt w a m) (hi : i < m.length) : ∃ b o, a = some ⟨b, o, none⟩ ∧ w.cell? ⟨b, o + i, none⟩ = some (.bool (m.getD i false)) :=
  h i (m.getD i false) (by rw [List.getD_eq_getElem?_getD, List.getElem?_eq_getElem hi]; rfl)

set_option maxHeartbeats 2000000 in
set_option maxRecDepth 100000 in
theorem clauseHolds_any (w : World) (ra : Option Addr) (l : List Int) (rc : Nat) (ma : Option Addr) (m : List Bool) (mc : Nat) (h : NumsAt w ra l) (hl : l.length ≤ 140737488351232) (hm : BoolsAt w ma m) (hml : 1 ≤ m.length ∧ m.length ≤ 200001)
    (hf : ∀ y ∈ l, Cn.fair ((m.length : Int) - 1) y = true) (h64 : ∀ y ∈ l, I64 y) :
    Calls Tryd.prog 28 #[.slice ra l.length rc, .slice ma m.length mc] w fun e w' => e = .returned (.bool (Cn.clH m l)) ∧ w' = w := by
  have HL := Lib.hid h
  have HM := Lib.hid hm
  have HF := Lib.hid hf
  have H64 := Lib.hid h64
  have hm63 : l.length ≤ 9223372036854775807 := by omega
  obtain ⟨N, hN⟩ : ∃ N, N = l.length := ⟨_, rfl⟩
  rw [← hN] at hm63 ⊢
  have HN := Lib.hid hN
  obtain ⟨K, hK⟩ : ∃ K, K = m.length := ⟨_, rfl⟩
  rw [← hK] at hml ⊢
  have HK := Lib.hid hK
  have HML := Lib.hid hml
  have hw1 : wrap64 ((K : Int) - 1) = (K : Int) - 1 := by unfold wrap64; omega
  clear hN h hm hf h64 hl hK hml
  go_enter Tryd.func28, Tryd.ntmps28
  go_wp2
  go_loopw [9] (fun iv wr => ∃ t : Nat, t ≤ N ∧ iv = .int .i64 (t : Int) ∧ w = wr ∧ Hid ((l.take t).any (Cn.litH m) = false)) (fun iv _ => N - (intOf iv).toNat)
  case atStart => exact ⟨0, Nat.zero_le _, rfl, rfl, Lib.hid rfl⟩
  case round =>
    obtain ⟨t, ht, rfl, rfl, HT⟩ := hrel
    by_cases hlt : t < N
    · obtain ⟨x, hx⟩ : ∃ x, l[t]? = some x := ⟨_, List.getElem?_eq_getElem (by rw [← HN.out]; exact hlt)⟩
      obtain ⟨b1, o1, rfl, hd⟩ := HL.out t x hx
      have hfx := HF.out x (List.mem_of_getElem? hx)
      have hix := H64.out x (List.mem_of_getElem? hx)
      rw [← HK.out] at hfx
      have hb := Cn.fair_bnd hfx
      have hva := fun V => variable_any x ((K : Int) - 1) hix ⟨by have := HML.out; omega, by have := HML.out; omega⟩ V
      rw [varOf_lit hfx] at hva
      have HX := Lib.hid hx
      by_cases h0 : x < 0
      · rw [if_pos h0] at hva
        obtain ⟨j, hj⟩ : ∃ j : Nat, -x = (j : Int) := ⟨(-x).toNat, by omega⟩
        obtain ⟨b2, o2, rfl, hd2⟩ := bool_at HM.out (i := j) (by rw [← HK.out]; omega)
        have e1 : decide ((0 : Int) < x) = false := xF (by omega)
        have hlh : Cn.litH m x = !m.getD j false := by unfold Cn.litH; rw [if_neg (by omega), hj]; rfl
        rw [hj] at hva
        have hjk : j < K := by omega
        have HLH := Lib.hid hlh
        clear hx hfx hix hb h0 hj hlh
        cases hg : m.getD j false with
        | true =>
          rw [hg] at hd2
          have HG := Lib.hid hg
          clear hg
          go_wp2_with (go_at_call 39; refine (hva _).mono ?_; rintro e w1 ⟨rfl, hw1'⟩; obtain rfl := hw1'.symm)
          refine ⟨⟨t + 1, by omega, by go_num, trivial, Lib.hid ?_⟩, by simp [intOf]; omega⟩
          rw [any_step _ HX.out, HT.out, HLH.out, HG.out]; rfl
        | false =>
          rw [hg] at hd2
          have HG := Lib.hid hg
          clear hg
          go_wp2_with (go_at_call 39; refine (hva _).mono ?_; rintro e w1 ⟨rfl, hw1'⟩; obtain rfl := hw1'.symm)
          go_ret
          refine ⟨?_, rfl⟩
          rw [show Cn.clH m l = true from any_of HX.out (by rw [HLH.out, HG.out]; rfl)]; rfl
      · rw [if_neg h0] at hva
        obtain ⟨j, hj⟩ : ∃ j : Nat, x = (j : Int) := ⟨x.toNat, by omega⟩
        obtain ⟨b2, o2, rfl, hd2⟩ := bool_at HM.out (i := j) (by rw [← HK.out]; omega)
        have e1 : decide ((0 : Int) < x) = true := xT (by omega)
        have hlh : Cn.litH m x = m.getD j false := by unfold Cn.litH; rw [if_pos (by omega), hj]; rfl
        have hjk : j < K := by omega
        have hva2 : ∀ V, Calls Tryd.prog 39 #[.int .i64 x, .int .i64 ((K : Int) - 1)] V fun e w' => e = .returned (.int .i64 (j : Int)) ∧ w' = V := fun V => by have := hva V; rwa [show (Value.int .i64 x : Value) = .int .i64 x from rfl, hj] at this ⊢
        have HLH := Lib.hid hlh
        clear hx hfx hix hb h0 hj hlh hva
        cases hg : m.getD j false with
        | false =>
          rw [hg] at hd2
          have HG := Lib.hid hg
          clear hg
          go_wp2_with (go_at_call 39; refine (hva2 _).mono ?_; rintro e w1 ⟨rfl, hw1'⟩; obtain rfl := hw1'.symm)
          refine ⟨⟨t + 1, by omega, by go_num, trivial, Lib.hid ?_⟩, by simp [intOf]; omega⟩
          rw [any_step _ HX.out, HT.out, HLH.out, HG.out]; rfl
        | true =>
          rw [hg] at hd2
          have HG := Lib.hid hg
          clear hg
          go_wp2_with (go_at_call 39; refine (hva2 _).mono ?_; rintro e w1 ⟨rfl, hw1'⟩; obtain rfl := hw1'.symm)
          go_ret
          refine ⟨?_, rfl⟩
          rw [show Cn.clH m l = true from any_of HX.out (by rw [HLH.out, HG.out])]; rfl
    · obtain rfl : t = N := by omega
      go_wp2
      go_ret
      refine ⟨?_, rfl⟩
      have h2 := HT.out
      rw [HN.out, List.take_length] at h2
      rw [show Cn.clH m l = false from h2]; rfl

set_option maxHeartbeats 2000000 in
set_option maxRecDepth 100000 in
theorem holds_any (w : World) (f : Cn.Fm) (a : Option Addr) (cap : Nat) (ma : Option Addr) (m : List Bool) (mc : Nat) (h : RowsAt w a f.cl) (hm : f.cl.length ≤ 140737488351232) (hv : I64 f.vars) (hb : BoolsAt w ma m) (_hml : m.length ≤ 9223372036854775807) :
    Calls Tryd.prog 13 #[.agg #[.int .i64 f.vars, .slice a f.cl.length cap], .slice ma m.length mc] w fun e w' => e = .returned (.bool (Cn.holds f m)) ∧ w.grownBy w' none := by
  obtain ⟨W0, hW0⟩ : ∃ W0, W0 = w.alloc (.cells #[.int .i64 f.vars, .slice a f.cl.length cap] 24) := ⟨_, rfl⟩
  have hg0 : w.grownBy W0 none := by rw [hW0]; exact World.grownBy_alloc _ _ _
  have c0 : W0.cell? ⟨w.heap.size, 0, none⟩ = some (.int .i64 f.vars) := by rw [hW0]; simp
  have c1 : W0.cell? ⟨w.heap.size, 1, none⟩ = some (.slice a f.cl.length cap) := by rw [hW0]; simp
  have hch := check_any W0 f a cap (h.on hg0) hm
  obtain ⟨R, hR⟩ : ∃ R, R = Cn.holds f m := ⟨_, rfl⟩
  rw [← hR]
  unfold Cn.holds at hR
  have hvals := Cn.check_vals f
  obtain ⟨C, hC⟩ : ∃ C, C = Cn.check f := ⟨_, rfl⟩
  rw [← hC] at hch hR hvals
  obtain ⟨L, hL⟩ : ∃ L, L = f.cl := ⟨_, rfl⟩
  obtain ⟨vs, hvs⟩ : ∃ vs, vs = f.vars := ⟨_, rfl⟩
  have HC := Lib.hid hC
  have HEL := Lib.hid (And.intro hL hvs)
  rw [← hL] at h hm hR c1 hch hW0 ⊢
  rw [← hvs] at hR hv c0 hch hW0 ⊢
  clear hL hvs hC
  obtain ⟨N, hN⟩ : ∃ N, N = L.length := ⟨_, rfl⟩
  have hm63 : L.length ≤ 9223372036854775807 := by omega
  rw [← hN] at hm63 c1 hch hW0 ⊢
  have HN := Lib.hid hN
  have HRW := Lib.hid (And.intro (h.on hg0) (hb.on hg0))
  obtain ⟨K, hK⟩ : ∃ K, K = m.length := ⟨_, rfl⟩
  rw [← hK] at hR _hml ⊢
  have HK := Lib.hid hK
  have HR := Lib.hid hR
  have HVS := Lib.hid hv
  have HGW := Lib.hid hg0
  clear hR hN h hm hb hK hv hg0
  by_cases hc : C = 0
  · subst hc
    have hok := Cn.check_ok.1 HC.out.symm
    rw [← HEL.out.1, ← HEL.out.2] at hok
    have HOK := Lib.hid hok
    have hw1 : wrap64 (vs + 1) = vs + 1 := by unfold wrap64; omega
    by_cases hkv : (K : Int) = vs + 1
    · have e1 : ((K : Int) != vs + 1) = false := by simp [hkv]
      have HKV := Lib.hid hkv
      have hml2 : 1 ≤ m.length ∧ m.length ≤ 200001 := by rw [← HK.out]; omega
      have HML := Lib.hid hml2
      clear hkv hml2 hok hvals
      have HCH := Lib.hid hch
      clear hch
      go_enter Tryd.func13, Tryd.ntmps13
      go_upto_region 3 with (rw [← hW0]; go_at_call 10; refine HCH.out.mono ?_; rintro e w1 ⟨rfl, hg1⟩; have d0 := hg1.cell c0 (by simp); have d1 := hg1.cell c1 (by simp); have HG1 := Lib.hid hg1; clear hg1)
      clear hW0 c0 c1 hw1
      go_wp2
      go_loopw [21] (fun iv wr => ∃ t : Nat, t ≤ N ∧ iv = .int .i64 (t : Int) ∧ w1 = wr ∧ Hid (Cn.allH m (L.take t) = true)) (fun iv _ => N - (intOf iv).toNat)
      case atStart => exact ⟨0, Nat.zero_le _, rfl, rfl, Lib.hid rfl⟩
      case round =>
        obtain ⟨t, ht, rfl, rfl, HT⟩ := hrel
        by_cases hlt : t < N
        · obtain ⟨l, hl⟩ : ∃ l, L[t]? = some l := ⟨_, List.getElem?_eq_getElem (by rw [← HN.out]; exact hlt)⟩
          obtain ⟨b, o, ra, rc, rfl, hc0, hnum, _, hlm, h64⟩ := (HRW.out.1.on HG1.out) t l hl
          have hcl := clauseHolds_any w1 ra l rc ma m mc hnum hlm (HRW.out.2.on HG1.out) HML.out (fun y hy => by have := Cn.fairs_mem HOK.out.2.2.2 (List.mem_of_getElem? hl) hy; rw [← HK.out, show (K : Int) - 1 = vs by have := HKV.out; omega]; exact this) h64
          rw [← HK.out] at hcl
          have HL := Lib.hid hl
          have HCL := Lib.hid hcl
          clear hnum hlm h64 hl hcl
          cases hg : Cn.clH m l with
          | true =>
            have hcl := HCL.out
            rw [hg] at hcl
            have HG := Lib.hid hg
            clear hg HCL
            go_wp2_with (go_at_call 28; refine hcl.mono ?_; rintro e w2 ⟨rfl, hw2⟩; obtain rfl := hw2.symm)
            refine ⟨⟨t + 1, by omega, by go_num, trivial, Lib.hid ?_⟩, by simp [intOf]; omega⟩
            unfold Cn.allH
            rw [all_step _ HL.out, HG.out]
            have := HT.out
            unfold Cn.allH at this
            rw [this]; rfl
          | false =>
            have hcl := HCL.out
            rw [hg] at hcl
            have HG := Lib.hid hg
            clear hg HCL
            go_wp2_with (go_at_call 28; refine hcl.mono ?_; rintro e w2 ⟨rfl, hw2⟩; obtain rfl := hw2.symm)
            go_ret
            refine ⟨?_, HGW.out.trans HG1.out⟩
            rw [HR.out, show Cn.allH m L = false from all_not HL.out HG.out, Bool.and_false]; rfl
        · obtain rfl : t = N := by omega
          go_wp2
          go_ret
          have h2 := HT.out
          rw [HN.out, List.take_length] at h2
          refine ⟨?_, HGW.out.trans HG1.out⟩
          rw [HR.out, h2, xT HKV.out]; rfl
    · have e1 : ((K : Int) != vs + 1) = true := by simp [hkv]
      have HKV := Lib.hid hkv
      clear hkv hok hvals
      have HCH := Lib.hid hch
      clear hch
      go_enter Tryd.func13, Tryd.ntmps13
      go_wp2_with (rw [← hW0]; go_at_call 10; refine HCH.out.mono ?_; rintro e w1 ⟨rfl, hg1⟩; have d0 := hg1.cell c0 (by simp); have d1 := hg1.cell c1 (by simp); have HG1 := Lib.hid hg1; clear hg1)
      go_ret
      refine ⟨?_, HGW.out.trans HG1.out⟩
      rw [HR.out, xF HKV.out, Bool.and_false, Bool.false_and]; rfl
  · have e1 : (C != 0) = true := by simp [hc]
    have HCC := Lib.hid hc
    clear hc hvals
    have HCH := Lib.hid hch
    clear hch
    go_enter Tryd.func13, Tryd.ntmps13
    go_wp2_with (rw [← hW0]; go_at_call 10; refine HCH.out.mono ?_; rintro e w1 ⟨rfl, hg1⟩; have HG1 := Lib.hid hg1; clear hg1)
    go_ret
    refine ⟨?_, HGW.out.trans HG1.out⟩
    rw [HR.out, xF HCC.out, Bool.false_and, Bool.false_and]; rfl
end Go.Proofs.YtdhgopcfjomjaaaDoor
