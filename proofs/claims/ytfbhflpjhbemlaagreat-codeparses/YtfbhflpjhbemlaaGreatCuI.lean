/- Stage 19: metronomeref19.Check (written by mkcui.py). -/
import Derived.Test.YtfbhflpjhbemlaaGreatJnJ
import Derived.Test.YtfbhflpjhbemlaaGreatJnH
namespace Go.Proofs.YtfbhflpjhbemlaaGreat
open Go.RowKit Go.Maps Go.WideMaps
open Cd (Kn)

theorem iniB_len {c : Cd.Code} (h : iniB c = true) : (c.init.length : Int) = c.cells := by
  unfold iniB at h
  rw [Bool.and_eq_true, beq_iff_eq] at h
  exact h.1
theorem cell_u {V : World} {b : Nat} {cs : List Value} {T : TypeId} (h : V.heap[b]? = some (.cells cs.toArray T (0, 0))) (j : Nat) : V.cell? ⟨b, j, none⟩ = cs[j]? := by
  rw [cell_of_row V b j _ _ _ h]
  simp
set_option maxHeartbeats 4000000 in
set_option maxRecDepth 100000 in
theorem rcheck_main (w : World) (c : Cd.Code) (ka : Option Addr) (kc : Nat) (ia : Option Addr) (ic : Nat) (ba : Option Addr) (bc : Nat) (hl : ¬ (60000 < c.body.length ∨ 8000 < c.kinds.length ∨ 64 < c.stack)) (hcn : Cnt c) (hc : CodeAt w c ka ia ba) : Calls Tryz.prog 27 #[.agg (codeV c ka kc ia ic ba bc)] w fun e w' => e = .returned (.int .i64 (Cd.check c)) ∧ w.grownBy w' none := by
  obtain ⟨R, hRR⟩ : ∃ R, R = Cd.check c := ⟨_, rfl⟩
  rw [← hRR]
  have HBAD : Hid (¬ ((c.kinds.all fun k => decide (0 < Bv.wid k)) = true ∧ iniB c = true ∧ opsB c.body = true) → R = 40) := Lib.hid (fun h => by rw [hRR]; exact chk_bad hl (fun x => h x.2))
  have HGOOD : Hid ((c.kinds.all fun k => decide (0 < Bv.wid k)) = true → iniB c = true → opsB c.body = true → R = if Cd.go c c.body (some [] :: List.replicate (c.body.length - 1) none) then 0 else 50) := Lib.hid (fun h1 h2 h3 => by rw [hRR]; exact chk_good hl hcn h1 h2 h3)
  have HC := Lib.hid hc
  have HST : Hid (c.stack ≤ 64 ∧ 0 ≤ c.stack ∧ 0 ≤ c.ins ∧ c.kinds.length ≤ 8000) := Lib.hid (by obtain ⟨⟨a1, a2⟩, ⟨a3, a4⟩, ⟨a5, a6⟩, a7, a8⟩ := hcn; omega)
  clear hRR hc
  obtain ⟨⟨a1, a2⟩, ⟨a3, a4⟩, ⟨a5, a6⟩, a7, a8⟩ := hcn
  obtain ⟨P, hP⟩ : ∃ P : Nat, c.ins + c.outs = P := ⟨(c.ins + c.outs).toNat, by omega⟩
  have hg := World.grownBy_alloc w (.cells (codeV c ka kc ia ic ba bc) 27) none
  have hr := heap_alloc_new w (.cells (codeV c ka kc ia ic ba bc) 27)
  have HB0 := Lib.hid (And.intro hg hr)
  clear hg hr
  obtain ⟨ks, hks⟩ : ∃ ks, ks = c.kinds := ⟨_, rfl⟩
  obtain ⟨is, his⟩ : ∃ is, is = c.init := ⟨_, rfl⟩
  obtain ⟨bs, hbs⟩ : ∃ bs, bs = c.body := ⟨_, rfl⟩
  have HCK : Hid (NumsAt w ka ks ∧ NumsAt w ia is ∧ InssAt w ba bs) := Lib.hid (by rw [hks, his, hbs]; exact ⟨HC.out.kinds, HC.out.init, HC.out.body⟩)
  have HE := Lib.hid (And.intro hks (And.intro his hbs))
  unfold codeV at HB0
  unfold codeV
  rw [← hks, ← his, ← hbs] at HB0
  rw [← hks, ← hbs] at hl
  rw [← hks] at a2 a4 a6 a8
  rw [← hks, ← his, ← hbs]
  clear hks his hbs
  obtain ⟨nk, hnk⟩ : ∃ nk, nk = ks.length := ⟨_, rfl⟩
  obtain ⟨ni, hni⟩ : ∃ ni, ni = is.length := ⟨_, rfl⟩
  obtain ⟨nb, hnb⟩ : ∃ nb, nb = bs.length := ⟨_, rfl⟩
  rw [← hnk, ← hni, ← hnb] at HB0
  rw [← hnk, ← hnb] at hl
  rw [← hnk] at a2 a4 a6 a8
  rw [← hnk, ← hni, ← hnb]
  have HN := Lib.hid (And.intro hnk (And.intro hni hnb))
  clear hnk hni hnb
  have HX : Hid (∃ x1 x2 x3 x4, x1 = c.ins ∧ x2 = c.outs ∧ x3 = c.cells ∧ x4 = c.stack) := Lib.hid ⟨_, _, _, _, rfl, rfl, rfl, rfl⟩
  obtain ⟨x1, x2, x3, x4, hx1, hx2, hx3, hx4⟩ := HX.out
  clear HX
  rw [← hx1, ← hx2, ← hx3, ← hx4] at HB0
  rw [← hx4] at hl a7
  rw [← hx1] at a1 a2
  rw [← hx2] at a3 a4
  rw [← hx3] at a5 a6
  rw [← hx1, ← hx2, ← hx3] at a8
  rw [← hx1, ← hx2] at hP
  rw [← hx1, ← hx2, ← hx3, ← hx4]
  have HXX := Lib.hid (And.intro hx1 (And.intro hx2 (And.intro hx3 hx4)))
  clear hx1 hx2 hx3 hx4
  have e1 : decide ((60000 : Int) < (nb : Int)) = false := dF (by omega)
  have e2 : decide ((8000 : Int) < (nk : Int)) = false := dF (by omega)
  have e3 : decide ((64 : Int) < x4) = false := dF (by omega)
  have f0 : decide (x1 < 0) = false := dF (by omega)
  have f1 : decide (x2 < 0) = false := dF (by omega)
  have f2 : decide (x3 < 0) = false := dF (by omega)
  have f3 : decide (x4 < 0) = false := dF (by omega)
  have f4 : decide ((nk : Int) < x1) = false := dF (by omega)
  have f5 : decide ((nk : Int) < x2) = false := dF (by omega)
  have f6 : decide ((nk : Int) < x3) = false := dF (by omega)
  have ew1 : wrap64 (x1 + x2) = (P : Int) := by unfold wrap64; omega
  have ew2 : wrap64 ((P : Int) + x3) = (P : Int) + x3 := by unfold wrap64; omega
  have f7 : decide ((nk : Int) < (P : Int) + x3) = false := dF (by omega)
  have HNUM : Hid (nb ≤ 60000 ∧ nk ≤ 8000 ∧ x4 ≤ 64 ∧ 0 ≤ x4 ∧ (P : Int) + x3 ≤ nk ∧ 0 ≤ x3) := Lib.hid (by omega)
  have HPP := Lib.hid hP
  have n1 : nk ≤ 9223372036854775807 := by omega
  have n2 : nb ≤ 9223372036854775807 := by omega
  clear hl a1 a2 a3 a4 a5 a6 a7 a8 hP
  go_enter Tryz.func27, Tryz.ntmps27
  go_wp2
  have HEW1 := Lib.hid ew1
  clear e1 e2 e3 f0 f1 f2 f3 f4 f5 f6 f7 ew2 ew1
  go_loopw [4] (fun iv wr => ∃ t : Nat, t ≤ nk ∧ iv = .int .i64 (t : Int) ∧ Hid ((ks.take t).all (fun k => decide (0 < Bv.wid k)) = true ∧ w.grownBy wr none ∧ wr.heap[w.heap.size]? = some (.cells #[.slice ka nk kc, .int .i64 x1, .int .i64 x2, .int .i64 x3, .int .i64 x4, .slice ia ni ic, .slice ba nb bc] 27 (0, 0)))) (fun i _ => nk - (intOf i).toNat)
  case atStart => exact ⟨0, Nat.zero_le _, rfl, Lib.hid ⟨by simp, HB0.out.1, HB0.out.2⟩⟩
  case round =>
    obtain ⟨t, ht, rfl, HT⟩ := hrel
    have u0 := cell_of_row wr _ 0 _ _ _ HT.out.2.2
    by_cases hlt : t < nk
    · obtain ⟨x, hx⟩ : ∃ x, ks[t]? = some x := ⟨_, List.getElem?_eq_getElem (by rw [← HN.out.1]; exact hlt)⟩
      obtain ⟨b1, o1, rfl, hc1⟩ := HCK.out.1 t x hx
      have p1 := HT.out.2.1.cell hc1 (by simp)
      have HXk := Lib.hid hx
      clear hx hc1
      have hkx := fun V => rwidth_any x V
      by_cases hxy : Bv.wid x = 0
      · have e2 : (Bv.wid x == 0) = true := by simpa using hxy
        have HR : Hid (R = 40) := Lib.hid (HBAD.out (fun h => by
          have := List.all_eq_true.1 h.1 x (by rw [← HE.out.1]; exact List.mem_iff_getElem?.2 ⟨_, HXk.out⟩)
          simp at this
          omega))
        generalize Bv.wid x = wx at *
        clear hxy
        go_wp2_with (go_at_call 40; refine (hkx _).mono ?_; rintro e w' ⟨rfl, hw'⟩; obtain rfl := hw'.symm)
        go_ret
        exact ⟨(by rw [HR.out]; rfl), HT.out.2.1⟩
      · have e2 : (Bv.wid x == 0) = false := by simpa using hxy
        have HXY : Hid (decide (0 < Bv.wid x) = true) := Lib.hid (dT (by have := wid_nn x; omega))
        generalize hwx : Bv.wid x = wx at *
        have HWX := Lib.hid hwx
        clear hxy hwx
        go_wp2_with (go_at_call 40; refine (hkx _).mono ?_; rintro e w' ⟨rfl, hw'⟩; obtain rfl := hw'.symm)
        go_roundw
        case measure => simp [intOf]; omega
        refine ⟨t + 1, by omega, by go_num, Lib.hid ⟨?_, HT.out.2⟩⟩
        rw [List.take_add_one, List.all_append, HXk.out, HT.out.1]
        simp only [Option.toList_some, List.all_cons, List.all_nil, Bool.and_true, Bool.true_and]
        rw [HWX.out]
        exact HXY.out
    · obtain rfl : nk = t := by omega
      have HK1 : Hid ((c.kinds.all fun k => decide (0 < Bv.wid k)) = true) := Lib.hid (by
        have := HT.out.1
        rw [HN.out.1, List.take_length, HE.out.1] at this
        exact this)
      have u3 := cell_of_row wr _ 3 _ _ _ HT.out.2.2
      have u5 := cell_of_row wr _ 5 _ _ _ HT.out.2.2
      by_cases hne : (ni : Int) = x3
      · subst hne
        have d1 : ((ni : Int) != (ni : Int)) = false := by simp
        have n3 : ni ≤ 9223372036854775807 := by have := HNUM.out; omega
        go_wp2
        clear u0 u3 u5 d1
        obtain ⟨w1, hw1⟩ : ∃ w1, w1 = wr := ⟨_, rfl⟩
        rw [← hw1] at HT ⊢
        have HT1 : Hid (w.grownBy w1 none ∧ w1.heap[w.heap.size]? = some (.cells #[.slice ka nk kc, .int .i64 x1, .int .i64 x2, .int .i64 (ni : Int), .int .i64 x4, .slice ia ni ic, .slice ba nb bc] 27 (0, 0))) := Lib.hid HT.out.2
        clear HT hw1 hlt ht
        go_loopw [5] (fun iv wr => ∃ t : Nat, t ≤ ni ∧ iv = .int .i64 (t : Int) ∧ Hid (((is.take t).zip (ks.drop P)).all (fun p => Bv.isv p.2 p.1) = true ∧ w.grownBy wr none ∧ wr.heap[w.heap.size]? = some (.cells #[.slice ka nk kc, .int .i64 x1, .int .i64 x2, .int .i64 (ni : Int), .int .i64 x4, .slice ia ni ic, .slice ba nb bc] 27 (0, 0)))) (fun i _ => ni - (intOf i).toNat)
        case atStart => exact ⟨0, Nat.zero_le _, rfl, Lib.hid ⟨by simp, HT1.out⟩⟩
        case round =>
          obtain ⟨t, ht, rfl, HT⟩ := hrel
          have u3 := cell_of_row wr _ 3 _ _ _ HT.out.2.2
          by_cases hlt : t < ni
          · obtain ⟨x, hx⟩ : ∃ x, is[t]? = some x := ⟨_, List.getElem?_eq_getElem (by rw [← HN.out.2.1]; exact hlt)⟩
            have hPt : P + t < ks.length := by rw [← HN.out.1]; have := HNUM.out; omega
            obtain ⟨y, hy⟩ : ∃ y, ks[P + t]? = some y := ⟨_, List.getElem?_eq_getElem hPt⟩
            obtain ⟨b1, o1, rfl, hc1⟩ := HCK.out.2.1 t x hx
            obtain ⟨b2, o2, rfl, hc2⟩ := HCK.out.1 (P + t) y hy
            have p1 := HT.out.2.1.cell hc1 (by simp)
            have p2 := HT.out.2.1.cell hc2 (by simp)
            have HXk := Lib.hid (And.intro hx hy)
            have hPn : P + t < nk := by have := HNUM.out; rw [← HN.out.1] at hPt; exact hPt
            have ew3 : wrap64 ((P : Int) + (t : Int)) = ((P + t : Nat) : Int) := by have := HNUM.out; unfold wrap64; omega
            clear hx hy hc1 hc2
            have u0 := cell_of_row wr _ 0 _ _ _ HT.out.2.2
            have u1 := cell_of_row wr _ 1 _ _ _ HT.out.2.2
            have u2 := cell_of_row wr _ 2 _ _ _ HT.out.2.2
            have u5 := cell_of_row wr _ 5 _ _ _ HT.out.2.2
            have hkx := fun V => ris_any y x V
            obtain ⟨q, hq⟩ : ∃ q, q = P + t := ⟨_, rfl⟩
            rw [← hq] at p2 ew3 hPn
            clear hq
            have HEW3 := Lib.hid ew3
            have HPN := Lib.hid hPn
            clear ew3 hPn hPt
            cases hv : Bv.isv y x with
            | true =>
              have HV := Lib.hid hv
              simp only [hv] at hkx
              clear hv
              go_upto_region 16 with fail
              refine wp_region_L (S := fun V => wr.grownBy V none) (Z := []) (by kernel_rfl) ?_
              have hS : wr.grownBy wr.drew none := ⟨rfl, rfl, rfl, Nat.le_refl _, fun _ _ _ => rfl⟩
              (try simp only [Act.put, sA, sB, sC])
              refine t1 0 107 (.pointer (some ⟨w.heap.size, 0, none⟩)) hS ?_
              (try simp only [Act.put, sA, sB, sC])
              refine t2 1 108 (.slice (some ⟨b2, o2, none⟩) nk kc) (fun w' hw' => ?_) hS ?_
              · have z := hw'.cell u0 (by simp); clear hw' hS; go_simp
              (try simp only [Act.put, sA, sB, sC])
              refine t1 2 109 (.pointer (some ⟨w.heap.size, 1, none⟩)) hS ?_
              (try simp only [Act.put, sA, sB, sC])
              refine t2 3 110 (.int .i64 x1) (fun w' hw' => ?_) hS ?_
              · have z := hw'.cell u1 (by simp); clear hw' hS; go_simp
              (try simp only [Act.put, sA, sB, sC])
              refine t1 4 111 (.pointer (some ⟨w.heap.size, 2, none⟩)) hS ?_
              (try simp only [Act.put, sA, sB, sC])
              refine t2 5 112 (.int .i64 x2) (fun w' hw' => ?_) hS ?_
              · have z := hw'.cell u2 (by simp); clear hw' hS; go_simp
              (try simp only [Act.put, sA, sB, sC])
              refine t2 6 113 (.int .i64 (P : Int)) (fun w' hw' => ?_) hS ?_
              · have ew1 : IntKind.i64.wrap (x1 + x2) = (P : Int) := by rw [IntKind.wrap_i64]; have := HEW1.out; unfold wrap64 at this; omega
                clear hw' hS
                go_simp
              (try simp only [Act.put, sA, sB, sC])
              refine t1 7 114 (.int .i64 (t : Int)) hS ?_
              (try simp only [Act.put, sA, sB, sC])
              refine t2 8 115 (.int .i64 (q : Int)) (fun w' hw' => ?_) hS ?_
              · have ew3 : IntKind.i64.wrap ((P : Int) + (t : Int)) = (q : Int) := by rw [IntKind.wrap_i64]; have := HEW3.out; unfold wrap64 at this; omega
                clear hw' hS
                go_simp
              (try simp only [Act.put, sA, sB, sC])
              refine t2 9 116 (.pointer (some ⟨b2, o2 + q, none⟩)) (fun w' hw' => ?_) hS ?_
              · clear hw' hS; have hPn := HPN.out; go_simp; (try omega); (try (intro e; omega))
              (try simp only [Act.put, sA, sB, sC])
              refine t2 10 117 (.int .i64 y) (fun w' hw' => ?_) hS ?_
              · have z := hw'.cell p2 (by simp); clear hw' hS; go_simp
              (try simp only [Act.put, sA, sB, sC])
              refine t1 11 118 (.pointer (some ⟨w.heap.size, 5, none⟩)) hS ?_
              (try simp only [Act.put, sA, sB, sC])
              refine t2 12 119 (.slice (some ⟨b1, o1, none⟩) ni ic) (fun w' hw' => ?_) hS ?_
              · have z := hw'.cell u5 (by simp); clear hw' hS; go_simp
              (try simp only [Act.put, sA, sB, sC])
              refine t1 13 120 (.int .i64 (t : Int)) hS ?_
              (try simp only [Act.put, sA, sB, sC])
              refine t2 14 121 (.pointer (some ⟨b1, o1 + t, none⟩)) (fun w' hw' => ?_) hS ?_
              · clear hw' hS; go_simp; (try (intro e; omega))
              (try simp only [Act.put, sA, sB, sC])
              refine t2 15 122 (.int .i64 x) (fun w' hw' => ?_) hS ?_
              · have z := hw'.cell p1 (by simp); clear hw' hS; go_simp
              (try simp only [Act.put, sA, sB, sC])
              refine wpL_call (i := 16) (d := 123) (g := 41) (args := #[.int .i64 y, .int .i64 x]) (R := fun v V => v = .bool true ∧ wr.grownBy V none) (by kernel_rfl) rfl rfl (by kernel_rfl) (by kernel_rfl) ((hkx _).mono (by rintro e w' ⟨rfl, rfl⟩; exact ⟨_, rfl, rfl, hS⟩)) (fun v V h => h.2) (fun v V h => ?_)
              clear hS
              obtain ⟨rfl, hS⟩ := h
              (try simp only [Act.put, sA, sB, sC])
              refine t1 17 6 (.bool true) hS ?_
              (try simp only [Act.put, sA, sB, sC])
              refine wpL_done (by kernel_rfl) ?_ _
              have HW2 : Hid (w.grownBy V none ∧ V.heap[w.heap.size]? = some (.cells #[.slice (some ⟨b2, o2, none⟩) nk kc, .int .i64 x1, .int .i64 x2, .int .i64 (ni : Int), .int .i64 x4, .slice (some ⟨b1, o1, none⟩) ni ic, .slice ba nb bc] 27 (0, 0))) := Lib.hid ⟨HT.out.2.1.trans hS, (hS.block _ (gl HT.out.2.2) (by simp)).trans HT.out.2.2⟩
              clear hS
              go_wp2
              go_roundw
              case measure => simp [intOf]; omega
              refine ⟨t + 1, by omega, by go_num, Lib.hid ⟨?_, HW2.out.1, HW2.out.2⟩⟩
              exact zip_up HXk.out.1 (by rw [List.getElem?_drop]; exact HXk.out.2) HT.out.1 HV.out
            | false =>
              have HV : Hid (R = 40) := Lib.hid (HBAD.out (fun h => by
                have h2 := h.2.1
                unfold iniB at h2
                rw [Bool.and_eq_true, List.all_eq_true, show c.ins + c.outs = (P : Int) by rw [← HPP.out, HXX.out.1, HXX.out.2.1], Int.toNat_natCast, ← HE.out.1, ← HE.out.2.1] at h2
                have h3 := h2.2 (x, y) (List.mem_iff_getElem?.2 ⟨t, by rw [List.getElem?_zip_eq_some]; exact ⟨HXk.out.1, by rw [List.getElem?_drop]; exact HXk.out.2⟩⟩)
                simp only at h3
                rw [hv] at h3
                cases h3))
              simp only [hv] at hkx
              clear hv
              go_upto_region 16 with fail
              refine wp_region_L (S := fun V => wr.grownBy V none) (Z := []) (by kernel_rfl) ?_
              have hS : wr.grownBy wr.drew none := ⟨rfl, rfl, rfl, Nat.le_refl _, fun _ _ _ => rfl⟩
              (try simp only [Act.put, sA, sB, sC])
              refine t1 0 107 (.pointer (some ⟨w.heap.size, 0, none⟩)) hS ?_
              (try simp only [Act.put, sA, sB, sC])
              refine t2 1 108 (.slice (some ⟨b2, o2, none⟩) nk kc) (fun w' hw' => ?_) hS ?_
              · have z := hw'.cell u0 (by simp); clear hw' hS; go_simp
              (try simp only [Act.put, sA, sB, sC])
              refine t1 2 109 (.pointer (some ⟨w.heap.size, 1, none⟩)) hS ?_
              (try simp only [Act.put, sA, sB, sC])
              refine t2 3 110 (.int .i64 x1) (fun w' hw' => ?_) hS ?_
              · have z := hw'.cell u1 (by simp); clear hw' hS; go_simp
              (try simp only [Act.put, sA, sB, sC])
              refine t1 4 111 (.pointer (some ⟨w.heap.size, 2, none⟩)) hS ?_
              (try simp only [Act.put, sA, sB, sC])
              refine t2 5 112 (.int .i64 x2) (fun w' hw' => ?_) hS ?_
              · have z := hw'.cell u2 (by simp); clear hw' hS; go_simp
              (try simp only [Act.put, sA, sB, sC])
              refine t2 6 113 (.int .i64 (P : Int)) (fun w' hw' => ?_) hS ?_
              · have ew1 : IntKind.i64.wrap (x1 + x2) = (P : Int) := by rw [IntKind.wrap_i64]; have := HEW1.out; unfold wrap64 at this; omega
                clear hw' hS
                go_simp
              (try simp only [Act.put, sA, sB, sC])
              refine t1 7 114 (.int .i64 (t : Int)) hS ?_
              (try simp only [Act.put, sA, sB, sC])
              refine t2 8 115 (.int .i64 (q : Int)) (fun w' hw' => ?_) hS ?_
              · have ew3 : IntKind.i64.wrap ((P : Int) + (t : Int)) = (q : Int) := by rw [IntKind.wrap_i64]; have := HEW3.out; unfold wrap64 at this; omega
                clear hw' hS
                go_simp
              (try simp only [Act.put, sA, sB, sC])
              refine t2 9 116 (.pointer (some ⟨b2, o2 + q, none⟩)) (fun w' hw' => ?_) hS ?_
              · clear hw' hS; have hPn := HPN.out; go_simp; (try omega); (try (intro e; omega))
              (try simp only [Act.put, sA, sB, sC])
              refine t2 10 117 (.int .i64 y) (fun w' hw' => ?_) hS ?_
              · have z := hw'.cell p2 (by simp); clear hw' hS; go_simp
              (try simp only [Act.put, sA, sB, sC])
              refine t1 11 118 (.pointer (some ⟨w.heap.size, 5, none⟩)) hS ?_
              (try simp only [Act.put, sA, sB, sC])
              refine t2 12 119 (.slice (some ⟨b1, o1, none⟩) ni ic) (fun w' hw' => ?_) hS ?_
              · have z := hw'.cell u5 (by simp); clear hw' hS; go_simp
              (try simp only [Act.put, sA, sB, sC])
              refine t1 13 120 (.int .i64 (t : Int)) hS ?_
              (try simp only [Act.put, sA, sB, sC])
              refine t2 14 121 (.pointer (some ⟨b1, o1 + t, none⟩)) (fun w' hw' => ?_) hS ?_
              · clear hw' hS; go_simp; (try (intro e; omega))
              (try simp only [Act.put, sA, sB, sC])
              refine t2 15 122 (.int .i64 x) (fun w' hw' => ?_) hS ?_
              · have z := hw'.cell p1 (by simp); clear hw' hS; go_simp
              (try simp only [Act.put, sA, sB, sC])
              refine wpL_call (i := 16) (d := 123) (g := 41) (args := #[.int .i64 y, .int .i64 x]) (R := fun v V => v = .bool false ∧ wr.grownBy V none) (by kernel_rfl) rfl rfl (by kernel_rfl) (by kernel_rfl) ((hkx _).mono (by rintro e w' ⟨rfl, rfl⟩; exact ⟨_, rfl, rfl, hS⟩)) (fun v V h => h.2) (fun v V h => ?_)
              clear hS
              obtain ⟨rfl, hS⟩ := h
              (try simp only [Act.put, sA, sB, sC])
              refine t1 17 6 (.bool false) hS ?_
              (try simp only [Act.put, sA, sB, sC])
              refine wpL_done (by kernel_rfl) ?_ _
              have HW2 : Hid (w.grownBy V none ∧ V.heap[w.heap.size]? = some (.cells #[.slice (some ⟨b2, o2, none⟩) nk kc, .int .i64 x1, .int .i64 x2, .int .i64 (ni : Int), .int .i64 x4, .slice (some ⟨b1, o1, none⟩) ni ic, .slice ba nb bc] 27 (0, 0))) := Lib.hid ⟨HT.out.2.1.trans hS, (hS.block _ (gl HT.out.2.2) (by simp)).trans HT.out.2.2⟩
              clear hS
              go_wp2
              go_ret
              exact ⟨(by rw [HV.out]; rfl), HW2.out.1⟩
          · obtain rfl : ni = t := by omega
            have HK2 : Hid (iniB c = true) := Lib.hid (by
              have := HT.out.1
              rw [HN.out.2.1, List.take_length] at this
              unfold iniB
              rw [show c.ins + c.outs = (P : Int) by rw [← HPP.out, HXX.out.1, HXX.out.2.1], Int.toNat_natCast, ← HE.out.1, ← HE.out.2.1, this, ← HXX.out.2.2.1, beq_iff_eq.2 (by rw [← HN.out.2.1]), Bool.true_and])
            have u6 := cell_of_row wr _ 6 _ _ _ HT.out.2.2
            by_cases hb0 : nb = 0
            · subst hb0
              have HR : Hid (R = 40) := Lib.hid (HBAD.out (fun h => by
                have h3 := h.2.2
                rw [← HE.out.2.2, show bs = [] from List.eq_nil_of_length_eq_zero HN.out.2.2.symm] at h3
                cases h3))
              go_wp2
              go_ret
              exact ⟨(by rw [HR.out]; rfl), HT.out.2.1⟩
            obtain ⟨m, hmn⟩ : ∃ m, nb = m + 1 := ⟨nb - 1, by omega⟩
            obtain ⟨x, hx⟩ : ∃ x, bs[m]? = some x := ⟨_, List.getElem?_eq_getElem (by rw [← HN.out.2.2]; omega)⟩
            have HLAST : Hid (bs.getLast? = some x) := Lib.hid (by rw [List.getLast?_eq_getElem?, ← HN.out.2.2, hmn, Nat.add_sub_cancel, hx])
            obtain ⟨b1, o1, rfl, hc1, -, -⟩ := HCK.out.2.2 m x hx
            have p1 := HT.out.2.1.cell hc1 (by simp)
            rw [show m = nb - 1 by omega] at p1
            have hmlt : 0 < nb := by omega
            have HMN := Lib.hid hmn
            have d0 : ((nb : Int) == 0) = false := by rw [beq_eq_false_iff_ne]; omega
            clear hx hc1 hmn hb0
            by_cases ho : x.op = 9
            · have d9 : (x.op != 9) = false := by simp [ho]
              have HO := Lib.hid ho
              clear ho
              generalize hxo : x.op = xo at p1 d9
              clear hxo
              go_wp2
              clear u3 u6 p1 d9 d0 hmlt
              obtain ⟨w2, hw2⟩ : ∃ w2, w2 = wr := ⟨_, rfl⟩
              rw [← hw2] at HT ⊢
              have HT1 : Hid (w.grownBy w2 none ∧ w2.heap[w.heap.size]? = some (.cells #[.slice ka nk kc, .int .i64 x1, .int .i64 x2, .int .i64 (ni : Int), .int .i64 x4, .slice ia ni ic, .slice (some ⟨b1, o1, none⟩) nb bc] 27 (0, 0))) := Lib.hid HT.out.2
              clear HT hw2 hlt ht
              go_loopw [7] (fun iv wr => ∃ t : Nat, t ≤ nb ∧ iv = .int .i64 (t : Int) ∧ Hid ((bs.take t).all (fun x => decide (1 ≤ x.op) && decide (x.op ≤ 9)) = true ∧ w.grownBy wr none ∧ wr.heap[w.heap.size]? = some (.cells #[.slice ka nk kc, .int .i64 x1, .int .i64 x2, .int .i64 (ni : Int), .int .i64 x4, .slice ia ni ic, .slice (some ⟨b1, o1, none⟩) nb bc] 27 (0, 0)))) (fun i _ => nb - (intOf i).toNat)
              case atStart => exact ⟨0, Nat.zero_le _, rfl, Lib.hid ⟨by simp, HT1.out⟩⟩
              case round =>
                obtain ⟨t, ht, rfl, HT⟩ := hrel
                have u6 := cell_of_row wr _ 6 _ _ _ HT.out.2.2
                by_cases hlt : t < nb
                · obtain ⟨z, hz⟩ : ∃ z, bs[t]? = some z := ⟨_, List.getElem?_eq_getElem (by rw [← HN.out.2.2]; exact hlt)⟩
                  obtain ⟨b2, o2, hbo, hc1, -, -⟩ := HCK.out.2.2 t z hz
                  cases hbo
                  have p1 := HT.out.2.1.cell hc1 (by simp)
                  have HZ := Lib.hid hz
                  clear hz hc1
                  obtain ⟨zo, zn, zk⟩ := z
                  simp only at p1
                  by_cases h1 : zo < 1
                  · have d1 : decide (zo < 1) = true := dT h1
                    have HR : Hid (R = 40) := Lib.hid (HBAD.out (fun h => by rw [← HE.out.2.2, opsB_no HZ.out (.inl h1)] at h; cases h.2.2))
                    clear h1
                    go_wp2
                    go_ret
                    exact ⟨(by rw [HR.out]; rfl), HT.out.2.1⟩
                  · have d1 : decide (zo < 1) = false := dF h1
                    by_cases h9 : 9 < zo
                    · have d9 : decide (9 < zo) = true := dT h9
                      have HR : Hid (R = 40) := Lib.hid (HBAD.out (fun h => by rw [← HE.out.2.2, opsB_no HZ.out (.inr h9)] at h; cases h.2.2))
                      clear h1 h9
                      go_wp2
                      go_ret
                      exact ⟨(by rw [HR.out]; rfl), HT.out.2.1⟩
                    · have d9 : decide (9 < zo) = false := dF h9
                      go_wp2
                      go_roundw
                      case measure => simp [intOf]; omega
                      refine ⟨t + 1, by omega, by go_num, Lib.hid ⟨?_, HT.out.2⟩⟩
                      rw [List.take_add_one, List.all_append, HZ.out, HT.out.1]
                      simp
                      omega
                · obtain rfl : nb = t := by omega
                  have HK3 : Hid (opsB bs = true) := Lib.hid (by
                    have := HT.out.1
                    rw [HN.out.2.2, List.take_length] at this
                    unfold opsB
                    rw [this, HLAST.out]
                    simpa using HO.out)
                  have hmk1 := fun V => mk_nils nb (by have := HNUM.out; omega) V
                  have hmk2 := fun V => mk_nots nb (by have := HNUM.out; omega) V
                  have hb1 : 0 < nb := by have := HMN.out; omega
                  have HD : Hid (∃ D, D = Cd.go c c.body (some [] :: List.replicate (c.body.length - 1) none)) := Lib.hid ⟨_, rfl⟩
                  obtain ⟨D, hD⟩ := HD.out
                  clear HD
                  have HRD : Hid (R = if D then 0 else 50) := Lib.hid (by rw [hD]; exact HGOOD.out HK1.out HK2.out (by rw [← HE.out.2.2]; exact HK3.out))
                  rw [← HE.out.2.2, ← HN.out.2.2] at hD
                  have HD := Lib.hid hD
                  clear hD
                  have hgA := World.grownBy_alloc wr (.cells (madeCells #[.slice none 0 0] nb) 24) none
                  have u6b := hgA.cell u6 (by simp)
                  have HGA := Lib.hid hgA
                  clear hgA
                  go_upto_region 28 with fail
                  refine wp_as fun W3 hW3 => ?_
                  have hgB := World.grownBy_alloc (wr.alloc (.cells (madeCells #[.slice none 0 0] nb) 24)) (.cells (madeCells #[.bool false] nb) 4) none
                  have hrA := heap_alloc_new wr (.cells (madeCells #[.slice none 0 0] nb) 24)
                  have hrB := heap_alloc_new (wr.alloc (.cells (madeCells #[.slice none 0 0] nb) 24)) (.cells (madeCells #[.bool false] nb) 4)
                  rw [World.size_alloc] at hrB
                  have hrA2 := (hgB.block _ (gl hrA) (by simp)).trans hrA
                  rw [← hW3] at hgB hrB hrA2
                  have hg3 := HGA.out.trans hgB
                  have hsz := HT.out.2.1.size
                  have hlt0 := gl HT.out.2.2
                  have HR0 : Hid (Rk w (W3.setCell ⟨wr.heap.size + 1, 0, none⟩ (.bool true)) #[.slice ka nk kc, .int .i64 x1, .int .i64 x2, .int .i64 (ni : Int), .int .i64 x4, .slice ia ni ic, .slice (some ⟨b1, o1, none⟩) nb bc] w.heap.size wr.heap.size (wr.heap.size + 1) (some [] :: List.replicate (nb - 1) none)) := Lib.hid (Rk.start hb1 (HT.out.2.1.trans hg3) ((hg3.block _ hlt0 (by simp)).trans HT.out.2.2) ⟨Nat.le_refl _, by omega, by omega⟩ ⟨by omega, by omega, by omega⟩ hrA2 hrB)
                  have kz0 : W3.cell? ⟨wr.heap.size + 1, 0, none⟩ = some (.bool false) := by rw [cell_of_row _ _ 0 _ _ _ hrB]; exact made_one _ _ _ hb1
                  have fz0 := frozen_of_row W3 _ 0 _ _ hrB
                  obtain ⟨g1, hg1⟩ : ∃ g1, g1 = wr.heap.size := ⟨_, rfl⟩
                  rw [← hg1] at HR0 kz0 fz0
                  try rw [show (wr.alloc (.cells (madeCells #[.slice none 0 0] nb) 24)).heap.size = g1 + 1 by rw [World.size_alloc, hg1]]
                  try rw [← hg1]
                  clear hW3 hgB hrA hrB hrA2 hg3 hsz hlt0 u6 u6b hmk1 hmk2 HGA hg1
                  go_wp2
                  clear kz0 fz0
                  obtain ⟨W4, hW4⟩ : ∃ W4, W4 = W3.setCell ⟨g1 + 1, 0, none⟩ (.bool true) := ⟨_, rfl⟩
                  rw [← hW4] at HR0 ⊢
                  clear hW4 HT hlt ht
                  have hst := HST.out
                  rw [← HXX.out.2.2.2] at hst
                  have HST4 : Hid (x4 ≤ 64) := Lib.hid hst.1
                  clear hst
                  go_loopw [10] (fun iv wr => ∃ t : Nat, t ≤ nb ∧ iv = .int .i64 (t : Int) ∧ Hid (∃ qs : Kn, Rk w wr #[.slice ka nk kc, .int .i64 x1, .int .i64 x2, .int .i64 (ni : Int), .int .i64 x4, .slice ia ni ic, .slice (some ⟨b1, o1, none⟩) nb bc] w.heap.size g1 (g1 + 1) qs ∧ qs.length = nb ∧ (∀ s, some s ∈ qs → s.length ≤ 64) ∧ Cd.go c (bs.drop t) (qs.drop t) = D)) (fun i _ => nb - (intOf i).toNat)
                  case atStart => exact ⟨0, Nat.zero_le _, rfl, Lib.hid ⟨_, HR0.out, by simp; omega, fun s hs => by simp at hs; rw [hs]; simp, HD.out.symm⟩⟩
                  case round =>
                    obtain ⟨t, ht, rfl, HT⟩ := hrel
                    obtain ⟨qs, hRk, hql, hq64, hgo⟩ := HT.out
                    have u6 := cell_of_row wr _ 6 _ _ _ hRk.box
                    by_cases hlt : t < nb
                    · obtain ⟨x, hx⟩ : ∃ x, bs[t]? = some x := ⟨_, List.getElem?_eq_getElem (by rw [← HN.out.2.2]; exact hlt)⟩
                      obtain ⟨q, hq⟩ : ∃ q, qs[t]? = some q := ⟨_, List.getElem?_eq_getElem (by rw [hql]; exact hlt)⟩
                      have k2 := hRk.kn t q hq
                      cases q with
                      | none =>
                        have HG2 : Hid (Cd.go c (bs.drop (t + 1)) (qs.drop (t + 1)) = D) := Lib.hid ((Cd.go_skip hx hq).symm.trans hgo)
                        have HQ := Lib.hid (And.intro hRk (And.intro hql hq64))
                        simp only [Option.isSome_none] at k2
                        clear hRk hql hq64 hgo hx hq HT
                        go_wp2
                        go_roundw
                        case measure => simp [intOf]; omega
                        exact ⟨t + 1, by omega, by go_num, Lib.hid ⟨qs, HQ.out.1, HQ.out.2.1, HQ.out.2.2, HG2.out⟩⟩
                      | some l =>
                        obtain ⟨a, n, cap, k1, hst⟩ := hRk.ats t _ hq
                        obtain ⟨rfl, hlc, hnl⟩ := hst l rfl
                        have hl64 := hq64 l (List.mem_iff_getElem?.2 ⟨t, hq⟩)
                        obtain ⟨b2, o2, hbo, hp1, hp2, hp3⟩ := HCK.out.2.2 t x hx
                        cases hbo
                        have p1 := hRk.gr.cell hp1 (by simp)
                        have p2 := hRk.gr.cell hp2 (by simp)
                        have p3 := hRk.gr.cell hp3 (by simp)
                        have hop : 1 ≤ x.op ∧ x.op ≤ 9 := by
                          have h3 := HK3.out
                          unfold opsB at h3
                          rw [Bool.and_eq_true, List.all_eq_true] at h3
                          have := h3.1 x (List.mem_iff_getElem?.2 ⟨t, hx⟩)
                          simpa using this
                        have HACT : Hid ((match Cd.act c x l t qs with | none => false | some q => Cd.go c (bs.drop (t + 1)) (q.drop (t + 1))) = D) := Lib.hid ((Cd.go_act hx hq).symm.trans hgo)
                        have HLASTI : Hid (x.op ≠ 9 → t + 1 < nb) := Lib.hid (fun h => by
                          by_cases e : t + 1 < nb
                          · exact e
                          · exfalso
                            have h3 := HK3.out
                            unfold opsB at h3
                            rw [Bool.and_eq_true, List.getLast?_eq_getElem?, ← HN.out.2.2, show nb - 1 = t by omega, hx] at h3
                            exact h (by simpa using h3.2))
                        have HQ := Lib.hid (And.intro hRk (And.intro hql hq64))
                        have HL := Lib.hid (And.intro hnl (And.intro hlc hl64))
                        simp only [Option.isSome_some] at k2
                        clear hRk hql hq64 hgo hst hnl hp1 hp2 hp3 hx hq HT hlc hl64
                        have HSTEP : Hid (∀ V, wr.grownBy V none → Calls Tryz.prog 42 #[.agg (codeV c ka kc ia ic (some ⟨b1, o1, none⟩) bc), .agg #[.int .i64 x.op, .int .i64 x.n, .int .i64 x.k], .slice a l.length cap] V (StepP V c x l)) := Lib.hid (fun V hg => by
                          obtain ⟨xo, xn, xk⟩ := x
                          have hkn := HC.out.kinds.on (HQ.out.1.gr.trans hg)
                          have hn := HL.out.1.on hg
                          have hl := HL.out.2.2
                          have hcp := HL.out.2.1
                          have hk8 := HST.out
                          simp only at hop
                          rcases (show xo = 1 ∨ xo = 2 ∨ xo = 3 ∨ xo = 4 ∨ xo = 5 ∨ xo = 6 ∨ xo = 7 ∨ xo = 8 ∨ xo = 9 by omega) with rfl | rfl | rfl | rfl | rfl | rfl | rfl | rfl | rfl
                          · exact rstep1 V c ka kc ia ic _ bc xn xk l a cap hn (by omega)
                          · exact rstep2 V c ka kc ia ic _ bc xn xk l a cap hkn hk8.2.2.2 hn (by omega)
                          · exact rstep3 V c ka kc ia ic _ bc xn xk l a cap hkn hk8.2.2.2 hk8.2.2.1 hn (by omega) hcp
                          · exact rstep4 V c ka kc ia ic _ bc xn xk l a cap hn (by omega) hcp
                          · exact rstep5 V c ka kc ia ic _ bc xn xk l a cap hn (by omega) hcp
                          · exact rstep6 V c ka kc ia ic _ bc xn xk l a cap hn (by omega) hcp
                          · exact rstep7 V c ka kc ia ic _ bc xn xk l a cap hn (by omega) hcp
                          · exact rstep8 V c ka kc ia ic _ bc xn xk l a cap hn (by omega) hcp
                          · exact rstep9 V c ka kc ia ic _ bc xn xk l a cap hn (by omega) hcp)
                        have ecs : codeV c ka kc ia ic (some ⟨b1, o1, none⟩) bc = #[.slice ka nk kc, .int .i64 x1, .int .i64 x2, .int .i64 (ni : Int), .int .i64 x4, .slice ia ni ic, .slice (some ⟨b1, o1, none⟩) nb bc] := by
                          unfold codeV
                          rw [← HE.out.1, ← HE.out.2.1, ← HE.out.2.2, ← HN.out.1, ← HN.out.2.1, ← HN.out.2.2, ← HXX.out.1, ← HXX.out.2.1, ← HXX.out.2.2.1, ← HXX.out.2.2.2]
                        rw [ecs] at HSTEP
                        clear ecs
                        obtain ⟨xo, xn, xk⟩ := x
                        simp only at p1 p2 p3 hop
                        go_upto_region 34 with fail
                        refine wp_as fun W hW => ?_
                        have hgW : wr.grownBy W none := by rw [hW]; exact World.grownBy_alloc _ _ _
                        have hrW : W.heap[wr.heap.size]? = some (.cells #[.int .i64 xo, .int .i64 xn, .int .i64 xk] 32 (0, 0)) := by rw [hW]; exact heap_alloc_new wr _
                        have hbW : W.heap[w.heap.size]? = some (.cells #[.slice ka nk kc, .int .i64 x1, .int .i64 x2, .int .i64 (ni : Int), .int .i64 x4, .slice ia ni ic, .slice (some ⟨b1, o1, none⟩) nb bc] 27 (0, 0)) := (hgW.block _ (gl HQ.out.1.box) (by simp)).trans HQ.out.1.box
                        have k1W := hgW.cell k1 (by simp)
                        have HAX : Hid (wr.heap.size ≠ g1 ∧ wr.heap.size ≠ g1 + 1) := Lib.hid (by obtain ⟨_, e1⟩ := HQ.out.1.r1; obtain ⟨_, e2⟩ := HQ.out.1.r2; have := gl e1; have := gl e2; omega)
                        clear hW u6 k1 k2 p1 p2 p3
                        cases hstp : Cd.step c ⟨xo, xn, xk⟩ l with
                        | none =>
                          have HR : Hid (R = 50) := Lib.hid (by
                            have h1 : D = false := by rw [← HACT.out, Cd.act_none (.inl hstp)]
                            rw [HRD.out, h1]
                            rfl)
                          have HSN := Lib.hid hstp
                          clear hstp
                          refine wp_region_L (S := fun V => W.grownBy V none) (Z := []) (by kernel_rfl) ?_
                          have hS : W.grownBy W.drew none := ⟨rfl, rfl, rfl, Nat.le_refl _, fun _ _ _ => rfl⟩
                          (try simp only [Act.put, sA, sB, sC])
                          refine t2 0 193 (.agg #[.slice ka nk kc, .int .i64 x1, .int .i64 x2, .int .i64 (ni : Int), .int .i64 x4, .slice ia ni ic, .slice (some ⟨b1, o1, none⟩) nb bc]) (fun w' hw' => ?_) hS ?_
                          · exact exec_load_mid 27 _ rfl w.heap.size 0 rfl _ _ (row_range ((hw'.block _ (gl hbW) (by simp)).trans hbW)) Tryz.underlying27 rfl (by kernel_rfl)
                          (try simp only [Act.put, sA, sB, sC])
                          refine t2 1 194 (.agg #[.int .i64 xo, .int .i64 xn, .int .i64 xk]) (fun w' hw' => ?_) hS ?_
                          · exact exec_load_mid 32 _ rfl wr.heap.size 0 rfl _ _ (row_range ((hw'.block _ (gl hrW) (by simp)).trans hrW)) Tryz.underlying32 rfl (by kernel_rfl)
                          (try simp only [Act.put, sA, sB, sC])
                          refine t1 2 195 (.slice (some ⟨g1, 0, none⟩) nb nb) hS ?_
                          (try simp only [Act.put, sA, sB, sC])
                          refine t1 3 196 (.int .i64 (t : Int)) hS ?_
                          (try simp only [Act.put, sA, sB, sC])
                          refine t2 4 197 (.pointer (some ⟨g1, t, none⟩)) (fun w' hw' => ?_) hS ?_
                          · clear hw' hS; go_simp; (try (intro e; omega))
                          (try simp only [Act.put, sA, sB, sC])
                          refine t2 5 198 (.slice a l.length cap) (fun w' hw' => ?_) hS ?_
                          · have z := hw'.cell k1W (by simp); clear hw' hS; go_simp
                          (try simp only [Act.put, sA, sB, sC])
                          refine wpL_call (i := 6) (d := 199) (g := 42) (args := #[.agg #[.slice ka nk kc, .int .i64 x1, .int .i64 x2, .int .i64 (ni : Int), .int .i64 x4, .slice ia ni ic, .slice (some ⟨b1, o1, none⟩) nb bc], .agg #[.int .i64 xo, .int .i64 xn, .int .i64 xk], .slice a l.length cap]) (R := fun v V => (∃ v0, v = .tuple #[v0, .bool false]) ∧ W.grownBy V none) (by kernel_rfl) rfl rfl (by kernel_rfl) (by kernel_rfl) ((HSTEP.out _ (hgW.trans hS)).mono (by rintro e w' ⟨hg, ⟨m, a', c', hm, -⟩ | ⟨-, v0, rfl⟩⟩; (· rw [HSN.out] at hm; cases hm); exact ⟨_, rfl, ⟨v0, rfl⟩, hS.trans hg⟩)) (fun v V h => h.2) (fun v V h => ?_)
                          clear hS
                          obtain ⟨⟨v0, rfl⟩, hS⟩ := h
                          (try simp only [Act.put, sA, sB, sC])
                          refine t1 7 192 (.tuple #[v0, .bool false]) hS ?_
                          (try simp only [Act.put, sA, sB, sC])
                          refine t1 8 200 (v0) hS ?_
                          (try simp only [Act.put, sA, sB, sC])
                          refine t1 9 201 (.bool false) hS ?_
                          (try simp only [Act.put, sA, sB, sC])
                          refine t1 10 12 (v0) hS ?_
                          (try simp only [Act.put, sA, sB, sC])
                          refine t1 11 13 (.bool false) hS ?_
                          (try simp only [Act.put, sA, sB, sC])
                          refine wpL_done (by kernel_rfl) ?_ _
                          have HV := Lib.hid (And.intro (HQ.out.1.on (hgW.trans hS)) hS)
                          have v4 := hS.cell ((cell_of_row W _ 4 _ _ _ hbW).trans rfl) (by simp)
                          have v6 := hS.cell ((cell_of_row W _ 6 _ _ _ hbW).trans rfl) (by simp)
                          have y0 := hS.cell ((cell_of_row W _ 0 _ _ _ hrW).trans rfl) (by simp)
                          have y1 := hS.cell ((cell_of_row W _ 1 _ _ _ hrW).trans rfl) (by simp)
                          clear hS k1W hbW hrW hgW y0 y1 v6
                          go_wp2
                          go_ret
                          exact ⟨(by rw [HR.out]; rfl), HV.out.1.gr⟩
                        | some m =>
                          have HSN := Lib.hid hstp
                          clear hstp
                          refine wp_region_L (S := fun V => W.grownBy V none) (Z := []) (by kernel_rfl) ?_
                          have hS : W.grownBy W.drew none := ⟨rfl, rfl, rfl, Nat.le_refl _, fun _ _ _ => rfl⟩
                          (try simp only [Act.put, sA, sB, sC])
                          refine t2 0 193 (.agg #[.slice ka nk kc, .int .i64 x1, .int .i64 x2, .int .i64 (ni : Int), .int .i64 x4, .slice ia ni ic, .slice (some ⟨b1, o1, none⟩) nb bc]) (fun w' hw' => ?_) hS ?_
                          · exact exec_load_mid 27 _ rfl w.heap.size 0 rfl _ _ (row_range ((hw'.block _ (gl hbW) (by simp)).trans hbW)) Tryz.underlying27 rfl (by kernel_rfl)
                          (try simp only [Act.put, sA, sB, sC])
                          refine t2 1 194 (.agg #[.int .i64 xo, .int .i64 xn, .int .i64 xk]) (fun w' hw' => ?_) hS ?_
                          · exact exec_load_mid 32 _ rfl wr.heap.size 0 rfl _ _ (row_range ((hw'.block _ (gl hrW) (by simp)).trans hrW)) Tryz.underlying32 rfl (by kernel_rfl)
                          (try simp only [Act.put, sA, sB, sC])
                          refine t1 2 195 (.slice (some ⟨g1, 0, none⟩) nb nb) hS ?_
                          (try simp only [Act.put, sA, sB, sC])
                          refine t1 3 196 (.int .i64 (t : Int)) hS ?_
                          (try simp only [Act.put, sA, sB, sC])
                          refine t2 4 197 (.pointer (some ⟨g1, t, none⟩)) (fun w' hw' => ?_) hS ?_
                          · clear hw' hS; go_simp; (try (intro e; omega))
                          (try simp only [Act.put, sA, sB, sC])
                          refine t2 5 198 (.slice a l.length cap) (fun w' hw' => ?_) hS ?_
                          · have z := hw'.cell k1W (by simp); clear hw' hS; go_simp
                          (try simp only [Act.put, sA, sB, sC])
                          refine wpL_call (i := 6) (d := 199) (g := 42) (args := #[.agg #[.slice ka nk kc, .int .i64 x1, .int .i64 x2, .int .i64 (ni : Int), .int .i64 x4, .slice ia ni ic, .slice (some ⟨b1, o1, none⟩) nb bc], .agg #[.int .i64 xo, .int .i64 xn, .int .i64 xk], .slice a l.length cap]) (R := fun v V => (∃ a' c', v = .tuple #[.slice a' m.length c', .bool true] ∧ NumsAt V a' m.reverse ∧ m.length ≤ c') ∧ W.grownBy V none) (by kernel_rfl) rfl rfl (by kernel_rfl) (by kernel_rfl) ((HSTEP.out _ (hgW.trans hS)).mono (by rintro e w' ⟨hg, ⟨m', a', c', hm, rfl, hn', hc'⟩ | ⟨hm, -⟩⟩; (· rw [HSN.out] at hm; cases hm; exact ⟨_, rfl, ⟨a', c', rfl, hn', hc'⟩, hS.trans hg⟩); (rw [HSN.out] at hm; cases hm))) (fun v V h => h.2) (fun v V h => ?_)
                          clear hS
                          obtain ⟨⟨a2, c2, rfl, hn2, hc2⟩, hS⟩ := h
                          (try simp only [Act.put, sA, sB, sC])
                          refine t1 7 192 (.tuple #[.slice a2 m.length c2, .bool true]) hS ?_
                          (try simp only [Act.put, sA, sB, sC])
                          refine t1 8 200 (.slice a2 m.length c2) hS ?_
                          (try simp only [Act.put, sA, sB, sC])
                          refine t1 9 201 (.bool true) hS ?_
                          (try simp only [Act.put, sA, sB, sC])
                          refine t1 10 12 (.slice a2 m.length c2) hS ?_
                          (try simp only [Act.put, sA, sB, sC])
                          refine t1 11 13 (.bool true) hS ?_
                          (try simp only [Act.put, sA, sB, sC])
                          refine wpL_done (by kernel_rfl) ?_ _
                          have HV := Lib.hid (And.intro (HQ.out.1.on (hgW.trans hS)) hS)
                          have v4 := hS.cell ((cell_of_row W _ 4 _ _ _ hbW).trans rfl) (by simp)
                          have v6 := hS.cell ((cell_of_row W _ 6 _ _ _ hbW).trans rfl) (by simp)
                          have y0 := hS.cell ((cell_of_row W _ 0 _ _ _ hrW).trans rfl) (by simp)
                          have y1 := hS.cell ((cell_of_row W _ 1 _ _ _ hrW).trans rfl) (by simp)
                          have HM2 := Lib.hid (And.intro hn2 hc2)
                          have hAV := hS.size
                          have HAV : Hid (wr.heap.size < V.heap.size ∧ V.heap.size ≠ g1 ∧ V.heap.size ≠ g1 + 1) := Lib.hid (by obtain ⟨_, e1⟩ := HV.out.1.r1; obtain ⟨_, e2⟩ := HV.out.1.r2; have := gl e1; have := gl e2; have := gl hrW; omega)
                          clear hS k1W hbW hrW hgW hn2 hc2 hAV
                          by_cases hm4 : x4 < m.length
                          · have d4 : decide (x4 < (m.length : Int)) = true := dT hm4
                            have HR : Hid (R = 50) := Lib.hid (by
                              have h1 : D = false := by rw [← HACT.out, Cd.act_none (.inr (.inl ⟨m, HSN.out, by rw [← HXX.out.2.2.2]; exact hm4⟩))]
                              rw [HRD.out, h1]
                              rfl)
                            clear hm4 y0 y1 v6
                            go_wp2
                            go_ret
                            exact ⟨(by rw [HR.out]; rfl), HV.out.1.gr⟩
                          · have d4 : decide (x4 < (m.length : Int)) = false := dF hm4
                            have HM4 : Hid (m.length ≤ 64 ∧ ¬ c.stack < m.length) := Lib.hid ⟨by have := HST4.out; omega, by rw [← HXX.out.2.2.2]; exact hm4⟩
                            clear hm4
                            by_cases h9 : xo = 9
                            · subst h9
                              obtain ⟨ws, hws⟩ : ∃ ws : List Nat, ws = [] := ⟨_, rfl⟩
                              obtain ⟨vs, hvs⟩ : ∃ vs : List Value, vs = [] := ⟨_, rfl⟩
                              have HPUTS : Hid ((match Cd.puts m ws qs with | none => false | some q => Cd.go c (bs.drop (t + 1)) (q.drop (t + 1))) = D) := Lib.hid (by
                                rw [← HACT.out, Cd.act_puts HSN.out HM4.out.2 (fun h => by simp only at h; omega), hws]
                                rfl)
                              have HWS0 : Hid (ws.length = 0 ∧ (∀ j ∈ ws, j < nb) ∧ (∀ (i j : Nat), ws[i]? = some j → vs[i]? = some (.int .i64 (j : Int)))) := Lib.hid (by rw [hws]; exact ⟨rfl, fun j hj => (by cases hj), fun i j h => (by simp at h)⟩)
                              obtain ⟨A, hA⟩ : ∃ A, A = V.heap.size := ⟨_, rfl⟩
                              have HAA : Hid (A ≠ g1 ∧ A ≠ g1 + 1) := Lib.hid (by rw [hA]; exact HAV.out.2)
                              clear hws hvs hA hop
                              go_wp2
                              clear v4 v6 y0 y1 d4
                              have HW5 : Hid (Rk w V #[.slice ka nk kc, .int .i64 x1, .int .i64 x2, .int .i64 (ni : Int), .int .i64 x4, .slice ia ni ic, .slice (some ⟨b1, o1, none⟩) nb bc] w.heap.size g1 (g1 + 1) qs ∧ NumsAt V a2 m.reverse ∧ (0 < 0 → V.heap[A]? = some (.cells vs.toArray 3 (0, 0)))) := Lib.hid ⟨HV.out.1, HM2.out.1, fun h => absurd h (Nat.lt_irrefl 0)⟩
                              have HWS : Hid (ws.length = 0 ∧ (∀ j ∈ ws, j < nb) ∧ (∀ (i j : Nat), ws[i]? = some j → vs[i]? = some (.int .i64 (j : Int)))) := HWS0
                              go_loopw [15] (fun kv wr => ∃ t5 : Nat, t5 ≤ 0 ∧ kv = .int .i64 (t5 : Int) ∧ Hid (∃ q : Kn, Rk w wr #[.slice ka nk kc, .int .i64 x1, .int .i64 x2, .int .i64 (ni : Int), .int .i64 x4, .slice ia ni ic, .slice (some ⟨b1, o1, none⟩) nb bc] w.heap.size g1 (g1 + 1) q ∧ q.length = nb ∧ (∀ s, some s ∈ q → s.length ≤ 64) ∧ NumsAt wr a2 m.reverse ∧ (0 < 0 → wr.heap[A]? = some (.cells vs.toArray 3 (0, 0))) ∧ (match Cd.puts m (ws.drop t5) q with | none => false | some q => Cd.go c (bs.drop (t + 1)) (q.drop (t + 1))) = D)) (fun kv _ => 0 - (intOf kv).toNat)
                              case atStart => exact ⟨0, Nat.zero_le _, rfl, Lib.hid ⟨qs, HW5.out.1, HQ.out.2.1, HQ.out.2.2, HW5.out.2.1, HW5.out.2.2, HPUTS.out⟩⟩
                              case round =>
                                obtain ⟨t5, ht5, rfl, HT5⟩ := hrel
                                obtain ⟨q, hRk5, hql5, hq5, hn5, hrow5, hp5⟩ := HT5.out
                                by_cases hlt5 : t5 < 0
                                · omega
                                · obtain rfl : t5 = 0 := by omega
                                  rw [List.drop_of_length_le (by rw [HWS.out.1]; omega)] at hp5
                                  have HP := Lib.hid (And.intro hRk5 (And.intro hql5 (And.intro hq5 hp5)))
                                  clear hRk5 hql5 hq5 hn5 hrow5 hp5 HT5
                                  go_wp2
                                  go_roundw
                                  case measure => first | (simp [intOf]; done) | (simp [intOf]; omega)
                                  exact ⟨t + 1, by omega, by go_num, Lib.hid ⟨q, HP.out.1, HP.out.2.1, HP.out.2.2.1, HP.out.2.2.2⟩⟩
                            by_cases h7 : xo = 7
                            · subst h7
                              have ew8 : wrap64 ((nb : Int) - (t : Int)) = (nb : Int) - (t : Int) := by have := HNUM.out; unfold wrap64; omega
                              have ew9 : wrap64 ((nb : Int) - (t : Int) - 1) = (nb : Int) - (t : Int) - 1 := by have := HNUM.out; unfold wrap64; omega
                              by_cases hn0 : xn < 0
                              · have d5 : decide (xn < 0) = true := dT hn0
                                have HR : Hid (R = 50) := Lib.hid (by
                                  have h1 : D = false := by rw [← HACT.out, Cd.act_none (.inr (.inr ⟨.inl rfl, by simp only [HQ.out.2.1]; omega⟩))]
                                  rw [HRD.out, h1]
                                  rfl)
                                clear hn0 hop
                                go_wp2
                                go_ret
                                exact ⟨(by rw [HR.out]; rfl), HV.out.1.gr⟩
                              have d5 : decide (xn < 0) = false := dF hn0
                              by_cases hn1 : (nb : Int) - (t : Int) - 1 ≤ xn
                              · have d6 : decide ((nb : Int) - (t : Int) - 1 ≤ xn) = true := dT hn1
                                have HR : Hid (R = 50) := Lib.hid (by
                                  have h1 : D = false := by rw [← HACT.out, Cd.act_none (.inr (.inr ⟨.inl rfl, by simp only [HQ.out.2.1]; omega⟩))]
                                  rw [HRD.out, h1]
                                  rfl)
                                clear hn0 hn1 hop
                                go_wp2
                                go_ret
                                exact ⟨(by rw [HR.out]; rfl), HV.out.1.gr⟩
                              have d6 : decide ((nb : Int) - (t : Int) - 1 ≤ xn) = false := dF hn1
                              have ewj : wrap64 ((t : Int) + 1 + xn) = (t : Int) + 1 + xn := by have := HNUM.out; unfold wrap64; omega
                              have ewt : wrap64 ((t : Int) + 1) = (t : Int) + 1 := by have := HNUM.out; unfold wrap64; omega
                              obtain ⟨ws, hws⟩ : ∃ ws : List Nat, ws = [t + 1 + xn.toNat] := ⟨_, rfl⟩
                              obtain ⟨vs, hvs⟩ : ∃ vs : List Value, vs = [.int .i64 ((t : Int) + 1 + xn)] := ⟨_, rfl⟩
                              have HPUTS : Hid ((match Cd.puts m ws qs with | none => false | some q => Cd.go c (bs.drop (t + 1)) (q.drop (t + 1))) = D) := Lib.hid (by
                                rw [← HACT.out, Cd.act_puts HSN.out HM4.out.2 (fun _ => by simp only; omega), hws]
                                rfl)
                              have HWS0 : Hid (ws.length = 1 ∧ (∀ j ∈ ws, j < nb) ∧ (∀ (i j : Nat), ws[i]? = some j → vs[i]? = some (.int .i64 (j : Int)))) := Lib.hid (by
                                rw [hws, hvs]
                                exact ⟨rfl, fun j hj => (by simp at hj; omega), fun i j h => (by cases i with | zero => simp at h; subst h; rw [show ((t + 1 + xn.toNat : Nat) : Int) = (t : Int) + 1 + xn by omega]; rfl | succ i => simp at h)⟩)
                              clear hws hn0 hn1 hop
                              have hgA := World.grownBy_alloc V (.cells #[.int .i64 ((t : Int) + 1 + xn)] 3) none
                              have y0a := hgA.cell y0 (by simp)
                              have y1a := hgA.cell y1 (by simp)
                              clear hgA
                              go_wp2
                              clear v4 v6 y0 y1 y0a y1a d4 d5 d6 ew8 ew9 ewj ewt
                              have hgV := World.grownBy_alloc V (.cells #[.int .i64 ((t : Int) + 1 + xn)] 3) none
                              have hrV := heap_alloc_new V (.cells #[.int .i64 ((t : Int) + 1 + xn)] 3)
                              obtain ⟨V2, hV2⟩ : ∃ V2, V2 = V.alloc (.cells #[.int .i64 ((t : Int) + 1 + xn)] 3) := ⟨_, rfl⟩
                              obtain ⟨A, hA⟩ : ∃ A, A = V.heap.size := ⟨_, rfl⟩
                              rw [← hV2] at hgV hrV ⊢
                              rw [show (#[.int .i64 ((t : Int) + 1 + xn)] : Array Value) = vs.toArray by rw [hvs]] at hrV
                              have HAA : Hid (A ≠ g1 ∧ A ≠ g1 + 1) := Lib.hid (by rw [hA]; exact HAV.out.2)
                              try rw [← hA] at hrV
                              try rw [← hA]
                              have HW5 : Hid (Rk w V2 #[.slice ka nk kc, .int .i64 x1, .int .i64 x2, .int .i64 (ni : Int), .int .i64 x4, .slice ia ni ic, .slice (some ⟨b1, o1, none⟩) nb bc] w.heap.size g1 (g1 + 1) qs ∧ NumsAt V2 a2 m.reverse ∧ (0 < 1 → V2.heap[A]? = some (.cells vs.toArray 3 (0, 0)))) := Lib.hid ⟨HV.out.1.on hgV, HM2.out.1.on hgV, fun _ => hrV⟩
                              clear hgV hrV hV2 hA hvs
                              have HWS : Hid (ws.length = 1 ∧ (∀ j ∈ ws, j < nb) ∧ (∀ (i j : Nat), ws[i]? = some j → vs[i]? = some (.int .i64 (j : Int)))) := HWS0
                              go_loopw [15] (fun kv wr => ∃ t5 : Nat, t5 ≤ 1 ∧ kv = .int .i64 (t5 : Int) ∧ Hid (∃ q : Kn, Rk w wr #[.slice ka nk kc, .int .i64 x1, .int .i64 x2, .int .i64 (ni : Int), .int .i64 x4, .slice ia ni ic, .slice (some ⟨b1, o1, none⟩) nb bc] w.heap.size g1 (g1 + 1) q ∧ q.length = nb ∧ (∀ s, some s ∈ q → s.length ≤ 64) ∧ NumsAt wr a2 m.reverse ∧ (0 < 1 → wr.heap[A]? = some (.cells vs.toArray 3 (0, 0))) ∧ (match Cd.puts m (ws.drop t5) q with | none => false | some q => Cd.go c (bs.drop (t + 1)) (q.drop (t + 1))) = D)) (fun kv _ => 1 - (intOf kv).toNat)
                              case atStart => exact ⟨0, Nat.zero_le _, rfl, Lib.hid ⟨qs, HW5.out.1, HQ.out.2.1, HQ.out.2.2, HW5.out.2.1, HW5.out.2.2, HPUTS.out⟩⟩
                              case round =>
                                obtain ⟨t5, ht5, rfl, HT5⟩ := hrel
                                obtain ⟨q, hRk5, hql5, hq5, hn5, hrow5, hp5⟩ := HT5.out
                                by_cases hlt5 : t5 < 1
                                · obtain ⟨jj, hjj⟩ : ∃ jj, ws[t5]? = some jj := ⟨_, List.getElem?_eq_getElem (by rw [HWS.out.1]; exact hlt5)⟩
                                  have hjn := HWS.out.2.1 jj (List.mem_iff_getElem?.2 ⟨_, hjj⟩)
                                  have c5 := cell_u (hrow5 (by omega)) t5
                                  rw [HWS.out.2.2 _ _ hjj] at c5
                                  obtain ⟨qj, hqj⟩ : ∃ qj, q[jj]? = some qj := ⟨_, List.getElem?_eq_getElem (by rw [hql5]; exact hjn)⟩
                                  have k25 := hRk5.kn jj qj hqj
                                  obtain ⟨a5, n5, cp5, k15, hst5⟩ := hRk5.ats jj qj hqj
                                  rw [Cd.drop_at hjj, Cd.puts] at hp5
                                  cases qj with
                                  | none =>
                                    have hput1 : Cd.put1 m jj q = some (q.set jj (some m)) := by unfold Cd.put1; rw [hqj]
                                    rw [hput1, Option.bind_some] at hp5
                                    obtain ⟨z2, z1, a9, n9, c9, k9⟩ := hRk5.stores (j := jj) (by rw [hql5]; exact hjn)
                                    have HP := Lib.hid (And.intro (hRk5.put (j := jj) (by rw [hql5]; exact hjn) hn5 HM2.out.2) (And.intro (hRk5.put_nums (j := jj) (by rw [hql5]; exact hjn) (.slice a2 m.length c2) hn5) (And.intro (put_row (.bool true) (.slice a2 m.length c2) (j := jj) (hrow5 (by omega)) HAA.out.1 HAA.out.2) (And.intro (by rw [List.length_set]; exact hql5 : (q.set jj (some m)).length = nb) (And.intro (lens_set (j := jj) hq5 HM4.out.1) hp5)))))
                                    simp only [Option.isSome_none] at k25
                                    clear hRk5 hql5 hq5 hn5 hrow5 hp5 hqj hst5 hput1 k15 hjj HT5
                                    go_wp2
                                    go_roundw
                                    case measure => first | (simp [intOf]; done) | (simp [intOf]; omega)
                                    exact ⟨t5 + 1, by omega, by go_num, Lib.hid ⟨_, HP.out.1, HP.out.2.2.2.1, HP.out.2.2.2.2.1, HP.out.2.1, fun _ => HP.out.2.2.1, HP.out.2.2.2.2.2⟩⟩
                                  | some k =>
                                    obtain ⟨rfl, hkc, hkn⟩ := hst5 k rfl
                                    have hsame := rsame_any wr k.reverse m.reverse a5 a2 cp5 c2 hkn hn5 (by have := hq5 k (List.mem_iff_getElem?.2 ⟨_, hqj⟩); unfold maxLen; simp; omega) (by have := HM4.out.1; unfold maxLen; simp; omega)
                                    rw [List.length_reverse, List.length_reverse, show decide (k.reverse = m.reverse) = decide (k = m) by rw [decide_eq_decide]; exact List.reverse_inj] at hsame
                                    simp only [Option.isSome_some] at k25
                                    by_cases hkm : k = m
                                    · have hput1 : Cd.put1 m jj q = some (q.set jj (some m)) := by unfold Cd.put1; rw [hqj, Cd.set_same _ _ _ (by rw [hqj, hkm])]; exact if_pos hkm
                                      rw [hput1, Option.bind_some] at hp5
                                      rw [decide_eq_true hkm] at hsame
                                      have HP5 := Lib.hid (And.intro hRk5 (And.intro hn5 (And.intro hrow5 (And.intro (by rw [List.length_set]; exact hql5 : (q.set jj (some m)).length = nb) (And.intro (lens_set (j := jj) hq5 HM4.out.1) hp5)))))
                                      have HQL5 : Hid (jj < q.length) := Lib.hid (by rw [hql5]; exact hjn)
                                      clear hRk5 hql5 hq5 hn5 hrow5 hp5 hst5 hput1 hjj HT5 hkn hkc hkm
                                      have HKS := Lib.hid hqj
                                      clear hqj
                                      go_wp2_with (go_at_call 16; refine hsame.mono ?_; clear hsame; rintro e wr6 ⟨rfl, hg6⟩; have hR6 := HP5.out.1.on hg6; obtain ⟨z2, z1, a9, n9, c9, k9⟩ := hR6.stores (j := jj) HQL5.out; have k26 := hg6.cell k25 (by simp); have HP := Lib.hid (And.intro (hR6.put (j := jj) HQL5.out (HP5.out.2.1.on hg6) HM2.out.2) (And.intro (hR6.put_nums (j := jj) HQL5.out (.slice a2 m.length c2) (HP5.out.2.1.on hg6)) (put_row (.bool true) (.slice a2 m.length c2) (j := jj) ((hg6.block _ (gl (HP5.out.2.2.1 (by omega))) (by simp)).trans (HP5.out.2.2.1 (by omega))) HAA.out.1 HAA.out.2))); clear hR6 hg6)
                                      go_roundw
                                      case measure => first | (simp [intOf]; done) | (simp [intOf]; omega)
                                      exact ⟨t5 + 1, by omega, by go_num, Lib.hid ⟨_, HP.out.1, HP5.out.2.2.2.1, HP5.out.2.2.2.2.1, HP.out.2.1, fun _ => HP.out.2.2, HP5.out.2.2.2.2.2⟩⟩
                                    · have hput1 : Cd.put1 m jj q = none := by unfold Cd.put1; rw [hqj]; exact if_neg hkm
                                      rw [hput1] at hp5
                                      have HR : Hid (R = 50) := Lib.hid (by
                                        have h1 : D = false := hp5.symm
                                        rw [HRD.out, h1]
                                        rfl)
                                      rw [decide_eq_false hkm] at hsame
                                      have HGR := Lib.hid hRk5.gr
                                      clear hRk5 hql5 hq5 hn5 hrow5 hp5 hst5 hput1 hjj HT5 hkn hkc hkm hqj
                                      go_wp2_with (go_at_call 16; refine hsame.mono ?_; clear hsame; rintro e wr6 ⟨rfl, hg6⟩; have HG6 := Lib.hid (HGR.out.trans hg6); clear hg6)
                                      go_ret
                                      exact ⟨(by rw [HR.out]; rfl), HG6.out⟩
                                · obtain rfl : t5 = 1 := by omega
                                  rw [List.drop_of_length_le (by rw [HWS.out.1]; omega)] at hp5
                                  have HP := Lib.hid (And.intro hRk5 (And.intro hql5 (And.intro hq5 hp5)))
                                  clear hRk5 hql5 hq5 hn5 hrow5 hp5 HT5
                                  go_wp2
                                  go_roundw
                                  case measure => first | (simp [intOf]; done) | (simp [intOf]; omega)
                                  exact ⟨t + 1, by omega, by go_num, Lib.hid ⟨q, HP.out.1, HP.out.2.1, HP.out.2.2.1, HP.out.2.2.2⟩⟩
                            by_cases h8 : xo = 8
                            · subst h8
                              have ew8 : wrap64 ((nb : Int) - (t : Int)) = (nb : Int) - (t : Int) := by have := HNUM.out; unfold wrap64; omega
                              have ew9 : wrap64 ((nb : Int) - (t : Int) - 1) = (nb : Int) - (t : Int) - 1 := by have := HNUM.out; unfold wrap64; omega
                              by_cases hn0 : xn < 0
                              · have d5 : decide (xn < 0) = true := dT hn0
                                have HR : Hid (R = 50) := Lib.hid (by
                                  have h1 : D = false := by rw [← HACT.out, Cd.act_none (.inr (.inr ⟨.inr rfl, by simp only [HQ.out.2.1]; omega⟩))]
                                  rw [HRD.out, h1]
                                  rfl)
                                clear hn0 hop
                                go_wp2
                                go_ret
                                exact ⟨(by rw [HR.out]; rfl), HV.out.1.gr⟩
                              have d5 : decide (xn < 0) = false := dF hn0
                              by_cases hn1 : (nb : Int) - (t : Int) - 1 ≤ xn
                              · have d6 : decide ((nb : Int) - (t : Int) - 1 ≤ xn) = true := dT hn1
                                have HR : Hid (R = 50) := Lib.hid (by
                                  have h1 : D = false := by rw [← HACT.out, Cd.act_none (.inr (.inr ⟨.inr rfl, by simp only [HQ.out.2.1]; omega⟩))]
                                  rw [HRD.out, h1]
                                  rfl)
                                clear hn0 hn1 hop
                                go_wp2
                                go_ret
                                exact ⟨(by rw [HR.out]; rfl), HV.out.1.gr⟩
                              have d6 : decide ((nb : Int) - (t : Int) - 1 ≤ xn) = false := dF hn1
                              have ewj : wrap64 ((t : Int) + 1 + xn) = (t : Int) + 1 + xn := by have := HNUM.out; unfold wrap64; omega
                              have ewt : wrap64 ((t : Int) + 1) = (t : Int) + 1 := by have := HNUM.out; unfold wrap64; omega
                              obtain ⟨ws, hws⟩ : ∃ ws : List Nat, ws = [t + 1, t + 1 + xn.toNat] := ⟨_, rfl⟩
                              obtain ⟨vs, hvs⟩ : ∃ vs : List Value, vs = [.int .i64 ((t : Int) + 1), .int .i64 ((t : Int) + 1 + xn)] := ⟨_, rfl⟩
                              have HPUTS : Hid ((match Cd.puts m ws qs with | none => false | some q => Cd.go c (bs.drop (t + 1)) (q.drop (t + 1))) = D) := Lib.hid (by
                                rw [← HACT.out, Cd.act_puts HSN.out HM4.out.2 (fun _ => by simp only; omega), hws]
                                rfl)
                              have HWS0 : Hid (ws.length = 2 ∧ (∀ j ∈ ws, j < nb) ∧ (∀ (i j : Nat), ws[i]? = some j → vs[i]? = some (.int .i64 (j : Int)))) := Lib.hid (by
                                rw [hws, hvs]
                                exact ⟨rfl, fun j hj => (by simp at hj; omega), fun i j h => by
                                  match i, h with
                                  | 0, h => simp at h; subst h; rfl
                                  | 1, h => simp at h; subst h; rw [show ((t + 1 + xn.toNat : Nat) : Int) = (t : Int) + 1 + xn by omega]; rfl
                                  | i + 2, h => simp at h⟩)
                              clear hws hn0 hn1 hop
                              have hgA := World.grownBy_alloc V (.cells #[.int .i64 ((t : Int) + 1 + xn)] 3) none
                              have y0a := hgA.cell y0 (by simp)
                              have y1a := hgA.cell y1 (by simp)
                              clear hgA
                              go_wp2
                              clear v4 v6 y0 y1 y0a y1a d4 d5 d6 ew8 ew9 ewj ewt
                              have hgV := (World.grownBy_alloc V (.cells #[.int .i64 ((t : Int) + 1 + xn)] 3) none).trans (World.grownBy_alloc (V.alloc (.cells #[.int .i64 ((t : Int) + 1 + xn)] 3)) (.cells #[.int .i64 ((t : Int) + 1), .int .i64 ((t : Int) + 1 + xn)] 3) none)
                              have hrV := heap_alloc_new (V.alloc (.cells #[.int .i64 ((t : Int) + 1 + xn)] 3)) (.cells #[.int .i64 ((t : Int) + 1), .int .i64 ((t : Int) + 1 + xn)] 3)
                              rw [World.size_alloc] at hrV
                              obtain ⟨V2, hV2⟩ : ∃ V2, V2 = (V.alloc (.cells #[.int .i64 ((t : Int) + 1 + xn)] 3)).alloc (.cells #[.int .i64 ((t : Int) + 1), .int .i64 ((t : Int) + 1 + xn)] 3) := ⟨_, rfl⟩
                              obtain ⟨A, hA⟩ : ∃ A, A = V.heap.size + 1 := ⟨_, rfl⟩
                              rw [← hV2] at hgV hrV ⊢
                              rw [show (#[.int .i64 ((t : Int) + 1), .int .i64 ((t : Int) + 1 + xn)] : Array Value) = vs.toArray by rw [hvs]] at hrV
                              have HAA : Hid (A ≠ g1 ∧ A ≠ g1 + 1) := Lib.hid (by rw [hA]; obtain ⟨_, e1⟩ := HV.out.1.r1; obtain ⟨_, e2⟩ := HV.out.1.r2; have := gl e1; have := gl e2; omega)
                              try rw [← hA] at hrV
                              try rw [← hA]
                              have HW5 : Hid (Rk w V2 #[.slice ka nk kc, .int .i64 x1, .int .i64 x2, .int .i64 (ni : Int), .int .i64 x4, .slice ia ni ic, .slice (some ⟨b1, o1, none⟩) nb bc] w.heap.size g1 (g1 + 1) qs ∧ NumsAt V2 a2 m.reverse ∧ (0 < 2 → V2.heap[A]? = some (.cells vs.toArray 3 (0, 0)))) := Lib.hid ⟨HV.out.1.on hgV, HM2.out.1.on hgV, fun _ => hrV⟩
                              clear hgV hrV hV2 hA hvs
                              have HWS : Hid (ws.length = 2 ∧ (∀ j ∈ ws, j < nb) ∧ (∀ (i j : Nat), ws[i]? = some j → vs[i]? = some (.int .i64 (j : Int)))) := HWS0
                              go_loopw [15] (fun kv wr => ∃ t5 : Nat, t5 ≤ 2 ∧ kv = .int .i64 (t5 : Int) ∧ Hid (∃ q : Kn, Rk w wr #[.slice ka nk kc, .int .i64 x1, .int .i64 x2, .int .i64 (ni : Int), .int .i64 x4, .slice ia ni ic, .slice (some ⟨b1, o1, none⟩) nb bc] w.heap.size g1 (g1 + 1) q ∧ q.length = nb ∧ (∀ s, some s ∈ q → s.length ≤ 64) ∧ NumsAt wr a2 m.reverse ∧ (0 < 2 → wr.heap[A]? = some (.cells vs.toArray 3 (0, 0))) ∧ (match Cd.puts m (ws.drop t5) q with | none => false | some q => Cd.go c (bs.drop (t + 1)) (q.drop (t + 1))) = D)) (fun kv _ => 2 - (intOf kv).toNat)
                              case atStart => exact ⟨0, Nat.zero_le _, rfl, Lib.hid ⟨qs, HW5.out.1, HQ.out.2.1, HQ.out.2.2, HW5.out.2.1, HW5.out.2.2, HPUTS.out⟩⟩
                              case round =>
                                obtain ⟨t5, ht5, rfl, HT5⟩ := hrel
                                obtain ⟨q, hRk5, hql5, hq5, hn5, hrow5, hp5⟩ := HT5.out
                                by_cases hlt5 : t5 < 2
                                · obtain ⟨jj, hjj⟩ : ∃ jj, ws[t5]? = some jj := ⟨_, List.getElem?_eq_getElem (by rw [HWS.out.1]; exact hlt5)⟩
                                  have hjn := HWS.out.2.1 jj (List.mem_iff_getElem?.2 ⟨_, hjj⟩)
                                  have c5 := cell_u (hrow5 (by omega)) t5
                                  rw [HWS.out.2.2 _ _ hjj] at c5
                                  obtain ⟨qj, hqj⟩ : ∃ qj, q[jj]? = some qj := ⟨_, List.getElem?_eq_getElem (by rw [hql5]; exact hjn)⟩
                                  have k25 := hRk5.kn jj qj hqj
                                  obtain ⟨a5, n5, cp5, k15, hst5⟩ := hRk5.ats jj qj hqj
                                  rw [Cd.drop_at hjj, Cd.puts] at hp5
                                  cases qj with
                                  | none =>
                                    have hput1 : Cd.put1 m jj q = some (q.set jj (some m)) := by unfold Cd.put1; rw [hqj]
                                    rw [hput1, Option.bind_some] at hp5
                                    obtain ⟨z2, z1, a9, n9, c9, k9⟩ := hRk5.stores (j := jj) (by rw [hql5]; exact hjn)
                                    have HP := Lib.hid (And.intro (hRk5.put (j := jj) (by rw [hql5]; exact hjn) hn5 HM2.out.2) (And.intro (hRk5.put_nums (j := jj) (by rw [hql5]; exact hjn) (.slice a2 m.length c2) hn5) (And.intro (put_row (.bool true) (.slice a2 m.length c2) (j := jj) (hrow5 (by omega)) HAA.out.1 HAA.out.2) (And.intro (by rw [List.length_set]; exact hql5 : (q.set jj (some m)).length = nb) (And.intro (lens_set (j := jj) hq5 HM4.out.1) hp5)))))
                                    simp only [Option.isSome_none] at k25
                                    clear hRk5 hql5 hq5 hn5 hrow5 hp5 hqj hst5 hput1 k15 hjj HT5
                                    go_wp2
                                    go_roundw
                                    case measure => first | (simp [intOf]; done) | (simp [intOf]; omega)
                                    exact ⟨t5 + 1, by omega, by go_num, Lib.hid ⟨_, HP.out.1, HP.out.2.2.2.1, HP.out.2.2.2.2.1, HP.out.2.1, fun _ => HP.out.2.2.1, HP.out.2.2.2.2.2⟩⟩
                                  | some k =>
                                    obtain ⟨rfl, hkc, hkn⟩ := hst5 k rfl
                                    have hsame := rsame_any wr k.reverse m.reverse a5 a2 cp5 c2 hkn hn5 (by have := hq5 k (List.mem_iff_getElem?.2 ⟨_, hqj⟩); unfold maxLen; simp; omega) (by have := HM4.out.1; unfold maxLen; simp; omega)
                                    rw [List.length_reverse, List.length_reverse, show decide (k.reverse = m.reverse) = decide (k = m) by rw [decide_eq_decide]; exact List.reverse_inj] at hsame
                                    simp only [Option.isSome_some] at k25
                                    by_cases hkm : k = m
                                    · have hput1 : Cd.put1 m jj q = some (q.set jj (some m)) := by unfold Cd.put1; rw [hqj, Cd.set_same _ _ _ (by rw [hqj, hkm])]; exact if_pos hkm
                                      rw [hput1, Option.bind_some] at hp5
                                      rw [decide_eq_true hkm] at hsame
                                      have HP5 := Lib.hid (And.intro hRk5 (And.intro hn5 (And.intro hrow5 (And.intro (by rw [List.length_set]; exact hql5 : (q.set jj (some m)).length = nb) (And.intro (lens_set (j := jj) hq5 HM4.out.1) hp5)))))
                                      have HQL5 : Hid (jj < q.length) := Lib.hid (by rw [hql5]; exact hjn)
                                      clear hRk5 hql5 hq5 hn5 hrow5 hp5 hst5 hput1 hjj HT5 hkn hkc hkm
                                      have HKS := Lib.hid hqj
                                      clear hqj
                                      go_wp2_with (go_at_call 16; refine hsame.mono ?_; clear hsame; rintro e wr6 ⟨rfl, hg6⟩; have hR6 := HP5.out.1.on hg6; obtain ⟨z2, z1, a9, n9, c9, k9⟩ := hR6.stores (j := jj) HQL5.out; have k26 := hg6.cell k25 (by simp); have HP := Lib.hid (And.intro (hR6.put (j := jj) HQL5.out (HP5.out.2.1.on hg6) HM2.out.2) (And.intro (hR6.put_nums (j := jj) HQL5.out (.slice a2 m.length c2) (HP5.out.2.1.on hg6)) (put_row (.bool true) (.slice a2 m.length c2) (j := jj) ((hg6.block _ (gl (HP5.out.2.2.1 (by omega))) (by simp)).trans (HP5.out.2.2.1 (by omega))) HAA.out.1 HAA.out.2))); clear hR6 hg6)
                                      go_roundw
                                      case measure => first | (simp [intOf]; done) | (simp [intOf]; omega)
                                      exact ⟨t5 + 1, by omega, by go_num, Lib.hid ⟨_, HP.out.1, HP5.out.2.2.2.1, HP5.out.2.2.2.2.1, HP.out.2.1, fun _ => HP.out.2.2, HP5.out.2.2.2.2.2⟩⟩
                                    · have hput1 : Cd.put1 m jj q = none := by unfold Cd.put1; rw [hqj]; exact if_neg hkm
                                      rw [hput1] at hp5
                                      have HR : Hid (R = 50) := Lib.hid (by
                                        have h1 : D = false := hp5.symm
                                        rw [HRD.out, h1]
                                        rfl)
                                      rw [decide_eq_false hkm] at hsame
                                      have HGR := Lib.hid hRk5.gr
                                      clear hRk5 hql5 hq5 hn5 hrow5 hp5 hst5 hput1 hjj HT5 hkn hkc hkm hqj
                                      go_wp2_with (go_at_call 16; refine hsame.mono ?_; clear hsame; rintro e wr6 ⟨rfl, hg6⟩; have HG6 := Lib.hid (HGR.out.trans hg6); clear hg6)
                                      go_ret
                                      exact ⟨(by rw [HR.out]; rfl), HG6.out⟩
                                · obtain rfl : t5 = 2 := by omega
                                  rw [List.drop_of_length_le (by rw [HWS.out.1]; omega)] at hp5
                                  have HP := Lib.hid (And.intro hRk5 (And.intro hql5 (And.intro hq5 hp5)))
                                  clear hRk5 hql5 hq5 hn5 hrow5 hp5 HT5
                                  go_wp2
                                  go_roundw
                                  case measure => first | (simp [intOf]; done) | (simp [intOf]; omega)
                                  exact ⟨t + 1, by omega, by go_num, Lib.hid ⟨q, HP.out.1, HP.out.2.1, HP.out.2.2.1, HP.out.2.2.2⟩⟩
                            have hti := HLASTI.out h9
                            obtain ⟨ws, hws⟩ : ∃ ws : List Nat, ws = [t + 1] := ⟨_, rfl⟩
                            obtain ⟨vs, hvs⟩ : ∃ vs : List Value, vs = [.int .i64 ((t : Int) + 1)] := ⟨_, rfl⟩
                            have HPUTS : Hid ((match Cd.puts m ws qs with | none => false | some q => Cd.go c (bs.drop (t + 1)) (q.drop (t + 1))) = D) := Lib.hid (by
                              have h1 := Cd.act_puts (at_ := t) (qs := qs) HSN.out HM4.out.2 (fun h => by simp only at h; omega)
                              rw [if_neg h9, if_neg h7, if_neg h8] at h1
                              rw [← HACT.out, h1, hws])
                            have HWS0 : Hid (ws.length = 1 ∧ (∀ j ∈ ws, j < nb) ∧ (∀ (i j : Nat), ws[i]? = some j → vs[i]? = some (.int .i64 (j : Int)))) := Lib.hid (by rw [hws, hvs]; exact ⟨rfl, fun j hj => (by simp at hj; omega), fun i j h => (by cases i with | zero => simp at h; subst h; rfl | succ i => simp at h)⟩)
                            have d7 : (xo == 7) = false := by simpa using h7
                            have d8 : (xo == 8) = false := by simpa using h8
                            have d9 : (xo == 9) = false := by simpa using h9
                            clear hws h7 h8 h9 hop hti
                            go_wp2
                            clear v4 v6 y0 y1 d4 d7 d8 d9
                            have hgV := World.grownBy_alloc V (.cells #[.int .i64 ((t : Int) + 1)] 3) none
                            have hrV := heap_alloc_new V (.cells #[.int .i64 ((t : Int) + 1)] 3)
                            obtain ⟨V2, hV2⟩ : ∃ V2, V2 = V.alloc (.cells #[.int .i64 ((t : Int) + 1)] 3) := ⟨_, rfl⟩
                            obtain ⟨A, hA⟩ : ∃ A, A = V.heap.size := ⟨_, rfl⟩
                            rw [← hV2] at hgV hrV ⊢
                            rw [show (#[.int .i64 ((t : Int) + 1)] : Array Value) = vs.toArray by rw [hvs]] at hrV
                            have HAA : Hid (A ≠ g1 ∧ A ≠ g1 + 1) := Lib.hid (by rw [hA]; exact HAV.out.2)
                            rw [← hA] at hrV ⊢
                            have HW5 : Hid (Rk w V2 #[.slice ka nk kc, .int .i64 x1, .int .i64 x2, .int .i64 (ni : Int), .int .i64 x4, .slice ia ni ic, .slice (some ⟨b1, o1, none⟩) nb bc] w.heap.size g1 (g1 + 1) qs ∧ NumsAt V2 a2 m.reverse ∧ (0 < 1 → V2.heap[A]? = some (.cells vs.toArray 3 (0, 0)))) := Lib.hid ⟨HV.out.1.on hgV, HM2.out.1.on hgV, fun _ => hrV⟩
                            clear hgV hrV hV2 hA hvs
                            have HWS : Hid (ws.length = 1 ∧ (∀ j ∈ ws, j < nb) ∧ (∀ (i j : Nat), ws[i]? = some j → vs[i]? = some (.int .i64 (j : Int)))) := HWS0
                            go_loopw [15] (fun kv wr => ∃ t5 : Nat, t5 ≤ 1 ∧ kv = .int .i64 (t5 : Int) ∧ Hid (∃ q : Kn, Rk w wr #[.slice ka nk kc, .int .i64 x1, .int .i64 x2, .int .i64 (ni : Int), .int .i64 x4, .slice ia ni ic, .slice (some ⟨b1, o1, none⟩) nb bc] w.heap.size g1 (g1 + 1) q ∧ q.length = nb ∧ (∀ s, some s ∈ q → s.length ≤ 64) ∧ NumsAt wr a2 m.reverse ∧ (0 < 1 → wr.heap[A]? = some (.cells vs.toArray 3 (0, 0))) ∧ (match Cd.puts m (ws.drop t5) q with | none => false | some q => Cd.go c (bs.drop (t + 1)) (q.drop (t + 1))) = D)) (fun kv _ => 1 - (intOf kv).toNat)
                            case atStart => exact ⟨0, Nat.zero_le _, rfl, Lib.hid ⟨qs, HW5.out.1, HQ.out.2.1, HQ.out.2.2, HW5.out.2.1, HW5.out.2.2, HPUTS.out⟩⟩
                            case round =>
                              obtain ⟨t5, ht5, rfl, HT5⟩ := hrel
                              obtain ⟨q, hRk5, hql5, hq5, hn5, hrow5, hp5⟩ := HT5.out
                              by_cases hlt5 : t5 < 1
                              · obtain ⟨jj, hjj⟩ : ∃ jj, ws[t5]? = some jj := ⟨_, List.getElem?_eq_getElem (by rw [HWS.out.1]; exact hlt5)⟩
                                have hjn := HWS.out.2.1 jj (List.mem_iff_getElem?.2 ⟨_, hjj⟩)
                                have c5 := cell_u (hrow5 (by omega)) t5
                                rw [HWS.out.2.2 _ _ hjj] at c5
                                obtain ⟨qj, hqj⟩ : ∃ qj, q[jj]? = some qj := ⟨_, List.getElem?_eq_getElem (by rw [hql5]; exact hjn)⟩
                                have k25 := hRk5.kn jj qj hqj
                                obtain ⟨a5, n5, cp5, k15, hst5⟩ := hRk5.ats jj qj hqj
                                rw [Cd.drop_at hjj, Cd.puts] at hp5
                                cases qj with
                                | none =>
                                  have hput1 : Cd.put1 m jj q = some (q.set jj (some m)) := by unfold Cd.put1; rw [hqj]
                                  rw [hput1, Option.bind_some] at hp5
                                  obtain ⟨z2, z1, a9, n9, c9, k9⟩ := hRk5.stores (j := jj) (by rw [hql5]; exact hjn)
                                  have HP := Lib.hid (And.intro (hRk5.put (j := jj) (by rw [hql5]; exact hjn) hn5 HM2.out.2) (And.intro (hRk5.put_nums (j := jj) (by rw [hql5]; exact hjn) (.slice a2 m.length c2) hn5) (And.intro (put_row (.bool true) (.slice a2 m.length c2) (j := jj) (hrow5 (by omega)) HAA.out.1 HAA.out.2) (And.intro (by rw [List.length_set]; exact hql5 : (q.set jj (some m)).length = nb) (And.intro (lens_set (j := jj) hq5 HM4.out.1) hp5)))))
                                  simp only [Option.isSome_none] at k25
                                  clear hRk5 hql5 hq5 hn5 hrow5 hp5 hqj hst5 hput1 k15 hjj HT5
                                  go_wp2
                                  go_roundw
                                  case measure => first | (simp [intOf]; done) | (simp [intOf]; omega)
                                  exact ⟨t5 + 1, by omega, by go_num, Lib.hid ⟨_, HP.out.1, HP.out.2.2.2.1, HP.out.2.2.2.2.1, HP.out.2.1, fun _ => HP.out.2.2.1, HP.out.2.2.2.2.2⟩⟩
                                | some k =>
                                  obtain ⟨rfl, hkc, hkn⟩ := hst5 k rfl
                                  have hsame := rsame_any wr k.reverse m.reverse a5 a2 cp5 c2 hkn hn5 (by have := hq5 k (List.mem_iff_getElem?.2 ⟨_, hqj⟩); unfold maxLen; simp; omega) (by have := HM4.out.1; unfold maxLen; simp; omega)
                                  rw [List.length_reverse, List.length_reverse, show decide (k.reverse = m.reverse) = decide (k = m) by rw [decide_eq_decide]; exact List.reverse_inj] at hsame
                                  simp only [Option.isSome_some] at k25
                                  by_cases hkm : k = m
                                  · have hput1 : Cd.put1 m jj q = some (q.set jj (some m)) := by unfold Cd.put1; rw [hqj, Cd.set_same _ _ _ (by rw [hqj, hkm])]; exact if_pos hkm
                                    rw [hput1, Option.bind_some] at hp5
                                    rw [decide_eq_true hkm] at hsame
                                    have HP5 := Lib.hid (And.intro hRk5 (And.intro hn5 (And.intro hrow5 (And.intro (by rw [List.length_set]; exact hql5 : (q.set jj (some m)).length = nb) (And.intro (lens_set (j := jj) hq5 HM4.out.1) hp5)))))
                                    have HQL5 : Hid (jj < q.length) := Lib.hid (by rw [hql5]; exact hjn)
                                    clear hRk5 hql5 hq5 hn5 hrow5 hp5 hst5 hput1 hjj HT5 hkn hkc hkm
                                    have HKS := Lib.hid hqj
                                    clear hqj
                                    go_wp2_with (go_at_call 16; refine hsame.mono ?_; clear hsame; rintro e wr6 ⟨rfl, hg6⟩; have hR6 := HP5.out.1.on hg6; obtain ⟨z2, z1, a9, n9, c9, k9⟩ := hR6.stores (j := jj) HQL5.out; have k26 := hg6.cell k25 (by simp); have HP := Lib.hid (And.intro (hR6.put (j := jj) HQL5.out (HP5.out.2.1.on hg6) HM2.out.2) (And.intro (hR6.put_nums (j := jj) HQL5.out (.slice a2 m.length c2) (HP5.out.2.1.on hg6)) (put_row (.bool true) (.slice a2 m.length c2) (j := jj) ((hg6.block _ (gl (HP5.out.2.2.1 (by omega))) (by simp)).trans (HP5.out.2.2.1 (by omega))) HAA.out.1 HAA.out.2))); clear hR6 hg6)
                                    go_roundw
                                    case measure => first | (simp [intOf]; done) | (simp [intOf]; omega)
                                    exact ⟨t5 + 1, by omega, by go_num, Lib.hid ⟨_, HP.out.1, HP5.out.2.2.2.1, HP5.out.2.2.2.2.1, HP.out.2.1, fun _ => HP.out.2.2, HP5.out.2.2.2.2.2⟩⟩
                                  · have hput1 : Cd.put1 m jj q = none := by unfold Cd.put1; rw [hqj]; exact if_neg hkm
                                    rw [hput1] at hp5
                                    have HR : Hid (R = 50) := Lib.hid (by
                                      have h1 : D = false := hp5.symm
                                      rw [HRD.out, h1]
                                      rfl)
                                    rw [decide_eq_false hkm] at hsame
                                    have HGR := Lib.hid hRk5.gr
                                    clear hRk5 hql5 hq5 hn5 hrow5 hp5 hst5 hput1 hjj HT5 hkn hkc hkm hqj
                                    go_wp2_with (go_at_call 16; refine hsame.mono ?_; clear hsame; rintro e wr6 ⟨rfl, hg6⟩; have HG6 := Lib.hid (HGR.out.trans hg6); clear hg6)
                                    go_ret
                                    exact ⟨(by rw [HR.out]; rfl), HG6.out⟩
                              · obtain rfl : t5 = 1 := by omega
                                rw [List.drop_of_length_le (by rw [HWS.out.1]; omega)] at hp5
                                have HP := Lib.hid (And.intro hRk5 (And.intro hql5 (And.intro hq5 hp5)))
                                clear hRk5 hql5 hq5 hn5 hrow5 hp5 HT5
                                go_wp2
                                go_roundw
                                case measure => first | (simp [intOf]; done) | (simp [intOf]; omega)
                                exact ⟨t + 1, by omega, by go_num, Lib.hid ⟨q, HP.out.1, HP.out.2.1, HP.out.2.2.1, HP.out.2.2.2⟩⟩
                    · obtain rfl : nb = t := by omega
                      have HR : Hid (R = 0) := Lib.hid (by
                        have h1 : D = true := by
                          rw [← hgo, HN.out.2.2]
                          exact Cd.go_end
                        rw [HRD.out, h1]
                        rfl)
                      have HQ := Lib.hid hRk.gr
                      clear hRk hql hq64 hgo HT
                      go_wp2
                      go_ret
                      exact ⟨(by rw [HR.out]; rfl), HQ.out⟩
            · have d9 : (x.op != 9) = true := by simp [ho]
              have HR : Hid (R = 40) := Lib.hid (HBAD.out (fun h => by
                have h3 := h.2.2
                unfold opsB at h3
                rw [← HE.out.2.2, HLAST.out, Bool.and_eq_true] at h3
                simp at h3
                exact ho h3.2))
              clear ho
              generalize hxo : x.op = xo at p1 d9
              clear hxo
              go_wp2
              go_ret
              exact ⟨(by rw [HR.out]; rfl), HT.out.2.1⟩
      · have d1 : ((ni : Int) != x3) = true := by simpa using hne
        have HR : Hid (R = 40) := Lib.hid (HBAD.out (fun h => hne (by rw [HN.out.2.1, HE.out.2.1, HXX.out.2.2.1]; exact iniB_len h.2.1)))
        clear hne
        go_wp2
        go_ret
        exact ⟨(by rw [HR.out]; rfl), HT.out.2.1⟩
end Go.Proofs.YtfbhflpjhbemlaaGreat
