/- Package code: hasInits. -/
import Derived.Test.YtlppifnepckpiaaCfM
namespace Go.Proofs.Ytlppifnepckpiaa
open Go.RowKit Go.Maps Go.WideMaps
open Cd (Kn)

/-- values of the cells -/
def iniB (c : Cd.Code) : Bool := ((c.init.length : Int) == c.cells) && (c.init.zip (c.kinds.drop (c.ins + c.outs).toNat)).all fun p => Bv.isv p.2 p.1

theorem zip_up {is ks : List Int} {t : Nat} {x y : Int} (hx : is[t]? = some x) (hy : ks[t]? = some y) (h : ((is.take t).zip ks).all (fun p => Bv.isv p.2 p.1) = true) (hv : Bv.isv y x = true) : ((is.take (t + 1)).zip ks).all (fun p => Bv.isv p.2 p.1) = true := by
  rw [List.all_eq_true] at h ⊢
  rintro ⟨a, b⟩ hab
  obtain ⟨i, hi⟩ := List.mem_iff_getElem?.1 hab
  rw [List.getElem?_zip_eq_some] at hi
  obtain ⟨h1, h2⟩ := hi
  rw [List.getElem?_take] at h1
  split at h1
  · rename_i hlt
    by_cases e : i = t
    · subst e
      rw [hx] at h1
      rw [hy] at h2
      cases h1
      cases h2
      exact hv
    · refine h (a, b) (List.mem_iff_getElem?.2 ⟨i, ?_⟩)
      rw [List.getElem?_zip_eq_some]
      exact ⟨by rw [List.getElem?_take, if_pos (by omega)]; exact h1, h2⟩
  · cases h1

set_option maxHeartbeats 4000000 in
theorem hasInits_any (w : World) (c : Cd.Code) (ka : Option Addr) (kc : Nat) (ia : Option Addr) (ic : Nat) (ba : Option Addr) (bc : Nat) (hkc : c.kinds.length ≤ kc) (hn : NumsAt w ka c.kinds) (hi : NumsAt w ia c.init) (hm : c.kinds.length ≤ 8000) (hc : Cnt c) :
    Calls Try.prog 22 #[.agg (codeV c ka kc ia ic ba bc)] w fun e w' => e = .returned (.bool (iniB c)) ∧ w.grownBy w' none := by
  unfold codeV
  obtain ⟨⟨c1, c2⟩, ⟨c3, c4⟩, ⟨c5, c6⟩, c7, c8⟩ := hc
  obtain ⟨P, hP⟩ : ∃ P : Nat, c.ins + c.outs = P := ⟨(c.ins + c.outs).toNat, by omega⟩
  have hg := World.grownBy_alloc w (.cells #[.slice ka c.kinds.length kc, .int .i64 c.ins, .int .i64 c.outs, .int .i64 c.cells, .int .i64 c.stack, .slice ia c.init.length ic, .slice ba c.body.length bc] 30) none
  have HG := Lib.hid hg
  have ew : wrap64 (c.ins + c.outs) = P := by rw [hP]; unfold wrap64; omega
  have hPK : P + c.cells ≤ c.kinds.length := by omega
  by_cases hne : (c.init.length : Int) = c.cells
  · have d1 : ((c.init.length : Int) != c.cells) = false := by simp [hne]
    obtain ⟨D, hD⟩ : ∃ D : Bool, D = iniB c := ⟨_, rfl⟩
    have hD2 : D = (c.init.zip (c.kinds.drop P)).all fun p => Bv.isv p.2 p.1 := by
      rw [hD]
      unfold iniB
      rw [hP, Int.toNat_natCast, beq_iff_eq.2 hne, Bool.true_and]
    rw [← hD]
    have HD := Lib.hid hD2
    have HN := Lib.hid hn
    have HI := Lib.hid hi
    clear hg hn hi hD hD2 c1 c2 c3 c4 c5 c6 c7 c8 hP
    have hne' : (c.init.length : Int) = c.cells := hne
    rw [← hne] at hPK d1 HG ⊢
    clear hne hne'
    generalize c.kinds = ks at *
    generalize c.init = is at *
    obtain ⟨K, hK⟩ : ∃ K, K = ks.length := ⟨_, rfl⟩
    obtain ⟨I, hI⟩ : ∃ I, I = is.length := ⟨_, rfl⟩
    rw [← hK] at hkc hm hPK HG ⊢
    rw [← hI] at hPK d1 HG ⊢
    have HK := Lib.hid (And.intro hK hI)
    clear hK hI
    generalize c.body.length = B at *
    generalize c.stack = s at *
    generalize c.ins = ci at *
    generalize c.outs = co at *
    have hP1 : (0 : Int) ≤ (P : Int) := by omega
    have hP2 : (P : Int) ≤ (K : Int) := by omega
    have hI1 : P + I ≤ K := by omega
    have hIs := fun k n V => is_any k n V
    by_cases hI0 : I = 0
    · subst hI0
      have HD2 : Hid (D = true) := Lib.hid (by
        have : is = [] := List.eq_nil_of_length_eq_zero HK.out.2.symm
        rw [HD.out, this]
        rfl)
      have hP3 : kc = P ∨ ¬ kc = P := by omega
      rcases hP3 with hkP | hkP
      · subst hkP
        go_enter Try.func22, Try.ntmps22
        go_wp2
        go_loopw [23] (fun iv wr => iv = .int .i64 0 ∧ Hid (w.grownBy wr none)) (fun _ _ => 0)
        case atStart => exact ⟨rfl, HG⟩
        case round =>
          obtain ⟨rfl, HT⟩ := hrel
          go_wp2
          go_ret
          exact ⟨(by rw [HD2.out]; rfl), HT.out⟩
      · go_enter Try.func22, Try.ntmps22
        go_wp2
        go_loopw [23] (fun iv wr => iv = .int .i64 0 ∧ Hid (w.grownBy wr none)) (fun _ _ => 0)
        case atStart => exact ⟨rfl, HG⟩
        case round =>
          obtain ⟨rfl, HT⟩ := hrel
          go_wp2
          go_ret
          exact ⟨(by rw [HD2.out]; rfl), HT.out⟩
    · have hkP : ¬ kc = P := by omega
      obtain ⟨x0, hx0⟩ : ∃ x, ks[P]? = some x := ⟨_, List.getElem?_eq_getElem (by rw [← HK.out.1]; omega)⟩
      obtain ⟨kb, ko, hka, -⟩ := HN.out P x0 hx0
      subst hka
      clear hx0
      go_enter Try.func22, Try.ntmps22
      go_wp2
      go_loopw [23] (fun iv wr => ∃ t : Nat, t ≤ I ∧ iv = .int .i64 (t : Int) ∧ Hid (((is.take t).zip (ks.drop P)).all (fun p => Bv.isv p.2 p.1) = true ∧ w.grownBy wr none)) (fun i _ => I - (intOf i).toNat)
      case atStart => exact ⟨0, Nat.zero_le _, rfl, Lib.hid ⟨by simp, HG.out⟩⟩
      case round =>
        obtain ⟨t, ht, rfl, HT⟩ := hrel
        clear ew
        by_cases hlt : t < I
        · obtain ⟨x, hx⟩ : ∃ x, is[t]? = some x := ⟨_, List.getElem?_eq_getElem (by rw [← HK.out.2]; exact hlt)⟩
          obtain ⟨y, hy⟩ : ∃ y, ks[P + t]? = some y := ⟨_, List.getElem?_eq_getElem (by rw [← HK.out.1]; omega)⟩
          obtain ⟨b1, o1, rfl, hc1⟩ := HI.out t x hx
          obtain ⟨b2, o2, hbo, hc2⟩ := HN.out (P + t) y hy
          cases hbo
          have p1 := HT.out.2.cell hc1 (by simp)
          have p2 := HT.out.2.cell hc2 (by simp)
          rw [← Nat.add_assoc] at p2
          have HX := Lib.hid (And.intro hx hy)
          have hb1 : t < K - P := by omega
          clear hx hy hc1 hc2
          have hkx := fun V => hIs y x V
          cases hv : Bv.isv y x with
          | true =>
            have HV := Lib.hid hv
            simp only [hv] at hkx
            clear hv
            go_wp2_with (go_at_call 18; refine (hkx _).mono ?_; rintro e w' ⟨rfl, hw'⟩; obtain rfl := hw'.symm)
            refine ⟨⟨t + 1, by omega, by go_num, Lib.hid ⟨?_, HT.out.2⟩⟩, by simp [intOf]; omega⟩
            exact zip_up HX.out.1 (by rw [List.getElem?_drop]; exact HX.out.2) HT.out.1 HV.out
          | false =>
            have HV : Hid (D = false) := Lib.hid (by
              rw [HD.out, List.all_eq_false]
              refine ⟨(x, y), List.mem_iff_getElem?.2 ⟨t, ?_⟩, by simp [hv]⟩
              rw [List.getElem?_zip_eq_some]
              exact ⟨HX.out.1, by rw [List.getElem?_drop]; exact HX.out.2⟩)
            simp only [hv] at hkx
            clear hv
            go_wp2_with (go_at_call 18; refine (hkx _).mono ?_; rintro e w' ⟨rfl, hw'⟩; obtain rfl := hw'.symm)
            go_ret
            exact ⟨(by rw [HV.out]; rfl), HT.out.2⟩
        · obtain rfl : t = I := by omega
          have HV : Hid (D = true) := Lib.hid (by
            have := HT.out.1
            rw [HK.out.2, List.take_length] at this
            rw [HD.out]
            exact this)
          go_wp2
          go_ret
          exact ⟨(by rw [HV.out]; rfl), HT.out.2⟩
  · have d1 : ((c.init.length : Int) != c.cells) = true := by simpa using hne
    have HD : Hid (iniB c = false) := Lib.hid (by
      unfold iniB
      rw [beq_eq_false_iff_ne.2 hne, Bool.false_and])
    rw [HD.out]
    clear hg hn hi c1 c2 c3 c4 c5 c6 c7 c8 hP hPK ew
    generalize c.kinds.length = K at *
    generalize c.init.length = I at *
    generalize c.body.length = B at *
    generalize c.stack = s at *
    generalize c.ins = ci at *
    generalize c.outs = co at *
    generalize c.cells = cc at *
    go_enter Try.func22, Try.ntmps22
    go_wp2
    go_ret
    exact ⟨rfl, HG.out⟩
end Go.Proofs.Ytlppifnepckpiaa
