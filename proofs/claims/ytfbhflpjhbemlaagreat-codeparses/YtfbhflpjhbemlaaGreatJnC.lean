/- Texts joined: BvP, BvZ, BvZa. -/
import Derived.Test.YtfbhflpjhbemlaaGreatChecked
import Derived.Test.YtfbhflpjhbemlaaGreatJnB
import Derived.Deep.RegionHeld
/- The walk of the document's own moved: the bits of a value moved by so many places, up or down. -/
namespace Go.Proofs.YtfbhflpjhbemlaaGreat
open Go.RowKit

/-- one bit more of the number of places -/
theorem place_step (m : Nat) (hm : 0 < m) (hle : m ≤ 64) (b : Int) (s nn : Nat) (fr : Bool) (hs : s < m) (h1 : nn = min (Bv.low m b / 2 ^ (s + 1)) m) (h2 : fr = decide (m ≤ Bv.low m b / 2 ^ (s + 1))) :
    (2 * nn + (if Bv.bt b s then 1 else 0) < m → 2 * nn + (if Bv.bt b s then 1 else 0) = min (Bv.low m b / 2 ^ s) m ∧ fr = decide (m ≤ Bv.low m b / 2 ^ s)) ∧
      (¬ 2 * nn + (if Bv.bt b s then 1 else 0) < m → m = min (Bv.low m b / 2 ^ s) m ∧ true = decide (m ≤ Bv.low m b / 2 ^ s)) := by
  have hh := half (Bv.low m b) s
  have hbit := Bv.low_bit m hle b s
  simp only [hs, decide_true, Bool.true_and] at hbit
  rw [hbit] at hh
  generalize (if Bv.bt b s then 1 else 0 : Nat) = x at *
  rw [hh]
  generalize Bv.low m b / 2 ^ (s + 1) = P at *
  refine ⟨fun h => ⟨by omega, ?_⟩, fun h => ⟨by omega, ?_⟩⟩
  · rw [h2, decide_eq_decide]; omega
  · symm; rw [decide_eq_true_eq]; omega

theorem made_row (m : Nat) : (madeCells (Value.int .i64 0).cells (m * 1)).toList = (Bv.lst (fun _ => false) m).map (Value.int .i64) := by
  have e : (Value.int IntKind.i64 0).cells = #[.int .i64 0] := rfl
  rw [e, toList_madeCells_one, Nat.mul_one]
  apply List.ext_getElem?
  intro i
  by_cases hi : i < m
  · simp [Bv.lst, hi, Bv.one]
  · simp [Bv.lst, hi]

theorem mix_step2 (f g : Nat → Bool) (m j : Nat) (u : Value) (hj : j < m) : (((Bv.lst (mix f g j) m).map (Value.int .i64)).set j u).set j (.int .i64 (Bv.one (g j))) = (Bv.lst (mix f g (j + 1)) m).map (Value.int .i64) := by
  rw [List.set_set]
  exact mix_step f g m j hj

set_option maxRecDepth 100000 in
set_option maxHeartbeats 8000000 in
theorem moved12 (k a b : Int) (h1 : 1 ≤ k) (h2 : k ≤ 9)  (w : World) :
    Calls Tryz.prog 76 #[.int .i64 12, .int .i64 k, .int .i64 a, .int .i64 b] w fun e w' => e = .returned (.int .i64 (Bv.val k (Bv.mvf 12 (Bv.wn k) a false (Bv.low (Bv.wn k) b)))) ∧ Below w.heap.size w w' := by
  obtain ⟨it, hit, hz, hsz, hby⟩ := info_parts info3
  have HK : Hid (1 ≤ k ∧ k ≤ 9) := ⟨h1, h2⟩
  have hm := wn_pos k
  have hle := Bv.wn_le k
  clear h1 h2
  go_enter Tryz.func76, Tryz.ntmps76
  go_wp2_with fail
  refine (rbits_any _ _ HK.out.1 HK.out.2 _).mono ?_
  rintro e w1 ⟨v, rfl, hx, hB⟩
  obtain ⟨g, cap, rfl, hg1, hg2, hx, _, _⟩ := row_cells hx hm
  go_wp2_with (first | (go_at_call 70; refine (rsigned_any _ _).mono ?_; rintro e w2 ⟨rfl, hw⟩; subst hw))
  refine (rbits_any _ _ HK.out.1 HK.out.2 _).mono ?_
  rintro e w2 ⟨v, rfl, hy, hB2⟩
  obtain ⟨h, cap2, rfl, hh1, hh2, hy, hyc, _⟩ := row_cells hy hm
  have hx2 := owns_below hx hB2
  have hB3 := hB.trans (hB2.mono hB.size)
  have hg3 : g < w2.heap.size := Nat.lt_of_lt_of_le hg2 hB2.size
  have HY : Hid (∀ j, j < Bv.wn k → w2.cell? ⟨h, j, none⟩ = some (.int .i64 (Bv.one (Bv.bt b j)))) := hyc
  have HW : Hid (w2.ownsRow w.heap.size 3 1 (.slice (some ⟨g, 0, none⟩) (Bv.wn k) cap) (Bv.wn k) ((Bv.lst (Bv.bt a) (Bv.wn k)).map (Value.int .i64)) ∧ Below w.heap.size w w2 ∧ g < w2.heap.size) := ⟨hx2, hB3, hg3⟩
  clear hx hB hB2 hg2 hh1 hh2 hy hyc hx2 hB3 hg3
  have HP : Hid (∀ (s nn : Nat) (fr : Bool), s < Bv.wn k → nn = min (Bv.low (Bv.wn k) b / 2 ^ (s + 1)) (Bv.wn k) → fr = decide (Bv.wn k ≤ Bv.low (Bv.wn k) b / 2 ^ (s + 1)) → _) := fun s nn fr => place_step (Bv.wn k) hm hle b s nn fr
  have H0 : Hid (0 = min (Bv.low (Bv.wn k) b / 2 ^ Bv.wn k) (Bv.wn k) ∧ false = decide (Bv.wn k ≤ Bv.low (Bv.wn k) b / 2 ^ Bv.wn k)) := by
    have hz : Bv.low (Bv.wn k) b / 2 ^ Bv.wn k = 0 := Nat.div_eq_of_lt (Bv.low_lt _ b)
    rw [hz]
    exact ⟨by omega, by symm; rw [decide_eq_false_iff_not]; omega⟩
  go_wp2
  go_loop [13, 14, 15] (fun far n i => ∃ t nn : Nat, ∃ fr : Bool, t ≤ Bv.wn k ∧ nn ≤ Bv.wn k ∧ i = .int .i64 ((t : Int) - 1) ∧ n = .int .i64 (nn : Int) ∧ far = .bool fr ∧ Hid (nn = min (Bv.low (Bv.wn k) b / 2 ^ t) (Bv.wn k) ∧ fr = decide (Bv.wn k ≤ Bv.low (Bv.wn k) b / 2 ^ t))) (fun _ _ i => (intOf i + 1).toNat)
  case atStart => exact ⟨Bv.wn k, 0, false, Nat.le_refl _, by omega, rfl, rfl, rfl, H0⟩
  case round =>
    clear H0
    obtain ⟨t, nn, fr, ht, hnn, rfl, rfl, rfl, HX⟩ := hrel
    cases t with
    | succ s =>
      have e : ((s + 1 : Nat) : Int) - 1 = (s : Int) := by omega
      rw [e]
      clear e
      have hcy := HY.out s (by omega)
      have HS : Hid _ := HP.out s nn fr (by omega) HX.out.1 HX.out.2
      clear HX HP
      cases hbit : Bv.bt b s with
      | false =>
        rw [hbit] at hcy
        have e0 : Bv.one false = 0 := rfl
        rw [e0] at hcy
        have HS2 := HS.out
        simp only [hbit, Bool.false_eq_true, if_false] at HS2
        have HT : Hid _ := HS2
        clear HS HS2 hbit e0
        by_cases hge : 2 * nn + 0 < Bv.wn k
        · go_wp2
          exact ⟨⟨s, 2 * nn, fr, by omega, by omega, rfl, by go_num, rfl, HT.out.1 hge⟩, by simp [intOf]⟩
        · go_wp2
          exact ⟨⟨s, Bv.wn k, true, by omega, by omega, rfl, rfl, rfl, HT.out.2 hge⟩, by simp [intOf]⟩
      | true =>
        rw [hbit] at hcy
        have e0 : Bv.one true = 1 := rfl
        rw [e0] at hcy
        have HS2 := HS.out
        simp only [hbit, if_true] at HS2
        have HT : Hid _ := HS2
        clear HS HS2 hbit e0
        by_cases hge : 2 * nn + 1 < Bv.wn k
        · go_wp2
          exact ⟨⟨s, 2 * nn + 1, fr, by omega, by omega, rfl, by go_num, rfl, HT.out.1 hge⟩, by simp [intOf]⟩
        · go_wp2
          exact ⟨⟨s, Bv.wn k, true, by omega, by omega, rfl, rfl, rfl, HT.out.2 hge⟩, by simp [intOf]⟩
    | zero =>
      have e : ((0 : Nat) : Int) - 1 = -1 := rfl
      rw [e]
      clear e HP HY
      go_wp2_with (first | (at_make; refine wpList_make_full _ rfl _ _ 24 rfl w.heap.size 3 it (.int .i64 0) 1 Tryz.underlying24 hit hz hsz _ _ _ _ (Bv.wn k) rfl rfl rfl rfl (by rw [hby]; omega) (by unfold maxLen; omega) (by have := HW.out.2.1.size; simp; omega) ?_; intro w3 ho hgrow))
      have hx := HW.out.1.kept hgrow (Or.inr (by simp [Value.ownBlock]))
      have hB := HW.out.2.1.grown hgrow HW.out.2.1.size (fun q hq => by cases hq)
      have hgo : g < w2.heap.size := HW.out.2.2
      have ho1 : w.heap.size ≤ w2.heap.size := HW.out.2.1.size
      rw [made_row, ← mix_zero (fun _ => false) (Bv.mvf 12 (Bv.wn k) a false (Bv.low (Bv.wn k) b))] at ho
      rw [Nat.pow_zero, Nat.div_one] at HX
      clear HW hgrow
      generalize w2.heap.size = o at *
      go_loopw [17] (fun i wr => ∃ t : Nat, t ≤ Bv.wn k ∧ i = .int .i64 t ∧ wr.ownsRow w.heap.size 3 1 (.slice (some ⟨o, 0, none⟩) (Bv.wn k) (Bv.wn k)) (Bv.wn k) ((Bv.lst (mix (fun _ => false) (Bv.mvf 12 (Bv.wn k) a false (Bv.low (Bv.wn k) b)) t) (Bv.wn k)).map (Value.int .i64)) ∧
          wr.ownsRow w.heap.size 3 1 (.slice (some ⟨g, 0, none⟩) (Bv.wn k) cap) (Bv.wn k) ((Bv.lst (Bv.bt a) (Bv.wn k)).map (Value.int .i64)) ∧ Below w.heap.size w wr) (fun i _ => Bv.wn k - (intOf i).toNat)
      case atStart => exact ⟨0, Nat.zero_le _, rfl, ho, hx, hB⟩
      case round =>
        clear ho hx hB
        obtain ⟨t, ht2, rfl, ho, hx, hB⟩ := hrel
        by_cases hlt : t < Bv.wn k
        · have hco : wr.cell? ⟨o, t, none⟩ = some (.int .i64 0) := by
            rw [ho.cellAt t (by omega), List.getElem?_map, Bv.lst_get _ _ _ hlt]
            simp [mix, Bv.one]
          have hfz := ho.frozenAt t
          cases fr with
          | true =>
            have hB1 : Bv.wn k ≤ Bv.low (Bv.wn k) b := by have := HX.out.2; simpa using this.symm
            have eF : (Bv.mvf 12 (Bv.wn k) a false (Bv.low (Bv.wn k) b)) t = false := by unfold Bv.mvf; rw [if_neg (by omega)]
            clear HX hB1
            have eF1 : Bv.one ((Bv.mvf 12 (Bv.wn k) a false (Bv.low (Bv.wn k) b)) t) = 0 := by rw [eF]; rfl
            have HE : Hid (Bv.one ((Bv.mvf 12 (Bv.wn k) a false (Bv.low (Bv.wn k) b)) t) = 0) := eF1
            clear eF eF1
            have hst := ho.stored t (.int .i64 0)
            have HO : Hid _ := hst.1
            have HX2 : Hid _ := hx.kept hst.2 (Or.inr (by simp [Value.ownBlock]; omega))
            have HB : Hid _ := hB.setCell (p := ⟨o, t, none⟩) ho1 (.int .i64 0)
            clear ho hx hB hst
            go_wp2
            have hm2 := mix_step (fun _ => false) (Bv.mvf 12 (Bv.wn k) a false (Bv.low (Bv.wn k) b)) _ t hlt
            rw [HE.out] at hm2
            have ho' := HO.out
            rw [hm2] at ho'
            exact ⟨⟨t + 1, by omega, by go_num, ho', HX2.out, HB.out⟩, by simp [intOf]; omega⟩
          | false =>
            have hB1 : Bv.low (Bv.wn k) b < Bv.wn k := by have := HX.out.2; simpa using this.symm
            have hnB : nn = Bv.low (Bv.wn k) b := by have := HX.out.1; omega
            clear HX
            by_cases hd : nn ≤ t
            · obtain ⟨d, hdd⟩ : ∃ d, d = t - nn := ⟨_, rfl⟩
              have eF : (Bv.mvf 12 (Bv.wn k) a false (Bv.low (Bv.wn k) b)) t = Bv.bt a d := by unfold Bv.mvf; rw [if_pos hB1, if_neg (by decide), if_pos (by omega), hdd, hnB]
              have efrom : (t : Int) - (nn : Int) = (d : Int) := by omega
              have hd1 : d < Bv.wn k := by omega
              clear hdd hnB hB1 hd
              have hcx : wr.cell? ⟨g, d, none⟩ = some (.int .i64 (Bv.one (Bv.bt a d))) := by
                rw [hx.cellAt d (by omega), List.getElem?_map, Bv.lst_get _ _ _ (by omega)]
                rfl
              have eF1 : Bv.one ((Bv.mvf 12 (Bv.wn k) a false (Bv.low (Bv.wn k) b)) t) = Bv.one (Bv.bt a d) := by rw [eF]
              have HE : Hid (Bv.one ((Bv.mvf 12 (Bv.wn k) a false (Bv.low (Bv.wn k) b)) t) = Bv.one (Bv.bt a d)) := eF1
              clear eF eF1
              have hst := ho.stored t (.int .i64 0)
              have hst2 := hst.1.stored t (.int .i64 (Bv.one (Bv.bt a d)))
              have HO : Hid _ := hst2.1
              have HX2 : Hid _ := (hx.kept hst.2 (Or.inr (by simp [Value.ownBlock]; omega))).kept hst2.2 (Or.inr (by simp [Value.ownBlock]; omega))
              have HB : Hid _ := (hB.setCell (p := ⟨o, t, none⟩) ho1 (.int .i64 0)).setCell (p := ⟨o, t, none⟩) ho1 (.int .i64 (Bv.one (Bv.bt a d)))
              have hcx2 : (wr.setCell ⟨o, t, none⟩ (.int .i64 0)).cell? ⟨g, d, none⟩ = some (.int .i64 (Bv.one (Bv.bt a d))) := by
                rw [World.cell?_setCell_far _ _ _ _ (by simp; omega)]; exact hcx
              clear ho hx hB hst hst2
              have hgo1 : ¬ g = o := by omega
              have hgo2 : ¬ o = g := by omega
              go_wp2
              have hm2 := mix_step2 (fun _ => false) (Bv.mvf 12 (Bv.wn k) a false (Bv.low (Bv.wn k) b)) _ t (.int .i64 0) hlt
              rw [HE.out] at hm2
              have ho' := HO.out
              rw [hm2] at ho'
              exact ⟨⟨t + 1, by omega, by go_num, ho', HX2.out, HB.out⟩, by simp [intOf]; omega⟩
            · have eF : (Bv.mvf 12 (Bv.wn k) a false (Bv.low (Bv.wn k) b)) t = false := by unfold Bv.mvf; rw [if_pos hB1, if_neg (by decide), if_neg (by omega)]
              clear hnB hB1
              have eF1 : Bv.one ((Bv.mvf 12 (Bv.wn k) a false (Bv.low (Bv.wn k) b)) t) = 0 := by rw [eF]; rfl
              have HE : Hid (Bv.one ((Bv.mvf 12 (Bv.wn k) a false (Bv.low (Bv.wn k) b)) t) = 0) := eF1
              clear eF eF1
              have hst := ho.stored t (.int .i64 0)
              have HO : Hid _ := hst.1
              have HX2 : Hid _ := hx.kept hst.2 (Or.inr (by simp [Value.ownBlock]; omega))
              have HB : Hid _ := hB.setCell (p := ⟨o, t, none⟩) ho1 (.int .i64 0)
              clear ho hx hB hst
              go_wp2
              have hm2 := mix_step (fun _ => false) (Bv.mvf 12 (Bv.wn k) a false (Bv.low (Bv.wn k) b)) _ t hlt
              rw [HE.out] at hm2
              have ho' := HO.out
              rw [hm2] at ho'
              exact ⟨⟨t + 1, by omega, by go_num, ho', HX2.out, HB.out⟩, by simp [intOf]; omega⟩
        · have et : t = Bv.wn k := by omega
          rw [et, mix_all] at ho
          clear et
          go_wp2_with fail
          refine (rfrom_any k (Bv.mvf 12 (Bv.wn k) a false (Bv.low (Bv.wn k) b)) HK.out.1 HK.out.2 o (Bv.wn k) _ ?_).mono ?_
          · intro i hi
            rw [ho.cellAt i (by omega), List.getElem?_map, Bv.lst_get _ _ _ hi]
            rfl
          rintro e w5 ⟨rfl, hw⟩
          subst hw
          go_wp2
          go_ret
          exact ⟨rfl, hB⟩

set_option maxRecDepth 100000 in
set_option maxHeartbeats 8000000 in
theorem moved13n (k a b : Int) (h1 : 1 ≤ k) (h2 : k ≤ 9) (h5 : k ≤ 5) (hk2 : 2 ≤ k) (hneg : a < 0) (w : World) :
    Calls Tryz.prog 76 #[.int .i64 13, .int .i64 k, .int .i64 a, .int .i64 b] w fun e w' => e = .returned (.int .i64 (Bv.val k (Bv.mvf 13 (Bv.wn k) a true (Bv.low (Bv.wn k) b)))) ∧ Below w.heap.size w w' := by
  obtain ⟨it, hit, hz, hsz, hby⟩ := info_parts info3
  have HK : Hid (1 ≤ k ∧ k ≤ 9) := ⟨h1, h2⟩
  have hm := wn_pos k
  have hle := Bv.wn_le k
  have hsg : decide (2 ≤ k ∧ k ≤ 5) = true := by rw [decide_eq_true_eq]; omega
  clear h5 hk2
  clear h1 h2
  go_enter Tryz.func76, Tryz.ntmps76
  go_wp2_with fail
  refine (rbits_any _ _ HK.out.1 HK.out.2 _).mono ?_
  rintro e w1 ⟨v, rfl, hx, hB⟩
  obtain ⟨g, cap, rfl, hg1, hg2, hx, _, _⟩ := row_cells hx hm
  go_wp2_with (first | (go_at_call 70; refine (rsigned_any _ _).mono ?_; rintro e w2 ⟨rfl, hw⟩; subst hw))
  refine (rbits_any _ _ HK.out.1 HK.out.2 _).mono ?_
  rintro e w2 ⟨v, rfl, hy, hB2⟩
  obtain ⟨h, cap2, rfl, hh1, hh2, hy, hyc, _⟩ := row_cells hy hm
  have hx2 := owns_below hx hB2
  have hB3 := hB.trans (hB2.mono hB.size)
  have hg3 : g < w2.heap.size := Nat.lt_of_lt_of_le hg2 hB2.size
  have HY : Hid (∀ j, j < Bv.wn k → w2.cell? ⟨h, j, none⟩ = some (.int .i64 (Bv.one (Bv.bt b j)))) := hyc
  have HW : Hid (w2.ownsRow w.heap.size 3 1 (.slice (some ⟨g, 0, none⟩) (Bv.wn k) cap) (Bv.wn k) ((Bv.lst (Bv.bt a) (Bv.wn k)).map (Value.int .i64)) ∧ Below w.heap.size w w2 ∧ g < w2.heap.size) := ⟨hx2, hB3, hg3⟩
  clear hx hB hB2 hg2 hh1 hh2 hy hyc hx2 hB3 hg3
  have HP : Hid (∀ (s nn : Nat) (fr : Bool), s < Bv.wn k → nn = min (Bv.low (Bv.wn k) b / 2 ^ (s + 1)) (Bv.wn k) → fr = decide (Bv.wn k ≤ Bv.low (Bv.wn k) b / 2 ^ (s + 1)) → _) := fun s nn fr => place_step (Bv.wn k) hm hle b s nn fr
  have H0 : Hid (0 = min (Bv.low (Bv.wn k) b / 2 ^ Bv.wn k) (Bv.wn k) ∧ false = decide (Bv.wn k ≤ Bv.low (Bv.wn k) b / 2 ^ Bv.wn k)) := by
    have hz : Bv.low (Bv.wn k) b / 2 ^ Bv.wn k = 0 := Nat.div_eq_of_lt (Bv.low_lt _ b)
    rw [hz]
    exact ⟨by omega, by symm; rw [decide_eq_false_iff_not]; omega⟩
  go_wp2
  go_loop [13, 14, 15] (fun far n i => ∃ t nn : Nat, ∃ fr : Bool, t ≤ Bv.wn k ∧ nn ≤ Bv.wn k ∧ i = .int .i64 ((t : Int) - 1) ∧ n = .int .i64 (nn : Int) ∧ far = .bool fr ∧ Hid (nn = min (Bv.low (Bv.wn k) b / 2 ^ t) (Bv.wn k) ∧ fr = decide (Bv.wn k ≤ Bv.low (Bv.wn k) b / 2 ^ t))) (fun _ _ i => (intOf i + 1).toNat)
  case atStart => exact ⟨Bv.wn k, 0, false, Nat.le_refl _, by omega, rfl, rfl, rfl, H0⟩
  case round =>
    clear H0
    obtain ⟨t, nn, fr, ht, hnn, rfl, rfl, rfl, HX⟩ := hrel
    cases t with
    | succ s =>
      have e : ((s + 1 : Nat) : Int) - 1 = (s : Int) := by omega
      rw [e]
      clear e
      have hcy := HY.out s (by omega)
      have HS : Hid _ := HP.out s nn fr (by omega) HX.out.1 HX.out.2
      clear HX HP
      cases hbit : Bv.bt b s with
      | false =>
        rw [hbit] at hcy
        have e0 : Bv.one false = 0 := rfl
        rw [e0] at hcy
        have HS2 := HS.out
        simp only [hbit, Bool.false_eq_true, if_false] at HS2
        have HT : Hid _ := HS2
        clear HS HS2 hbit e0
        by_cases hge : 2 * nn + 0 < Bv.wn k
        · go_wp2
          exact ⟨⟨s, 2 * nn, fr, by omega, by omega, rfl, by go_num, rfl, HT.out.1 hge⟩, by simp [intOf]⟩
        · go_wp2
          exact ⟨⟨s, Bv.wn k, true, by omega, by omega, rfl, rfl, rfl, HT.out.2 hge⟩, by simp [intOf]⟩
      | true =>
        rw [hbit] at hcy
        have e0 : Bv.one true = 1 := rfl
        rw [e0] at hcy
        have HS2 := HS.out
        simp only [hbit, if_true] at HS2
        have HT : Hid _ := HS2
        clear HS HS2 hbit e0
        by_cases hge : 2 * nn + 1 < Bv.wn k
        · go_wp2
          exact ⟨⟨s, 2 * nn + 1, fr, by omega, by omega, rfl, by go_num, rfl, HT.out.1 hge⟩, by simp [intOf]⟩
        · go_wp2
          exact ⟨⟨s, Bv.wn k, true, by omega, by omega, rfl, rfl, rfl, HT.out.2 hge⟩, by simp [intOf]⟩
    | zero =>
      have e : ((0 : Nat) : Int) - 1 = -1 := rfl
      rw [e]
      clear e HP HY
      go_wp2_with (first | (at_make; refine wpList_make_full _ rfl _ _ 24 rfl w.heap.size 3 it (.int .i64 0) 1 Tryz.underlying24 hit hz hsz _ _ _ _ (Bv.wn k) rfl rfl rfl rfl (by rw [hby]; omega) (by unfold maxLen; omega) (by have := HW.out.2.1.size; simp; omega) ?_; intro w3 ho hgrow))
      have hx := HW.out.1.kept hgrow (Or.inr (by simp [Value.ownBlock]))
      have hB := HW.out.2.1.grown hgrow HW.out.2.1.size (fun q hq => by cases hq)
      have hgo : g < w2.heap.size := HW.out.2.2
      have ho1 : w.heap.size ≤ w2.heap.size := HW.out.2.1.size
      rw [made_row, ← mix_zero (fun _ => false) (Bv.mvf 13 (Bv.wn k) a true (Bv.low (Bv.wn k) b))] at ho
      rw [Nat.pow_zero, Nat.div_one] at HX
      clear HW hgrow
      generalize w2.heap.size = o at *
      go_loopw [17] (fun i wr => ∃ t : Nat, t ≤ Bv.wn k ∧ i = .int .i64 t ∧ wr.ownsRow w.heap.size 3 1 (.slice (some ⟨o, 0, none⟩) (Bv.wn k) (Bv.wn k)) (Bv.wn k) ((Bv.lst (mix (fun _ => false) (Bv.mvf 13 (Bv.wn k) a true (Bv.low (Bv.wn k) b)) t) (Bv.wn k)).map (Value.int .i64)) ∧
          wr.ownsRow w.heap.size 3 1 (.slice (some ⟨g, 0, none⟩) (Bv.wn k) cap) (Bv.wn k) ((Bv.lst (Bv.bt a) (Bv.wn k)).map (Value.int .i64)) ∧ Below w.heap.size w wr) (fun i _ => Bv.wn k - (intOf i).toNat)
      case atStart => exact ⟨0, Nat.zero_le _, rfl, ho, hx, hB⟩
      case round =>
        clear ho hx hB
        obtain ⟨t, ht2, rfl, ho, hx, hB⟩ := hrel
        by_cases hlt : t < Bv.wn k
        · have hco : wr.cell? ⟨o, t, none⟩ = some (.int .i64 0) := by
            rw [ho.cellAt t (by omega), List.getElem?_map, Bv.lst_get _ _ _ hlt]
            simp [mix, Bv.one]
          have hfz := ho.frozenAt t
          cases fr with
          | true =>
            have hB1 : Bv.wn k ≤ Bv.low (Bv.wn k) b := by have := HX.out.2; simpa using this.symm
            have eF : (Bv.mvf 13 (Bv.wn k) a true (Bv.low (Bv.wn k) b)) t = true := by unfold Bv.mvf; rw [if_neg (by omega)]
            clear HX hB1
            have eF1 : Bv.one ((Bv.mvf 13 (Bv.wn k) a true (Bv.low (Bv.wn k) b)) t) = 1 := by rw [eF]; rfl
            have HE : Hid (Bv.one ((Bv.mvf 13 (Bv.wn k) a true (Bv.low (Bv.wn k) b)) t) = 1) := eF1
            clear eF eF1
            have hst := ho.stored t (.int .i64 1)
            have HO : Hid _ := hst.1
            have HX2 : Hid _ := hx.kept hst.2 (Or.inr (by simp [Value.ownBlock]; omega))
            have HB : Hid _ := hB.setCell (p := ⟨o, t, none⟩) ho1 (.int .i64 1)
            clear ho hx hB hst
            go_wp2
            have hm2 := mix_step (fun _ => false) (Bv.mvf 13 (Bv.wn k) a true (Bv.low (Bv.wn k) b)) _ t hlt
            rw [HE.out] at hm2
            have ho' := HO.out
            rw [hm2] at ho'
            exact ⟨⟨t + 1, by omega, by go_num, ho', HX2.out, HB.out⟩, by simp [intOf]; omega⟩
          | false =>
            have hB1 : Bv.low (Bv.wn k) b < Bv.wn k := by have := HX.out.2; simpa using this.symm
            have hnB : nn = Bv.low (Bv.wn k) b := by have := HX.out.1; omega
            clear HX
            by_cases hd : t + nn < Bv.wn k
            · obtain ⟨d, hdd⟩ : ∃ d, d = t + nn := ⟨_, rfl⟩
              have eF : (Bv.mvf 13 (Bv.wn k) a true (Bv.low (Bv.wn k) b)) t = Bv.bt a d := by unfold Bv.mvf; rw [if_pos hB1, if_pos rfl, if_pos (by omega), hdd, hnB]
              have efrom : (t : Int) + (nn : Int) = (d : Int) := by omega
              have hd1 : d < Bv.wn k := by omega
              clear hdd hnB hB1 hd
              have hcx : wr.cell? ⟨g, d, none⟩ = some (.int .i64 (Bv.one (Bv.bt a d))) := by
                rw [hx.cellAt d (by omega), List.getElem?_map, Bv.lst_get _ _ _ (by omega)]
                rfl
              have eF1 : Bv.one ((Bv.mvf 13 (Bv.wn k) a true (Bv.low (Bv.wn k) b)) t) = Bv.one (Bv.bt a d) := by rw [eF]
              have HE : Hid (Bv.one ((Bv.mvf 13 (Bv.wn k) a true (Bv.low (Bv.wn k) b)) t) = Bv.one (Bv.bt a d)) := eF1
              clear eF eF1
              have hst := ho.stored t (.int .i64 1)
              have hst2 := hst.1.stored t (.int .i64 (Bv.one (Bv.bt a d)))
              have HO : Hid _ := hst2.1
              have HX2 : Hid _ := (hx.kept hst.2 (Or.inr (by simp [Value.ownBlock]; omega))).kept hst2.2 (Or.inr (by simp [Value.ownBlock]; omega))
              have HB : Hid _ := (hB.setCell (p := ⟨o, t, none⟩) ho1 (.int .i64 1)).setCell (p := ⟨o, t, none⟩) ho1 (.int .i64 (Bv.one (Bv.bt a d)))
              have hcx2 : (wr.setCell ⟨o, t, none⟩ (.int .i64 1)).cell? ⟨g, d, none⟩ = some (.int .i64 (Bv.one (Bv.bt a d))) := by
                rw [World.cell?_setCell_far _ _ _ _ (by simp; omega)]; exact hcx
              clear ho hx hB hst hst2
              have hgo1 : ¬ g = o := by omega
              have hgo2 : ¬ o = g := by omega
              go_wp2
              have hm2 := mix_step2 (fun _ => false) (Bv.mvf 13 (Bv.wn k) a true (Bv.low (Bv.wn k) b)) _ t (.int .i64 1) hlt
              rw [HE.out] at hm2
              have ho' := HO.out
              rw [hm2] at ho'
              exact ⟨⟨t + 1, by omega, by go_num, ho', HX2.out, HB.out⟩, by simp [intOf]; omega⟩
            · have eF : (Bv.mvf 13 (Bv.wn k) a true (Bv.low (Bv.wn k) b)) t = true := by unfold Bv.mvf; rw [if_pos hB1, if_pos rfl, if_neg (by omega)]
              clear hnB hB1
              have eF1 : Bv.one ((Bv.mvf 13 (Bv.wn k) a true (Bv.low (Bv.wn k) b)) t) = 1 := by rw [eF]; rfl
              have HE : Hid (Bv.one ((Bv.mvf 13 (Bv.wn k) a true (Bv.low (Bv.wn k) b)) t) = 1) := eF1
              clear eF eF1
              have hst := ho.stored t (.int .i64 1)
              have HO : Hid _ := hst.1
              have HX2 : Hid _ := hx.kept hst.2 (Or.inr (by simp [Value.ownBlock]; omega))
              have HB : Hid _ := hB.setCell (p := ⟨o, t, none⟩) ho1 (.int .i64 1)
              clear ho hx hB hst
              go_wp2
              have hm2 := mix_step (fun _ => false) (Bv.mvf 13 (Bv.wn k) a true (Bv.low (Bv.wn k) b)) _ t hlt
              rw [HE.out] at hm2
              have ho' := HO.out
              rw [hm2] at ho'
              exact ⟨⟨t + 1, by omega, by go_num, ho', HX2.out, HB.out⟩, by simp [intOf]; omega⟩
        · have et : t = Bv.wn k := by omega
          rw [et, mix_all] at ho
          clear et
          go_wp2_with fail
          refine (rfrom_any k (Bv.mvf 13 (Bv.wn k) a true (Bv.low (Bv.wn k) b)) HK.out.1 HK.out.2 o (Bv.wn k) _ ?_).mono ?_
          · intro i hi
            rw [ho.cellAt i (by omega), List.getElem?_map, Bv.lst_get _ _ _ hi]
            rfl
          rintro e w5 ⟨rfl, hw⟩
          subst hw
          go_wp2
          go_ret
          exact ⟨rfl, hB⟩

set_option maxRecDepth 100000 in
set_option maxHeartbeats 8000000 in
theorem moved13p (k a b : Int) (h1 : 1 ≤ k) (h2 : k ≤ 9) (h5 : k ≤ 5) (hk2 : 2 ≤ k) (hneg : ¬ a < 0) (w : World) :
    Calls Tryz.prog 76 #[.int .i64 13, .int .i64 k, .int .i64 a, .int .i64 b] w fun e w' => e = .returned (.int .i64 (Bv.val k (Bv.mvf 13 (Bv.wn k) a false (Bv.low (Bv.wn k) b)))) ∧ Below w.heap.size w w' := by
  obtain ⟨it, hit, hz, hsz, hby⟩ := info_parts info3
  have HK : Hid (1 ≤ k ∧ k ≤ 9) := ⟨h1, h2⟩
  have hm := wn_pos k
  have hle := Bv.wn_le k
  have hsg : decide (2 ≤ k ∧ k ≤ 5) = true := by rw [decide_eq_true_eq]; omega
  clear h5 hk2
  clear h1 h2
  go_enter Tryz.func76, Tryz.ntmps76
  go_wp2_with fail
  refine (rbits_any _ _ HK.out.1 HK.out.2 _).mono ?_
  rintro e w1 ⟨v, rfl, hx, hB⟩
  obtain ⟨g, cap, rfl, hg1, hg2, hx, _, _⟩ := row_cells hx hm
  go_wp2_with (first | (go_at_call 70; refine (rsigned_any _ _).mono ?_; rintro e w2 ⟨rfl, hw⟩; subst hw))
  refine (rbits_any _ _ HK.out.1 HK.out.2 _).mono ?_
  rintro e w2 ⟨v, rfl, hy, hB2⟩
  obtain ⟨h, cap2, rfl, hh1, hh2, hy, hyc, _⟩ := row_cells hy hm
  have hx2 := owns_below hx hB2
  have hB3 := hB.trans (hB2.mono hB.size)
  have hg3 : g < w2.heap.size := Nat.lt_of_lt_of_le hg2 hB2.size
  have HY : Hid (∀ j, j < Bv.wn k → w2.cell? ⟨h, j, none⟩ = some (.int .i64 (Bv.one (Bv.bt b j)))) := hyc
  have HW : Hid (w2.ownsRow w.heap.size 3 1 (.slice (some ⟨g, 0, none⟩) (Bv.wn k) cap) (Bv.wn k) ((Bv.lst (Bv.bt a) (Bv.wn k)).map (Value.int .i64)) ∧ Below w.heap.size w w2 ∧ g < w2.heap.size) := ⟨hx2, hB3, hg3⟩
  clear hx hB hB2 hg2 hh1 hh2 hy hyc hx2 hB3 hg3
  have HP : Hid (∀ (s nn : Nat) (fr : Bool), s < Bv.wn k → nn = min (Bv.low (Bv.wn k) b / 2 ^ (s + 1)) (Bv.wn k) → fr = decide (Bv.wn k ≤ Bv.low (Bv.wn k) b / 2 ^ (s + 1)) → _) := fun s nn fr => place_step (Bv.wn k) hm hle b s nn fr
  have H0 : Hid (0 = min (Bv.low (Bv.wn k) b / 2 ^ Bv.wn k) (Bv.wn k) ∧ false = decide (Bv.wn k ≤ Bv.low (Bv.wn k) b / 2 ^ Bv.wn k)) := by
    have hz : Bv.low (Bv.wn k) b / 2 ^ Bv.wn k = 0 := Nat.div_eq_of_lt (Bv.low_lt _ b)
    rw [hz]
    exact ⟨by omega, by symm; rw [decide_eq_false_iff_not]; omega⟩
  go_wp2
  go_loop [13, 14, 15] (fun far n i => ∃ t nn : Nat, ∃ fr : Bool, t ≤ Bv.wn k ∧ nn ≤ Bv.wn k ∧ i = .int .i64 ((t : Int) - 1) ∧ n = .int .i64 (nn : Int) ∧ far = .bool fr ∧ Hid (nn = min (Bv.low (Bv.wn k) b / 2 ^ t) (Bv.wn k) ∧ fr = decide (Bv.wn k ≤ Bv.low (Bv.wn k) b / 2 ^ t))) (fun _ _ i => (intOf i + 1).toNat)
  case atStart => exact ⟨Bv.wn k, 0, false, Nat.le_refl _, by omega, rfl, rfl, rfl, H0⟩
  case round =>
    clear H0
    obtain ⟨t, nn, fr, ht, hnn, rfl, rfl, rfl, HX⟩ := hrel
    cases t with
    | succ s =>
      have e : ((s + 1 : Nat) : Int) - 1 = (s : Int) := by omega
      rw [e]
      clear e
      have hcy := HY.out s (by omega)
      have HS : Hid _ := HP.out s nn fr (by omega) HX.out.1 HX.out.2
      clear HX HP
      cases hbit : Bv.bt b s with
      | false =>
        rw [hbit] at hcy
        have e0 : Bv.one false = 0 := rfl
        rw [e0] at hcy
        have HS2 := HS.out
        simp only [hbit, Bool.false_eq_true, if_false] at HS2
        have HT : Hid _ := HS2
        clear HS HS2 hbit e0
        by_cases hge : 2 * nn + 0 < Bv.wn k
        · go_wp2
          exact ⟨⟨s, 2 * nn, fr, by omega, by omega, rfl, by go_num, rfl, HT.out.1 hge⟩, by simp [intOf]⟩
        · go_wp2
          exact ⟨⟨s, Bv.wn k, true, by omega, by omega, rfl, rfl, rfl, HT.out.2 hge⟩, by simp [intOf]⟩
      | true =>
        rw [hbit] at hcy
        have e0 : Bv.one true = 1 := rfl
        rw [e0] at hcy
        have HS2 := HS.out
        simp only [hbit, if_true] at HS2
        have HT : Hid _ := HS2
        clear HS HS2 hbit e0
        by_cases hge : 2 * nn + 1 < Bv.wn k
        · go_wp2
          exact ⟨⟨s, 2 * nn + 1, fr, by omega, by omega, rfl, by go_num, rfl, HT.out.1 hge⟩, by simp [intOf]⟩
        · go_wp2
          exact ⟨⟨s, Bv.wn k, true, by omega, by omega, rfl, rfl, rfl, HT.out.2 hge⟩, by simp [intOf]⟩
    | zero =>
      have e : ((0 : Nat) : Int) - 1 = -1 := rfl
      rw [e]
      clear e HP HY
      go_wp2_with (first | (at_make; refine wpList_make_full _ rfl _ _ 24 rfl w.heap.size 3 it (.int .i64 0) 1 Tryz.underlying24 hit hz hsz _ _ _ _ (Bv.wn k) rfl rfl rfl rfl (by rw [hby]; omega) (by unfold maxLen; omega) (by have := HW.out.2.1.size; simp; omega) ?_; intro w3 ho hgrow))
      have hx := HW.out.1.kept hgrow (Or.inr (by simp [Value.ownBlock]))
      have hB := HW.out.2.1.grown hgrow HW.out.2.1.size (fun q hq => by cases hq)
      have hgo : g < w2.heap.size := HW.out.2.2
      have ho1 : w.heap.size ≤ w2.heap.size := HW.out.2.1.size
      rw [made_row, ← mix_zero (fun _ => false) (Bv.mvf 13 (Bv.wn k) a false (Bv.low (Bv.wn k) b))] at ho
      rw [Nat.pow_zero, Nat.div_one] at HX
      clear HW hgrow
      generalize w2.heap.size = o at *
      go_loopw [17] (fun i wr => ∃ t : Nat, t ≤ Bv.wn k ∧ i = .int .i64 t ∧ wr.ownsRow w.heap.size 3 1 (.slice (some ⟨o, 0, none⟩) (Bv.wn k) (Bv.wn k)) (Bv.wn k) ((Bv.lst (mix (fun _ => false) (Bv.mvf 13 (Bv.wn k) a false (Bv.low (Bv.wn k) b)) t) (Bv.wn k)).map (Value.int .i64)) ∧
          wr.ownsRow w.heap.size 3 1 (.slice (some ⟨g, 0, none⟩) (Bv.wn k) cap) (Bv.wn k) ((Bv.lst (Bv.bt a) (Bv.wn k)).map (Value.int .i64)) ∧ Below w.heap.size w wr) (fun i _ => Bv.wn k - (intOf i).toNat)
      case atStart => exact ⟨0, Nat.zero_le _, rfl, ho, hx, hB⟩
      case round =>
        clear ho hx hB
        obtain ⟨t, ht2, rfl, ho, hx, hB⟩ := hrel
        by_cases hlt : t < Bv.wn k
        · have hco : wr.cell? ⟨o, t, none⟩ = some (.int .i64 0) := by
            rw [ho.cellAt t (by omega), List.getElem?_map, Bv.lst_get _ _ _ hlt]
            simp [mix, Bv.one]
          have hfz := ho.frozenAt t
          cases fr with
          | true =>
            have hB1 : Bv.wn k ≤ Bv.low (Bv.wn k) b := by have := HX.out.2; simpa using this.symm
            have eF : (Bv.mvf 13 (Bv.wn k) a false (Bv.low (Bv.wn k) b)) t = false := by unfold Bv.mvf; rw [if_neg (by omega)]
            clear HX hB1
            have eF1 : Bv.one ((Bv.mvf 13 (Bv.wn k) a false (Bv.low (Bv.wn k) b)) t) = 0 := by rw [eF]; rfl
            have HE : Hid (Bv.one ((Bv.mvf 13 (Bv.wn k) a false (Bv.low (Bv.wn k) b)) t) = 0) := eF1
            clear eF eF1
            have hst := ho.stored t (.int .i64 0)
            have HO : Hid _ := hst.1
            have HX2 : Hid _ := hx.kept hst.2 (Or.inr (by simp [Value.ownBlock]; omega))
            have HB : Hid _ := hB.setCell (p := ⟨o, t, none⟩) ho1 (.int .i64 0)
            clear ho hx hB hst
            go_wp2
            have hm2 := mix_step (fun _ => false) (Bv.mvf 13 (Bv.wn k) a false (Bv.low (Bv.wn k) b)) _ t hlt
            rw [HE.out] at hm2
            have ho' := HO.out
            rw [hm2] at ho'
            exact ⟨⟨t + 1, by omega, by go_num, ho', HX2.out, HB.out⟩, by simp [intOf]; omega⟩
          | false =>
            have hB1 : Bv.low (Bv.wn k) b < Bv.wn k := by have := HX.out.2; simpa using this.symm
            have hnB : nn = Bv.low (Bv.wn k) b := by have := HX.out.1; omega
            clear HX
            by_cases hd : t + nn < Bv.wn k
            · obtain ⟨d, hdd⟩ : ∃ d, d = t + nn := ⟨_, rfl⟩
              have eF : (Bv.mvf 13 (Bv.wn k) a false (Bv.low (Bv.wn k) b)) t = Bv.bt a d := by unfold Bv.mvf; rw [if_pos hB1, if_pos rfl, if_pos (by omega), hdd, hnB]
              have efrom : (t : Int) + (nn : Int) = (d : Int) := by omega
              have hd1 : d < Bv.wn k := by omega
              clear hdd hnB hB1 hd
              have hcx : wr.cell? ⟨g, d, none⟩ = some (.int .i64 (Bv.one (Bv.bt a d))) := by
                rw [hx.cellAt d (by omega), List.getElem?_map, Bv.lst_get _ _ _ (by omega)]
                rfl
              have eF1 : Bv.one ((Bv.mvf 13 (Bv.wn k) a false (Bv.low (Bv.wn k) b)) t) = Bv.one (Bv.bt a d) := by rw [eF]
              have HE : Hid (Bv.one ((Bv.mvf 13 (Bv.wn k) a false (Bv.low (Bv.wn k) b)) t) = Bv.one (Bv.bt a d)) := eF1
              clear eF eF1
              have hst := ho.stored t (.int .i64 0)
              have hst2 := hst.1.stored t (.int .i64 (Bv.one (Bv.bt a d)))
              have HO : Hid _ := hst2.1
              have HX2 : Hid _ := (hx.kept hst.2 (Or.inr (by simp [Value.ownBlock]; omega))).kept hst2.2 (Or.inr (by simp [Value.ownBlock]; omega))
              have HB : Hid _ := (hB.setCell (p := ⟨o, t, none⟩) ho1 (.int .i64 0)).setCell (p := ⟨o, t, none⟩) ho1 (.int .i64 (Bv.one (Bv.bt a d)))
              have hcx2 : (wr.setCell ⟨o, t, none⟩ (.int .i64 0)).cell? ⟨g, d, none⟩ = some (.int .i64 (Bv.one (Bv.bt a d))) := by
                rw [World.cell?_setCell_far _ _ _ _ (by simp; omega)]; exact hcx
              clear ho hx hB hst hst2
              have hgo1 : ¬ g = o := by omega
              have hgo2 : ¬ o = g := by omega
              go_wp2
              have hm2 := mix_step2 (fun _ => false) (Bv.mvf 13 (Bv.wn k) a false (Bv.low (Bv.wn k) b)) _ t (.int .i64 0) hlt
              rw [HE.out] at hm2
              have ho' := HO.out
              rw [hm2] at ho'
              exact ⟨⟨t + 1, by omega, by go_num, ho', HX2.out, HB.out⟩, by simp [intOf]; omega⟩
            · have eF : (Bv.mvf 13 (Bv.wn k) a false (Bv.low (Bv.wn k) b)) t = false := by unfold Bv.mvf; rw [if_pos hB1, if_pos rfl, if_neg (by omega)]
              clear hnB hB1
              have eF1 : Bv.one ((Bv.mvf 13 (Bv.wn k) a false (Bv.low (Bv.wn k) b)) t) = 0 := by rw [eF]; rfl
              have HE : Hid (Bv.one ((Bv.mvf 13 (Bv.wn k) a false (Bv.low (Bv.wn k) b)) t) = 0) := eF1
              clear eF eF1
              have hst := ho.stored t (.int .i64 0)
              have HO : Hid _ := hst.1
              have HX2 : Hid _ := hx.kept hst.2 (Or.inr (by simp [Value.ownBlock]; omega))
              have HB : Hid _ := hB.setCell (p := ⟨o, t, none⟩) ho1 (.int .i64 0)
              clear ho hx hB hst
              go_wp2
              have hm2 := mix_step (fun _ => false) (Bv.mvf 13 (Bv.wn k) a false (Bv.low (Bv.wn k) b)) _ t hlt
              rw [HE.out] at hm2
              have ho' := HO.out
              rw [hm2] at ho'
              exact ⟨⟨t + 1, by omega, by go_num, ho', HX2.out, HB.out⟩, by simp [intOf]; omega⟩
        · have et : t = Bv.wn k := by omega
          rw [et, mix_all] at ho
          clear et
          go_wp2_with fail
          refine (rfrom_any k (Bv.mvf 13 (Bv.wn k) a false (Bv.low (Bv.wn k) b)) HK.out.1 HK.out.2 o (Bv.wn k) _ ?_).mono ?_
          · intro i hi
            rw [ho.cellAt i (by omega), List.getElem?_map, Bv.lst_get _ _ _ hi]
            rfl
          rintro e w5 ⟨rfl, hw⟩
          subst hw
          go_wp2
          go_ret
          exact ⟨rfl, hB⟩

set_option maxRecDepth 100000 in
set_option maxHeartbeats 8000000 in
theorem moved13u (k a b : Int) (h1 : 1 ≤ k) (h2 : k ≤ 9) (h5 : 6 ≤ k) (w : World) :
    Calls Tryz.prog 76 #[.int .i64 13, .int .i64 k, .int .i64 a, .int .i64 b] w fun e w' => e = .returned (.int .i64 (Bv.val k (Bv.mvf 13 (Bv.wn k) a false (Bv.low (Bv.wn k) b)))) ∧ Below w.heap.size w w' := by
  obtain ⟨it, hit, hz, hsz, hby⟩ := info_parts info3
  have HK : Hid (1 ≤ k ∧ k ≤ 9) := ⟨h1, h2⟩
  have hm := wn_pos k
  have hle := Bv.wn_le k
  have hsg : decide (2 ≤ k ∧ k ≤ 5) = false := by rw [decide_eq_false_iff_not]; omega
  clear h5
  clear h1 h2
  go_enter Tryz.func76, Tryz.ntmps76
  go_wp2_with fail
  refine (rbits_any _ _ HK.out.1 HK.out.2 _).mono ?_
  rintro e w1 ⟨v, rfl, hx, hB⟩
  obtain ⟨g, cap, rfl, hg1, hg2, hx, _, _⟩ := row_cells hx hm
  go_wp2_with (first | (go_at_call 70; refine (rsigned_any _ _).mono ?_; rintro e w2 ⟨rfl, hw⟩; subst hw))
  refine (rbits_any _ _ HK.out.1 HK.out.2 _).mono ?_
  rintro e w2 ⟨v, rfl, hy, hB2⟩
  obtain ⟨h, cap2, rfl, hh1, hh2, hy, hyc, _⟩ := row_cells hy hm
  have hx2 := owns_below hx hB2
  have hB3 := hB.trans (hB2.mono hB.size)
  have hg3 : g < w2.heap.size := Nat.lt_of_lt_of_le hg2 hB2.size
  have HY : Hid (∀ j, j < Bv.wn k → w2.cell? ⟨h, j, none⟩ = some (.int .i64 (Bv.one (Bv.bt b j)))) := hyc
  have HW : Hid (w2.ownsRow w.heap.size 3 1 (.slice (some ⟨g, 0, none⟩) (Bv.wn k) cap) (Bv.wn k) ((Bv.lst (Bv.bt a) (Bv.wn k)).map (Value.int .i64)) ∧ Below w.heap.size w w2 ∧ g < w2.heap.size) := ⟨hx2, hB3, hg3⟩
  clear hx hB hB2 hg2 hh1 hh2 hy hyc hx2 hB3 hg3
  have HP : Hid (∀ (s nn : Nat) (fr : Bool), s < Bv.wn k → nn = min (Bv.low (Bv.wn k) b / 2 ^ (s + 1)) (Bv.wn k) → fr = decide (Bv.wn k ≤ Bv.low (Bv.wn k) b / 2 ^ (s + 1)) → _) := fun s nn fr => place_step (Bv.wn k) hm hle b s nn fr
  have H0 : Hid (0 = min (Bv.low (Bv.wn k) b / 2 ^ Bv.wn k) (Bv.wn k) ∧ false = decide (Bv.wn k ≤ Bv.low (Bv.wn k) b / 2 ^ Bv.wn k)) := by
    have hz : Bv.low (Bv.wn k) b / 2 ^ Bv.wn k = 0 := Nat.div_eq_of_lt (Bv.low_lt _ b)
    rw [hz]
    exact ⟨by omega, by symm; rw [decide_eq_false_iff_not]; omega⟩
  go_wp2
  go_loop [13, 14, 15] (fun far n i => ∃ t nn : Nat, ∃ fr : Bool, t ≤ Bv.wn k ∧ nn ≤ Bv.wn k ∧ i = .int .i64 ((t : Int) - 1) ∧ n = .int .i64 (nn : Int) ∧ far = .bool fr ∧ Hid (nn = min (Bv.low (Bv.wn k) b / 2 ^ t) (Bv.wn k) ∧ fr = decide (Bv.wn k ≤ Bv.low (Bv.wn k) b / 2 ^ t))) (fun _ _ i => (intOf i + 1).toNat)
  case atStart => exact ⟨Bv.wn k, 0, false, Nat.le_refl _, by omega, rfl, rfl, rfl, H0⟩
  case round =>
    clear H0
    obtain ⟨t, nn, fr, ht, hnn, rfl, rfl, rfl, HX⟩ := hrel
    cases t with
    | succ s =>
      have e : ((s + 1 : Nat) : Int) - 1 = (s : Int) := by omega
      rw [e]
      clear e
      have hcy := HY.out s (by omega)
      have HS : Hid _ := HP.out s nn fr (by omega) HX.out.1 HX.out.2
      clear HX HP
      cases hbit : Bv.bt b s with
      | false =>
        rw [hbit] at hcy
        have e0 : Bv.one false = 0 := rfl
        rw [e0] at hcy
        have HS2 := HS.out
        simp only [hbit, Bool.false_eq_true, if_false] at HS2
        have HT : Hid _ := HS2
        clear HS HS2 hbit e0
        by_cases hge : 2 * nn + 0 < Bv.wn k
        · go_wp2
          exact ⟨⟨s, 2 * nn, fr, by omega, by omega, rfl, by go_num, rfl, HT.out.1 hge⟩, by simp [intOf]⟩
        · go_wp2
          exact ⟨⟨s, Bv.wn k, true, by omega, by omega, rfl, rfl, rfl, HT.out.2 hge⟩, by simp [intOf]⟩
      | true =>
        rw [hbit] at hcy
        have e0 : Bv.one true = 1 := rfl
        rw [e0] at hcy
        have HS2 := HS.out
        simp only [hbit, if_true] at HS2
        have HT : Hid _ := HS2
        clear HS HS2 hbit e0
        by_cases hge : 2 * nn + 1 < Bv.wn k
        · go_wp2
          exact ⟨⟨s, 2 * nn + 1, fr, by omega, by omega, rfl, by go_num, rfl, HT.out.1 hge⟩, by simp [intOf]⟩
        · go_wp2
          exact ⟨⟨s, Bv.wn k, true, by omega, by omega, rfl, rfl, rfl, HT.out.2 hge⟩, by simp [intOf]⟩
    | zero =>
      have e : ((0 : Nat) : Int) - 1 = -1 := rfl
      rw [e]
      clear e HP HY
      go_wp2_with (first | (at_make; refine wpList_make_full _ rfl _ _ 24 rfl w.heap.size 3 it (.int .i64 0) 1 Tryz.underlying24 hit hz hsz _ _ _ _ (Bv.wn k) rfl rfl rfl rfl (by rw [hby]; omega) (by unfold maxLen; omega) (by have := HW.out.2.1.size; simp; omega) ?_; intro w3 ho hgrow))
      have hx := HW.out.1.kept hgrow (Or.inr (by simp [Value.ownBlock]))
      have hB := HW.out.2.1.grown hgrow HW.out.2.1.size (fun q hq => by cases hq)
      have hgo : g < w2.heap.size := HW.out.2.2
      have ho1 : w.heap.size ≤ w2.heap.size := HW.out.2.1.size
      rw [made_row, ← mix_zero (fun _ => false) (Bv.mvf 13 (Bv.wn k) a false (Bv.low (Bv.wn k) b))] at ho
      rw [Nat.pow_zero, Nat.div_one] at HX
      clear HW hgrow
      generalize w2.heap.size = o at *
      go_loopw [17] (fun i wr => ∃ t : Nat, t ≤ Bv.wn k ∧ i = .int .i64 t ∧ wr.ownsRow w.heap.size 3 1 (.slice (some ⟨o, 0, none⟩) (Bv.wn k) (Bv.wn k)) (Bv.wn k) ((Bv.lst (mix (fun _ => false) (Bv.mvf 13 (Bv.wn k) a false (Bv.low (Bv.wn k) b)) t) (Bv.wn k)).map (Value.int .i64)) ∧
          wr.ownsRow w.heap.size 3 1 (.slice (some ⟨g, 0, none⟩) (Bv.wn k) cap) (Bv.wn k) ((Bv.lst (Bv.bt a) (Bv.wn k)).map (Value.int .i64)) ∧ Below w.heap.size w wr) (fun i _ => Bv.wn k - (intOf i).toNat)
      case atStart => exact ⟨0, Nat.zero_le _, rfl, ho, hx, hB⟩
      case round =>
        clear ho hx hB
        obtain ⟨t, ht2, rfl, ho, hx, hB⟩ := hrel
        by_cases hlt : t < Bv.wn k
        · have hco : wr.cell? ⟨o, t, none⟩ = some (.int .i64 0) := by
            rw [ho.cellAt t (by omega), List.getElem?_map, Bv.lst_get _ _ _ hlt]
            simp [mix, Bv.one]
          have hfz := ho.frozenAt t
          cases fr with
          | true =>
            have hB1 : Bv.wn k ≤ Bv.low (Bv.wn k) b := by have := HX.out.2; simpa using this.symm
            have eF : (Bv.mvf 13 (Bv.wn k) a false (Bv.low (Bv.wn k) b)) t = false := by unfold Bv.mvf; rw [if_neg (by omega)]
            clear HX hB1
            have eF1 : Bv.one ((Bv.mvf 13 (Bv.wn k) a false (Bv.low (Bv.wn k) b)) t) = 0 := by rw [eF]; rfl
            have HE : Hid (Bv.one ((Bv.mvf 13 (Bv.wn k) a false (Bv.low (Bv.wn k) b)) t) = 0) := eF1
            clear eF eF1
            have hst := ho.stored t (.int .i64 0)
            have HO : Hid _ := hst.1
            have HX2 : Hid _ := hx.kept hst.2 (Or.inr (by simp [Value.ownBlock]; omega))
            have HB : Hid _ := hB.setCell (p := ⟨o, t, none⟩) ho1 (.int .i64 0)
            clear ho hx hB hst
            go_wp2
            have hm2 := mix_step (fun _ => false) (Bv.mvf 13 (Bv.wn k) a false (Bv.low (Bv.wn k) b)) _ t hlt
            rw [HE.out] at hm2
            have ho' := HO.out
            rw [hm2] at ho'
            exact ⟨⟨t + 1, by omega, by go_num, ho', HX2.out, HB.out⟩, by simp [intOf]; omega⟩
          | false =>
            have hB1 : Bv.low (Bv.wn k) b < Bv.wn k := by have := HX.out.2; simpa using this.symm
            have hnB : nn = Bv.low (Bv.wn k) b := by have := HX.out.1; omega
            clear HX
            by_cases hd : t + nn < Bv.wn k
            · obtain ⟨d, hdd⟩ : ∃ d, d = t + nn := ⟨_, rfl⟩
              have eF : (Bv.mvf 13 (Bv.wn k) a false (Bv.low (Bv.wn k) b)) t = Bv.bt a d := by unfold Bv.mvf; rw [if_pos hB1, if_pos rfl, if_pos (by omega), hdd, hnB]
              have efrom : (t : Int) + (nn : Int) = (d : Int) := by omega
              have hd1 : d < Bv.wn k := by omega
              clear hdd hnB hB1 hd
              have hcx : wr.cell? ⟨g, d, none⟩ = some (.int .i64 (Bv.one (Bv.bt a d))) := by
                rw [hx.cellAt d (by omega), List.getElem?_map, Bv.lst_get _ _ _ (by omega)]
                rfl
              have eF1 : Bv.one ((Bv.mvf 13 (Bv.wn k) a false (Bv.low (Bv.wn k) b)) t) = Bv.one (Bv.bt a d) := by rw [eF]
              have HE : Hid (Bv.one ((Bv.mvf 13 (Bv.wn k) a false (Bv.low (Bv.wn k) b)) t) = Bv.one (Bv.bt a d)) := eF1
              clear eF eF1
              have hst := ho.stored t (.int .i64 0)
              have hst2 := hst.1.stored t (.int .i64 (Bv.one (Bv.bt a d)))
              have HO : Hid _ := hst2.1
              have HX2 : Hid _ := (hx.kept hst.2 (Or.inr (by simp [Value.ownBlock]; omega))).kept hst2.2 (Or.inr (by simp [Value.ownBlock]; omega))
              have HB : Hid _ := (hB.setCell (p := ⟨o, t, none⟩) ho1 (.int .i64 0)).setCell (p := ⟨o, t, none⟩) ho1 (.int .i64 (Bv.one (Bv.bt a d)))
              have hcx2 : (wr.setCell ⟨o, t, none⟩ (.int .i64 0)).cell? ⟨g, d, none⟩ = some (.int .i64 (Bv.one (Bv.bt a d))) := by
                rw [World.cell?_setCell_far _ _ _ _ (by simp; omega)]; exact hcx
              clear ho hx hB hst hst2
              have hgo1 : ¬ g = o := by omega
              have hgo2 : ¬ o = g := by omega
              go_wp2
              have hm2 := mix_step2 (fun _ => false) (Bv.mvf 13 (Bv.wn k) a false (Bv.low (Bv.wn k) b)) _ t (.int .i64 0) hlt
              rw [HE.out] at hm2
              have ho' := HO.out
              rw [hm2] at ho'
              exact ⟨⟨t + 1, by omega, by go_num, ho', HX2.out, HB.out⟩, by simp [intOf]; omega⟩
            · have eF : (Bv.mvf 13 (Bv.wn k) a false (Bv.low (Bv.wn k) b)) t = false := by unfold Bv.mvf; rw [if_pos hB1, if_pos rfl, if_neg (by omega)]
              clear hnB hB1
              have eF1 : Bv.one ((Bv.mvf 13 (Bv.wn k) a false (Bv.low (Bv.wn k) b)) t) = 0 := by rw [eF]; rfl
              have HE : Hid (Bv.one ((Bv.mvf 13 (Bv.wn k) a false (Bv.low (Bv.wn k) b)) t) = 0) := eF1
              clear eF eF1
              have hst := ho.stored t (.int .i64 0)
              have HO : Hid _ := hst.1
              have HX2 : Hid _ := hx.kept hst.2 (Or.inr (by simp [Value.ownBlock]; omega))
              have HB : Hid _ := hB.setCell (p := ⟨o, t, none⟩) ho1 (.int .i64 0)
              clear ho hx hB hst
              go_wp2
              have hm2 := mix_step (fun _ => false) (Bv.mvf 13 (Bv.wn k) a false (Bv.low (Bv.wn k) b)) _ t hlt
              rw [HE.out] at hm2
              have ho' := HO.out
              rw [hm2] at ho'
              exact ⟨⟨t + 1, by omega, by go_num, ho', HX2.out, HB.out⟩, by simp [intOf]; omega⟩
        · have et : t = Bv.wn k := by omega
          rw [et, mix_all] at ho
          clear et
          go_wp2_with fail
          refine (rfrom_any k (Bv.mvf 13 (Bv.wn k) a false (Bv.low (Bv.wn k) b)) HK.out.1 HK.out.2 o (Bv.wn k) _ ?_).mono ?_
          · intro i hi
            rw [ho.cellAt i (by omega), List.getElem?_map, Bv.lst_get _ _ _ hi]
            rfl
          rintro e w5 ⟨rfl, hw⟩
          subst hw
          go_wp2
          go_ret
          exact ⟨rfl, hB⟩
end Go.Proofs.YtfbhflpjhbemlaaGreat

/- The walk of the document's own Bin: it answers as bv.Bin's plain definition says, whatever the operation, the kind and the two numbers of 64 bits. -/
namespace Go.Proofs.YtfbhflpjhbemlaaGreat
open Go.RowKit

theorem and_val {k a b : Int} (h1 : 1 ≤ k) (h2 : k ≤ 9) (ha : Bv.Val k a) (hb : Bv.Val k b) : Bv.val k (fun i => Bv.bt a i && Bv.bt b i) = Bv.binN 8 k a b := by
  obtain ⟨v, l⟩ := Bv.nAnd h1 h2 ha hb
  refine Bv.val_eq h1 h2 v fun i hi => ?_
  rw [l, Nat.testBit_and, Bv.low_bit _ (Bv.wn_le k), Bv.low_bit _ (Bv.wn_le k)]
  simp [hi]
theorem or_val {k a b : Int} (h1 : 1 ≤ k) (h2 : k ≤ 9) (ha : Bv.Val k a) (hb : Bv.Val k b) : Bv.val k (fun i => Bv.bt a i || Bv.bt b i) = Bv.binN 9 k a b := by
  obtain ⟨v, l⟩ := Bv.nOr h1 h2 ha hb
  refine Bv.val_eq h1 h2 v fun i hi => ?_
  rw [l, Nat.testBit_or, Bv.low_bit _ (Bv.wn_le k), Bv.low_bit _ (Bv.wn_le k)]
  simp [hi]
theorem xor_val {k a b : Int} (h1 : 1 ≤ k) (h2 : k ≤ 9) (ha : Bv.Val k a) (hb : Bv.Val k b) : Bv.val k (fun i => Bv.bt a i != Bv.bt b i) = Bv.binN 10 k a b := by
  obtain ⟨v, l⟩ := Bv.nXor h1 h2 ha hb
  refine Bv.val_eq h1 h2 v fun i hi => ?_
  rw [l, Nat.testBit_xor, Bv.low_bit _ (Bv.wn_le k), Bv.low_bit _ (Bv.wn_le k)]
  simp [hi]

theorem nonneg_u {k a : Int} (h6 : 6 ≤ k) (h8 : k ≤ 8) (ha : Bv.Val k a) : 0 ≤ a ∧ Bv.U a = a := by
  obtain ⟨h, i⟩ := ha
  unfold Bv.I64 at i
  rw [Bv.U_eq]
  have hc : k = 6 ∨ k = 7 ∨ k = 8 := by omega
  rcases hc with rfl | rfl | rfl
  · rw [Bv.wrp6] at h; omega
  · rw [Bv.wrp7] at h; omega
  · rw [Bv.wrp8] at h; omega

theorem below_val (k a b : Int) (h9 : k ≤ 9) (ha : Bv.Val k a) (hb : Bv.Val k b) (w : World) :
    Calls Tryz.prog 77 #[.int .i64 k, .int .i64 a, .int .i64 b] w fun e w' => e = .returned (.bool (Bv.lss k a b)) ∧ w' = w := by
  by_cases h : k = 9
  · subst h; exact below9_any a b ha.2 hb.2 w
  · exact below_any k a b (by omega) (fun h6 => ⟨(nonneg_u h6 (by omega) ha).1, (nonneg_u h6 (by omega) hb).1⟩) ha.2 hb.2 w

theorem div_rest {k a b : Int} (h1 : 2 ≤ k) (h8 : k ≤ 8) (ha : Bv.Val k a) (hb : Bv.Val k b) (h0 : ¬ b = 0) :
    Bv.binN 6 k a b = Bv.wrp k (wrap64 (a.tdiv b)) ∧ Bv.binN 7 k a b = Bv.wrp k (a.tmod b) := by
  rw [Bv.nDiv h1 (by omega) ha hb, Bv.nMod h1 (by omega) ha hb]
  by_cases h6 : 6 ≤ k
  · obtain ⟨d1, d2, _, _, _⟩ := Bv.div_u h6 (by omega) ha hb h0
    obtain ⟨a0, ua⟩ := nonneg_u h6 h8 ha
    obtain ⟨b0, ub⟩ := nonneg_u h6 h8 hb
    rw [d1, d2, ua, ub, Int.tdiv_eq_ediv_of_nonneg a0, Int.tmod_eq_emod_of_nonneg a0]
    refine ⟨rfl, ?_⟩
    have m1 := Int.emod_nonneg a h0
    have m2 := Int.emod_lt_of_pos a (b := b) (by omega)
    have ib := hb.2
    exact Bv.W_wrp k _ (by unfold Bv.I64 at *; omega)
  · have e1 : Bv.vdiv k a b = wrap64 (a.tdiv b) := by simp [Bv.vdiv, h0, h6]
    have e2 : Bv.vmod k a b = a.tmod b := by simp [Bv.vmod, h0, h6]
    rw [e1, e2]
    exact ⟨rfl, rfl⟩

theorem div_m1 {k a : Int} (h1 : 2 ≤ k) (h8 : k ≤ 8) (ha : Bv.Val k a) (hb : Bv.Val k (-1)) :
    Bv.binN 6 k a (-1) = Bv.wrp k (wrap64 (-a)) ∧ Bv.binN 7 k a (-1) = Bv.wrp k 0 := by
  obtain ⟨e1, e2⟩ := div_rest h1 h8 ha hb (by decide)
  rw [e1, e2]
  have t1 : a.tdiv (-1) = -a := by rw [Int.tdiv_neg, Int.tdiv_one]
  have t2 : a.tmod (-1) = 0 := by rw [Int.tmod_neg, Int.tmod_one]
  rw [t1, t2]
  exact ⟨rfl, rfl⟩

theorem div_9 {a b : Int} (ha : Bv.Val 9 a) (hb : Bv.Val 9 b) (h0 : ¬ b = 0) :
    Bv.binN 6 9 a b = Bv.wrp 9 (wrap64 ((Bv.low 64 a / Bv.low 64 b : Nat) : Int)) ∧ Bv.binN 7 9 a b = Bv.wrp 9 (wrap64 ((Bv.low 64 a % Bv.low 64 b : Nat) : Int)) ∧ 0 < Bv.low 64 b := by
  rw [Bv.nDiv (by decide) (by decide) ha hb, Bv.nMod (by decide) (by decide) ha hb]
  obtain ⟨d1, d2, d3, _, _⟩ := Bv.div_u (by decide) (by decide) ha hb h0
  rw [Bv.U_low] at d3
  rw [d1, d2, Bv.U_low, Bv.U_low]
  refine ⟨?_, ?_, by omega⟩
  · rw [← Int.natCast_ediv]; rfl
  · rw [← Int.natCast_emod]; rfl

set_option maxRecDepth 100000 in
set_option maxHeartbeats 2000000 in
theorem rb3 (k a b : Int) (h1 : 2 ≤ k) (h2 : k ≤ 9) (va : Bv.Val k a) (vb : Bv.Val k b) (w : World) :
    Calls Tryz.prog 58 #[.int .i64 3, .int .i64 k, .int .i64 a, .int .i64 b] w fun e w' => e = .returned (.tuple #[.int .i64 (Bv.binN 3 k a b), .int .i64 (Bv.binK 3 k a b), .bool (Bv.binB 3 k a b)]) ∧ Below w.heap.size w w' := by
  have ia := Bv.isv_val (by omega) h2 va
  have ib := Bv.isv_val (by omega) h2 vb
  obtain ⟨eB, eK, _⟩ := Bv.bin_num 3 k a b h1 h2 (by omega) (by omega) (by omega) va vb
  have eK2 : Bv.toK 3 k = k := Bv.toK_small _ _ (by omega)
  have eN : Bv.binN 3 k a b = Bv.wrp k (wrap64 (a + b)) := Bv.nAdd h1 h2 va vb
  rw [eB, eK, eK2, eN]
  have HK : Hid (1 ≤ k ∧ k ≤ 9) := ⟨by omega, h2⟩
  have hk1 : (k == 1) = false := by rw [beq_eq_false_iff_ne]; omega
  clear eB eK eK2 eN h1 h2
  go_enter Tryz.func58, Tryz.ntmps58
  go_wp2_with (first | (go_at_call 41; refine (ris_any _ _ _).mono ?_; rintro e w' ⟨rfl, hw⟩; subst hw) | (go_at_call 56; refine (rwrap_any _ _ _).mono ?_; rintro e w' ⟨rfl, hw⟩; subst hw))
  go_ret3
  exact ⟨rfl, Below.refl _ _⟩

set_option maxRecDepth 100000 in
set_option maxHeartbeats 2000000 in
theorem rb4 (k a b : Int) (h1 : 2 ≤ k) (h2 : k ≤ 9) (va : Bv.Val k a) (vb : Bv.Val k b) (w : World) :
    Calls Tryz.prog 58 #[.int .i64 4, .int .i64 k, .int .i64 a, .int .i64 b] w fun e w' => e = .returned (.tuple #[.int .i64 (Bv.binN 4 k a b), .int .i64 (Bv.binK 4 k a b), .bool (Bv.binB 4 k a b)]) ∧ Below w.heap.size w w' := by
  have ia := Bv.isv_val (by omega) h2 va
  have ib := Bv.isv_val (by omega) h2 vb
  obtain ⟨eB, eK, _⟩ := Bv.bin_num 4 k a b h1 h2 (by omega) (by omega) (by omega) va vb
  have eK2 : Bv.toK 4 k = k := Bv.toK_small _ _ (by omega)
  have eN : Bv.binN 4 k a b = Bv.wrp k (wrap64 (a - b)) := Bv.nSub h1 h2 va vb
  rw [eB, eK, eK2, eN]
  have HK : Hid (1 ≤ k ∧ k ≤ 9) := ⟨by omega, h2⟩
  have hk1 : (k == 1) = false := by rw [beq_eq_false_iff_ne]; omega
  clear eB eK eK2 eN h1 h2
  go_enter Tryz.func58, Tryz.ntmps58
  go_wp2_with (first | (go_at_call 41; refine (ris_any _ _ _).mono ?_; rintro e w' ⟨rfl, hw⟩; subst hw) | (go_at_call 56; refine (rwrap_any _ _ _).mono ?_; rintro e w' ⟨rfl, hw⟩; subst hw))
  go_ret3
  exact ⟨rfl, Below.refl _ _⟩

set_option maxRecDepth 100000 in
set_option maxHeartbeats 2000000 in
theorem rb5 (k a b : Int) (h1 : 2 ≤ k) (h2 : k ≤ 9) (va : Bv.Val k a) (vb : Bv.Val k b) (w : World) :
    Calls Tryz.prog 58 #[.int .i64 5, .int .i64 k, .int .i64 a, .int .i64 b] w fun e w' => e = .returned (.tuple #[.int .i64 (Bv.binN 5 k a b), .int .i64 (Bv.binK 5 k a b), .bool (Bv.binB 5 k a b)]) ∧ Below w.heap.size w w' := by
  have ia := Bv.isv_val (by omega) h2 va
  have ib := Bv.isv_val (by omega) h2 vb
  obtain ⟨eB, eK, _⟩ := Bv.bin_num 5 k a b h1 h2 (by omega) (by omega) (by omega) va vb
  have eK2 : Bv.toK 5 k = k := Bv.toK_small _ _ (by omega)
  have eN : Bv.binN 5 k a b = Bv.wrp k (wrap64 (a * b)) := Bv.nMul h1 h2 va vb
  rw [eB, eK, eK2, eN]
  have HK : Hid (1 ≤ k ∧ k ≤ 9) := ⟨by omega, h2⟩
  have hk1 : (k == 1) = false := by rw [beq_eq_false_iff_ne]; omega
  clear eB eK eK2 eN h1 h2
  go_enter Tryz.func58, Tryz.ntmps58
  go_wp2_with (first | (go_at_call 41; refine (ris_any _ _ _).mono ?_; rintro e w' ⟨rfl, hw⟩; subst hw) | (go_at_call 56; refine (rwrap_any _ _ _).mono ?_; rintro e w' ⟨rfl, hw⟩; subst hw))
  go_ret3
  exact ⟨rfl, Below.refl _ _⟩

set_option maxRecDepth 100000 in
set_option maxHeartbeats 2000000 in
theorem rb6z (k a b : Int) (h1 : 2 ≤ k) (h2 : k ≤ 9) (va : Bv.Val k a) (vb : Bv.Val k b) (h0 : b = 0) (w : World) :
    Calls Tryz.prog 58 #[.int .i64 6, .int .i64 k, .int .i64 a, .int .i64 b] w fun e w' => e = .returned (.tuple #[.int .i64 (Bv.binN 6 k a b), .int .i64 (Bv.binK 6 k a b), .bool (Bv.binB 6 k a b)]) ∧ Below w.heap.size w w' := by
  have ia := Bv.isv_val (by omega) h2 va
  have ib := Bv.isv_val (by omega) h2 vb
  obtain ⟨eB, eK, _⟩ := Bv.bin_num 6 k a b h1 h2 (by omega) (by omega) (by omega) va vb
  have eK2 : Bv.toK 6 k = k := Bv.toK_small _ _ (by omega)
  have hb0 : (b == 0) = true := by rw [h0]; rfl
  have eN : Bv.binN 6 k a b = Bv.wrp k 0 := by subst h0; rw [(Bv.div_zero k a h1 h2 va vb).1, (Bv.val_zero k (by omega) h2).1]
  rw [eB, eK, eK2, eN]
  have HK : Hid (1 ≤ k ∧ k ≤ 9) := ⟨by omega, h2⟩
  have hk1 : (k == 1) = false := by rw [beq_eq_false_iff_ne]; omega
  clear eB eK eK2 eN h1 h2 h0
  go_enter Tryz.func58, Tryz.ntmps58
  go_wp2_with (first | (go_at_call 41; refine (ris_any _ _ _).mono ?_; rintro e w' ⟨rfl, hw⟩; subst hw) | (go_at_call 56; refine (rwrap_any _ _ _).mono ?_; rintro e w' ⟨rfl, hw⟩; subst hw))
  go_ret3
  exact ⟨rfl, Below.refl _ _⟩

set_option maxRecDepth 100000 in
set_option maxHeartbeats 2000000 in
theorem rb6m (k a b : Int) (h1 : 2 ≤ k) (h2 : k ≤ 9) (va : Bv.Val k a) (vb : Bv.Val k b) (hb : b = -1) (h8 : k ≤ 8) (w : World) :
    Calls Tryz.prog 58 #[.int .i64 6, .int .i64 k, .int .i64 a, .int .i64 b] w fun e w' => e = .returned (.tuple #[.int .i64 (Bv.binN 6 k a b), .int .i64 (Bv.binK 6 k a b), .bool (Bv.binB 6 k a b)]) ∧ Below w.heap.size w w' := by
  have ia := Bv.isv_val (by omega) h2 va
  have ib := Bv.isv_val (by omega) h2 vb
  obtain ⟨eB, eK, _⟩ := Bv.bin_num 6 k a b h1 h2 (by omega) (by omega) (by omega) va vb
  have eK2 : Bv.toK 6 k = k := Bv.toK_small _ _ (by omega)
  have hb0 : (b == 0) = false := by rw [hb]; rfl
  have hb1 : (b == -1) = true := by rw [hb]; rfl
  have hk9 : (k == 9) = false := by rw [beq_eq_false_iff_ne]; omega
  have eN : Bv.binN 6 k a b = Bv.wrp k (wrap64 (-a)) := by subst hb; exact (div_m1 h1 h8 va vb).1
  rw [eB, eK, eK2, eN]
  have HK : Hid (1 ≤ k ∧ k ≤ 9) := ⟨by omega, h2⟩
  have hk1 : (k == 1) = false := by rw [beq_eq_false_iff_ne]; omega
  clear eB eK eK2 eN h1 h2 hb
  go_enter Tryz.func58, Tryz.ntmps58
  go_wp2_with (first | (go_at_call 41; refine (ris_any _ _ _).mono ?_; rintro e w' ⟨rfl, hw⟩; subst hw) | (go_at_call 56; refine (rwrap_any _ _ _).mono ?_; rintro e w' ⟨rfl, hw⟩; subst hw))
  go_ret3
  exact ⟨rfl, Below.refl _ _⟩

set_option maxRecDepth 100000 in
set_option maxHeartbeats 2000000 in
theorem rb6d (k a b : Int) (h1 : 2 ≤ k) (h2 : k ≤ 9) (va : Bv.Val k a) (vb : Bv.Val k b) (h0 : ¬ b = 0) (hb : ¬ b = -1) (h8 : k ≤ 8) (w : World) :
    Calls Tryz.prog 58 #[.int .i64 6, .int .i64 k, .int .i64 a, .int .i64 b] w fun e w' => e = .returned (.tuple #[.int .i64 (Bv.binN 6 k a b), .int .i64 (Bv.binK 6 k a b), .bool (Bv.binB 6 k a b)]) ∧ Below w.heap.size w w' := by
  have ia := Bv.isv_val (by omega) h2 va
  have ib := Bv.isv_val (by omega) h2 vb
  obtain ⟨eB, eK, _⟩ := Bv.bin_num 6 k a b h1 h2 (by omega) (by omega) (by omega) va vb
  have eK2 : Bv.toK 6 k = k := Bv.toK_small _ _ (by omega)
  have hk9 : (k == 9) = false := by rw [beq_eq_false_iff_ne]; omega
  have hb0 : (b == 0) = false := by rw [beq_eq_false_iff_ne]; omega
  have hb1 : (b == -1) = false := by rw [beq_eq_false_iff_ne]; omega
  have eN : Bv.binN 6 k a b = Bv.wrp k (wrap64 (a.tdiv b)) := (div_rest h1 h8 va vb h0).1
  rw [eB, eK, eK2, eN]
  have HK : Hid (1 ≤ k ∧ k ≤ 9) := ⟨by omega, h2⟩
  have hk1 : (k == 1) = false := by rw [beq_eq_false_iff_ne]; omega
  clear eB eK eK2 eN h1 h2
  go_enter Tryz.func58, Tryz.ntmps58
  go_wp2_with (first | (go_at_call 41; refine (ris_any _ _ _).mono ?_; rintro e w' ⟨rfl, hw⟩; subst hw) | (go_at_call 56; refine (rwrap_any _ _ _).mono ?_; rintro e w' ⟨rfl, hw⟩; subst hw))
  go_ret3
  exact ⟨rfl, Below.refl _ _⟩

set_option maxRecDepth 100000 in
set_option maxHeartbeats 2000000 in
theorem rb6u (k a b : Int) (h1 : 2 ≤ k) (h2 : k ≤ 9) (va : Bv.Val k a) (vb : Bv.Val k b) (h0 : ¬ b = 0) (h9 : k = 9) (w : World) :
    Calls Tryz.prog 58 #[.int .i64 6, .int .i64 k, .int .i64 a, .int .i64 b] w fun e w' => e = .returned (.tuple #[.int .i64 (Bv.binN 6 k a b), .int .i64 (Bv.binK 6 k a b), .bool (Bv.binB 6 k a b)]) ∧ Below w.heap.size w w' := by
  have ia := Bv.isv_val (by omega) h2 va
  have ib := Bv.isv_val (by omega) h2 vb
  obtain ⟨eB, eK, _⟩ := Bv.bin_num 6 k a b h1 h2 (by omega) (by omega) (by omega) va vb
  have eK2 : Bv.toK 6 k = k := Bv.toK_small _ _ (by omega)
  have hb0 : (b == 0) = false := by rw [beq_eq_false_iff_ne]; omega
  have hlow : 0 < Bv.low 64 b := by subst h9; exact (div_9 va vb h0).2.2
  have i64b := vb.2
  have hk9 : (k == 9) = true := by rw [beq_iff_eq]; exact h9
  have eN : Bv.binN 6 k a b = Bv.wrp k (wrap64 ((Bv.low 64 a / Bv.low 64 b : Nat) : Int)) := by subst h9; exact (div_9 va vb h0).1
  rw [eB, eK, eK2, eN]
  have HK : Hid (1 ≤ k ∧ k ≤ 9) := ⟨by omega, h2⟩
  have hk1 : (k == 1) = false := by rw [beq_eq_false_iff_ne]; omega
  clear eB eK eK2 eN h1 h2 h9
  go_enter Tryz.func58, Tryz.ntmps58
  go_wp2_with (first | (go_at_call 41; refine (ris_any _ _ _).mono ?_; rintro e w' ⟨rfl, hw⟩; subst hw) | (go_at_call 56; refine (rwrap_any _ _ _).mono ?_; rintro e w' ⟨rfl, hw⟩; subst hw) | (go_at_call 75; refine (divide_any _ _ (by assumption) (by assumption) _).mono ?_; rintro e w' ⟨rfl, hw⟩; subst hw))
  go_ret3
  exact ⟨rfl, Below.refl _ _⟩

set_option maxRecDepth 100000 in
set_option maxHeartbeats 2000000 in
theorem rb7z (k a b : Int) (h1 : 2 ≤ k) (h2 : k ≤ 9) (va : Bv.Val k a) (vb : Bv.Val k b) (h0 : b = 0) (w : World) :
    Calls Tryz.prog 58 #[.int .i64 7, .int .i64 k, .int .i64 a, .int .i64 b] w fun e w' => e = .returned (.tuple #[.int .i64 (Bv.binN 7 k a b), .int .i64 (Bv.binK 7 k a b), .bool (Bv.binB 7 k a b)]) ∧ Below w.heap.size w w' := by
  have ia := Bv.isv_val (by omega) h2 va
  have ib := Bv.isv_val (by omega) h2 vb
  obtain ⟨eB, eK, _⟩ := Bv.bin_num 7 k a b h1 h2 (by omega) (by omega) (by omega) va vb
  have eK2 : Bv.toK 7 k = k := Bv.toK_small _ _ (by omega)
  have hb0 : (b == 0) = true := by rw [h0]; rfl
  have eN : Bv.binN 7 k a b = Bv.wrp k 0 := by subst h0; rw [(Bv.div_zero k a h1 h2 va vb).2, (Bv.val_zero k (by omega) h2).1]
  rw [eB, eK, eK2, eN]
  have HK : Hid (1 ≤ k ∧ k ≤ 9) := ⟨by omega, h2⟩
  have hk1 : (k == 1) = false := by rw [beq_eq_false_iff_ne]; omega
  clear eB eK eK2 eN h1 h2 h0
  go_enter Tryz.func58, Tryz.ntmps58
  go_wp2_with (first | (go_at_call 41; refine (ris_any _ _ _).mono ?_; rintro e w' ⟨rfl, hw⟩; subst hw) | (go_at_call 56; refine (rwrap_any _ _ _).mono ?_; rintro e w' ⟨rfl, hw⟩; subst hw))
  go_ret3
  exact ⟨rfl, Below.refl _ _⟩

set_option maxRecDepth 100000 in
set_option maxHeartbeats 2000000 in
theorem rb7m (k a b : Int) (h1 : 2 ≤ k) (h2 : k ≤ 9) (va : Bv.Val k a) (vb : Bv.Val k b) (hb : b = -1) (h8 : k ≤ 8) (w : World) :
    Calls Tryz.prog 58 #[.int .i64 7, .int .i64 k, .int .i64 a, .int .i64 b] w fun e w' => e = .returned (.tuple #[.int .i64 (Bv.binN 7 k a b), .int .i64 (Bv.binK 7 k a b), .bool (Bv.binB 7 k a b)]) ∧ Below w.heap.size w w' := by
  have ia := Bv.isv_val (by omega) h2 va
  have ib := Bv.isv_val (by omega) h2 vb
  obtain ⟨eB, eK, _⟩ := Bv.bin_num 7 k a b h1 h2 (by omega) (by omega) (by omega) va vb
  have eK2 : Bv.toK 7 k = k := Bv.toK_small _ _ (by omega)
  have hb0 : (b == 0) = false := by rw [hb]; rfl
  have hb1 : (b == -1) = true := by rw [hb]; rfl
  have hk9 : (k == 9) = false := by rw [beq_eq_false_iff_ne]; omega
  have eN : Bv.binN 7 k a b = Bv.wrp k 0 := by subst hb; exact (div_m1 h1 h8 va vb).2
  rw [eB, eK, eK2, eN]
  have HK : Hid (1 ≤ k ∧ k ≤ 9) := ⟨by omega, h2⟩
  have hk1 : (k == 1) = false := by rw [beq_eq_false_iff_ne]; omega
  clear eB eK eK2 eN h1 h2 hb
  go_enter Tryz.func58, Tryz.ntmps58
  go_wp2_with (first | (go_at_call 41; refine (ris_any _ _ _).mono ?_; rintro e w' ⟨rfl, hw⟩; subst hw) | (go_at_call 56; refine (rwrap_any _ _ _).mono ?_; rintro e w' ⟨rfl, hw⟩; subst hw))
  go_ret3
  exact ⟨rfl, Below.refl _ _⟩

set_option maxRecDepth 100000 in
set_option maxHeartbeats 2000000 in
theorem rb7d (k a b : Int) (h1 : 2 ≤ k) (h2 : k ≤ 9) (va : Bv.Val k a) (vb : Bv.Val k b) (h0 : ¬ b = 0) (hb : ¬ b = -1) (h8 : k ≤ 8) (w : World) :
    Calls Tryz.prog 58 #[.int .i64 7, .int .i64 k, .int .i64 a, .int .i64 b] w fun e w' => e = .returned (.tuple #[.int .i64 (Bv.binN 7 k a b), .int .i64 (Bv.binK 7 k a b), .bool (Bv.binB 7 k a b)]) ∧ Below w.heap.size w w' := by
  have ia := Bv.isv_val (by omega) h2 va
  have ib := Bv.isv_val (by omega) h2 vb
  obtain ⟨eB, eK, _⟩ := Bv.bin_num 7 k a b h1 h2 (by omega) (by omega) (by omega) va vb
  have eK2 : Bv.toK 7 k = k := Bv.toK_small _ _ (by omega)
  have hk9 : (k == 9) = false := by rw [beq_eq_false_iff_ne]; omega
  have hb0 : (b == 0) = false := by rw [beq_eq_false_iff_ne]; omega
  have hb1 : (b == -1) = false := by rw [beq_eq_false_iff_ne]; omega
  have eN : Bv.binN 7 k a b = Bv.wrp k (a.tmod b) := (div_rest h1 h8 va vb h0).2
  rw [eB, eK, eK2, eN]
  have HK : Hid (1 ≤ k ∧ k ≤ 9) := ⟨by omega, h2⟩
  have hk1 : (k == 1) = false := by rw [beq_eq_false_iff_ne]; omega
  clear eB eK eK2 eN h1 h2
  go_enter Tryz.func58, Tryz.ntmps58
  go_wp2_with (first | (go_at_call 41; refine (ris_any _ _ _).mono ?_; rintro e w' ⟨rfl, hw⟩; subst hw) | (go_at_call 56; refine (rwrap_any _ _ _).mono ?_; rintro e w' ⟨rfl, hw⟩; subst hw))
  go_ret3
  exact ⟨rfl, Below.refl _ _⟩

set_option maxRecDepth 100000 in
set_option maxHeartbeats 2000000 in
theorem rb7u (k a b : Int) (h1 : 2 ≤ k) (h2 : k ≤ 9) (va : Bv.Val k a) (vb : Bv.Val k b) (h0 : ¬ b = 0) (h9 : k = 9) (w : World) :
    Calls Tryz.prog 58 #[.int .i64 7, .int .i64 k, .int .i64 a, .int .i64 b] w fun e w' => e = .returned (.tuple #[.int .i64 (Bv.binN 7 k a b), .int .i64 (Bv.binK 7 k a b), .bool (Bv.binB 7 k a b)]) ∧ Below w.heap.size w w' := by
  have ia := Bv.isv_val (by omega) h2 va
  have ib := Bv.isv_val (by omega) h2 vb
  obtain ⟨eB, eK, _⟩ := Bv.bin_num 7 k a b h1 h2 (by omega) (by omega) (by omega) va vb
  have eK2 : Bv.toK 7 k = k := Bv.toK_small _ _ (by omega)
  have hb0 : (b == 0) = false := by rw [beq_eq_false_iff_ne]; omega
  have hlow : 0 < Bv.low 64 b := by subst h9; exact (div_9 va vb h0).2.2
  have i64b := vb.2
  have hk9 : (k == 9) = true := by rw [beq_iff_eq]; exact h9
  have eN : Bv.binN 7 k a b = Bv.wrp k (wrap64 ((Bv.low 64 a % Bv.low 64 b : Nat) : Int)) := by subst h9; exact (div_9 va vb h0).2.1
  rw [eB, eK, eK2, eN]
  have HK : Hid (1 ≤ k ∧ k ≤ 9) := ⟨by omega, h2⟩
  have hk1 : (k == 1) = false := by rw [beq_eq_false_iff_ne]; omega
  clear eB eK eK2 eN h1 h2 h9
  go_enter Tryz.func58, Tryz.ntmps58
  go_wp2_with (first | (go_at_call 41; refine (ris_any _ _ _).mono ?_; rintro e w' ⟨rfl, hw⟩; subst hw) | (go_at_call 56; refine (rwrap_any _ _ _).mono ?_; rintro e w' ⟨rfl, hw⟩; subst hw) | (go_at_call 75; refine (divide_any _ _ (by assumption) (by assumption) _).mono ?_; rintro e w' ⟨rfl, hw⟩; subst hw))
  go_ret3
  exact ⟨rfl, Below.refl _ _⟩

set_option maxRecDepth 100000 in
set_option maxHeartbeats 2000000 in
theorem rb8 (k a b : Int) (h1 : 2 ≤ k) (h2 : k ≤ 9) (va : Bv.Val k a) (vb : Bv.Val k b) (w : World) :
    Calls Tryz.prog 58 #[.int .i64 8, .int .i64 k, .int .i64 a, .int .i64 b] w fun e w' => e = .returned (.tuple #[.int .i64 (Bv.binN 8 k a b), .int .i64 (Bv.binK 8 k a b), .bool (Bv.binB 8 k a b)]) ∧ Below w.heap.size w w' := by
  have ia := Bv.isv_val (by omega) h2 va
  have ib := Bv.isv_val (by omega) h2 vb
  obtain ⟨eB, eK, _⟩ := Bv.bin_num 8 k a b h1 h2 (by omega) (by omega) (by omega) va vb
  have eK2 : Bv.toK 8 k = k := Bv.toK_small _ _ (by omega)
  have eN : Bv.binN 8 k a b = Bv.val k (fun i => Bv.bt a i && Bv.bt b i) := (and_val (by omega) h2 va vb).symm
  rw [eB, eK, eK2, eN]
  have HK : Hid (1 ≤ k ∧ k ≤ 9) := ⟨by omega, h2⟩
  have hk1 : (k == 1) = false := by rw [beq_eq_false_iff_ne]; omega
  clear eB eK eK2 eN h1 h2
  go_enter Tryz.func58, Tryz.ntmps58
  go_wp2_with (first | (go_at_call 41; refine (ris_any _ _ _).mono ?_; rintro e w' ⟨rfl, hw⟩; subst hw) | (go_at_call 73; refine (rand_any _ _ _ HK.out.1 HK.out.2 _).mono ?_; rintro e w2 ⟨rfl, hB⟩))
  go_ret3
  exact ⟨rfl, hB⟩

set_option maxRecDepth 100000 in
set_option maxHeartbeats 2000000 in
theorem rb9 (k a b : Int) (h1 : 2 ≤ k) (h2 : k ≤ 9) (va : Bv.Val k a) (vb : Bv.Val k b) (w : World) :
    Calls Tryz.prog 58 #[.int .i64 9, .int .i64 k, .int .i64 a, .int .i64 b] w fun e w' => e = .returned (.tuple #[.int .i64 (Bv.binN 9 k a b), .int .i64 (Bv.binK 9 k a b), .bool (Bv.binB 9 k a b)]) ∧ Below w.heap.size w w' := by
  have ia := Bv.isv_val (by omega) h2 va
  have ib := Bv.isv_val (by omega) h2 vb
  obtain ⟨eB, eK, _⟩ := Bv.bin_num 9 k a b h1 h2 (by omega) (by omega) (by omega) va vb
  have eK2 : Bv.toK 9 k = k := Bv.toK_small _ _ (by omega)
  have eN : Bv.binN 9 k a b = Bv.val k (fun i => Bv.bt a i || Bv.bt b i) := (or_val (by omega) h2 va vb).symm
  rw [eB, eK, eK2, eN]
  have HK : Hid (1 ≤ k ∧ k ≤ 9) := ⟨by omega, h2⟩
  have hk1 : (k == 1) = false := by rw [beq_eq_false_iff_ne]; omega
  clear eB eK eK2 eN h1 h2
  go_enter Tryz.func58, Tryz.ntmps58
  go_wp2_with (first | (go_at_call 41; refine (ris_any _ _ _).mono ?_; rintro e w' ⟨rfl, hw⟩; subst hw) | (go_at_call 73; refine (ror_any _ _ _ HK.out.1 HK.out.2 _).mono ?_; rintro e w2 ⟨rfl, hB⟩))
  go_ret3
  exact ⟨rfl, hB⟩

set_option maxRecDepth 100000 in
set_option maxHeartbeats 2000000 in
theorem rb10 (k a b : Int) (h1 : 2 ≤ k) (h2 : k ≤ 9) (va : Bv.Val k a) (vb : Bv.Val k b) (w : World) :
    Calls Tryz.prog 58 #[.int .i64 10, .int .i64 k, .int .i64 a, .int .i64 b] w fun e w' => e = .returned (.tuple #[.int .i64 (Bv.binN 10 k a b), .int .i64 (Bv.binK 10 k a b), .bool (Bv.binB 10 k a b)]) ∧ Below w.heap.size w w' := by
  have ia := Bv.isv_val (by omega) h2 va
  have ib := Bv.isv_val (by omega) h2 vb
  obtain ⟨eB, eK, _⟩ := Bv.bin_num 10 k a b h1 h2 (by omega) (by omega) (by omega) va vb
  have eK2 : Bv.toK 10 k = k := Bv.toK_small _ _ (by omega)
  have eN : Bv.binN 10 k a b = Bv.val k (fun i => Bv.bt a i != Bv.bt b i) := (xor_val (by omega) h2 va vb).symm
  rw [eB, eK, eK2, eN]
  have HK : Hid (1 ≤ k ∧ k ≤ 9) := ⟨by omega, h2⟩
  have hk1 : (k == 1) = false := by rw [beq_eq_false_iff_ne]; omega
  clear eB eK eK2 eN h1 h2
  go_enter Tryz.func58, Tryz.ntmps58
  go_wp2_with (first | (go_at_call 41; refine (ris_any _ _ _).mono ?_; rintro e w' ⟨rfl, hw⟩; subst hw) | (go_at_call 73; refine (rxor_any _ _ _ HK.out.1 HK.out.2 _).mono ?_; rintro e w2 ⟨rfl, hB⟩))
  go_ret3
  exact ⟨rfl, hB⟩

set_option maxRecDepth 100000 in
set_option maxHeartbeats 2000000 in
theorem rb12 (k a b : Int) (h1 : 2 ≤ k) (h2 : k ≤ 9) (va : Bv.Val k a) (vb : Bv.Val k b) (w : World) :
    Calls Tryz.prog 58 #[.int .i64 12, .int .i64 k, .int .i64 a, .int .i64 b] w fun e w' => e = .returned (.tuple #[.int .i64 (Bv.binN 12 k a b), .int .i64 (Bv.binK 12 k a b), .bool (Bv.binB 12 k a b)]) ∧ Below w.heap.size w w' := by
  have ia := Bv.isv_val (by omega) h2 va
  have ib := Bv.isv_val (by omega) h2 vb
  obtain ⟨eB, eK, _⟩ := Bv.bin_num 12 k a b h1 h2 (by omega) (by omega) (by omega) va vb
  have eK2 : Bv.toK 12 k = k := Bv.toK_small _ _ (by omega)
  have eN : Bv.binN 12 k a b = Bv.val k (Bv.mvf 12 (Bv.wn k) a false (Bv.low (Bv.wn k) b)) := (Bv.shl_val h1 h2 va vb).symm
  rw [eB, eK, eK2, eN]
  have HK : Hid (1 ≤ k ∧ k ≤ 9) := ⟨by omega, h2⟩
  have hk1 : (k == 1) = false := by rw [beq_eq_false_iff_ne]; omega
  clear eB eK eK2 eN h1 h2
  go_enter Tryz.func58, Tryz.ntmps58
  go_wp2_with (first | (go_at_call 41; refine (ris_any _ _ _).mono ?_; rintro e w' ⟨rfl, hw⟩; subst hw) | (go_at_call 76; refine (moved12 _ _ _ HK.out.1 HK.out.2 _).mono ?_; rintro e w2 ⟨rfl, hB⟩))
  go_ret3
  exact ⟨rfl, hB⟩

set_option maxRecDepth 100000 in
set_option maxHeartbeats 2000000 in
theorem rb13n (k a b : Int) (h1 : 2 ≤ k) (h2 : k ≤ 9) (va : Bv.Val k a) (vb : Bv.Val k b) (h5 : k ≤ 5) (hneg : a < 0) (w : World) :
    Calls Tryz.prog 58 #[.int .i64 13, .int .i64 k, .int .i64 a, .int .i64 b] w fun e w' => e = .returned (.tuple #[.int .i64 (Bv.binN 13 k a b), .int .i64 (Bv.binK 13 k a b), .bool (Bv.binB 13 k a b)]) ∧ Below w.heap.size w w' := by
  have ia := Bv.isv_val (by omega) h2 va
  have ib := Bv.isv_val (by omega) h2 vb
  obtain ⟨eB, eK, _⟩ := Bv.bin_num 13 k a b h1 h2 (by omega) (by omega) (by omega) va vb
  have eK2 : Bv.toK 13 k = k := Bv.toK_small _ _ (by omega)
  have hf : decide (k ≤ 5 ∧ a < 0) = true := by rw [decide_eq_true_eq]; omega
  have HH : Hid (k ≤ 5 ∧ 2 ≤ k ∧ a < 0) := ⟨h5, h1, hneg⟩
  have eN : Bv.binN 13 k a b = Bv.val k (Bv.mvf 13 (Bv.wn k) a true (Bv.low (Bv.wn k) b)) := by rw [← Bv.shr_val h1 h2 va vb, hf]
  rw [eB, eK, eK2, eN]
  have HK : Hid (1 ≤ k ∧ k ≤ 9) := ⟨by omega, h2⟩
  have hk1 : (k == 1) = false := by rw [beq_eq_false_iff_ne]; omega
  clear eB eK eK2 eN h1 h2 hf
  go_enter Tryz.func58, Tryz.ntmps58
  go_wp2_with (first | (go_at_call 41; refine (ris_any _ _ _).mono ?_; rintro e w' ⟨rfl, hw⟩; subst hw) | (go_at_call 76; refine (moved13n _ _ _ HK.out.1 HK.out.2 HH.out.1 HH.out.2.1 HH.out.2.2 _).mono ?_; rintro e w2 ⟨rfl, hB⟩))
  go_ret3
  exact ⟨rfl, hB⟩

set_option maxRecDepth 100000 in
set_option maxHeartbeats 2000000 in
theorem rb13p (k a b : Int) (h1 : 2 ≤ k) (h2 : k ≤ 9) (va : Bv.Val k a) (vb : Bv.Val k b) (h5 : k ≤ 5) (hneg : ¬ a < 0) (w : World) :
    Calls Tryz.prog 58 #[.int .i64 13, .int .i64 k, .int .i64 a, .int .i64 b] w fun e w' => e = .returned (.tuple #[.int .i64 (Bv.binN 13 k a b), .int .i64 (Bv.binK 13 k a b), .bool (Bv.binB 13 k a b)]) ∧ Below w.heap.size w w' := by
  have ia := Bv.isv_val (by omega) h2 va
  have ib := Bv.isv_val (by omega) h2 vb
  obtain ⟨eB, eK, _⟩ := Bv.bin_num 13 k a b h1 h2 (by omega) (by omega) (by omega) va vb
  have eK2 : Bv.toK 13 k = k := Bv.toK_small _ _ (by omega)
  have hf : decide (k ≤ 5 ∧ a < 0) = false := by rw [decide_eq_false_iff_not]; omega
  have HH : Hid (k ≤ 5 ∧ 2 ≤ k ∧ ¬ a < 0) := ⟨h5, h1, hneg⟩
  have eN : Bv.binN 13 k a b = Bv.val k (Bv.mvf 13 (Bv.wn k) a false (Bv.low (Bv.wn k) b)) := by rw [← Bv.shr_val h1 h2 va vb, hf]
  rw [eB, eK, eK2, eN]
  have HK : Hid (1 ≤ k ∧ k ≤ 9) := ⟨by omega, h2⟩
  have hk1 : (k == 1) = false := by rw [beq_eq_false_iff_ne]; omega
  clear eB eK eK2 eN h1 h2 hf
  go_enter Tryz.func58, Tryz.ntmps58
  go_wp2_with (first | (go_at_call 41; refine (ris_any _ _ _).mono ?_; rintro e w' ⟨rfl, hw⟩; subst hw) | (go_at_call 76; refine (moved13p _ _ _ HK.out.1 HK.out.2 HH.out.1 HH.out.2.1 (by have := HH.out.2.2; omega) _).mono ?_; rintro e w2 ⟨rfl, hB⟩))
  go_ret3
  exact ⟨rfl, hB⟩

set_option maxRecDepth 100000 in
set_option maxHeartbeats 2000000 in
theorem rb13u (k a b : Int) (h1 : 2 ≤ k) (h2 : k ≤ 9) (va : Bv.Val k a) (vb : Bv.Val k b) (h5 : 6 ≤ k) (w : World) :
    Calls Tryz.prog 58 #[.int .i64 13, .int .i64 k, .int .i64 a, .int .i64 b] w fun e w' => e = .returned (.tuple #[.int .i64 (Bv.binN 13 k a b), .int .i64 (Bv.binK 13 k a b), .bool (Bv.binB 13 k a b)]) ∧ Below w.heap.size w w' := by
  have ia := Bv.isv_val (by omega) h2 va
  have ib := Bv.isv_val (by omega) h2 vb
  obtain ⟨eB, eK, _⟩ := Bv.bin_num 13 k a b h1 h2 (by omega) (by omega) (by omega) va vb
  have eK2 : Bv.toK 13 k = k := Bv.toK_small _ _ (by omega)
  have HH : Hid (6 ≤ k) := h5
  have hf : decide (k ≤ 5 ∧ a < 0) = false := by rw [decide_eq_false_iff_not]; omega
  have eN : Bv.binN 13 k a b = Bv.val k (Bv.mvf 13 (Bv.wn k) a false (Bv.low (Bv.wn k) b)) := by rw [← Bv.shr_val h1 h2 va vb, hf]
  rw [eB, eK, eK2, eN]
  have HK : Hid (1 ≤ k ∧ k ≤ 9) := ⟨by omega, h2⟩
  have hk1 : (k == 1) = false := by rw [beq_eq_false_iff_ne]; omega
  clear eB eK eK2 eN h1 h2 hf
  go_enter Tryz.func58, Tryz.ntmps58
  go_wp2_with (first | (go_at_call 41; refine (ris_any _ _ _).mono ?_; rintro e w' ⟨rfl, hw⟩; subst hw) | (go_at_call 76; refine (moved13u _ _ _ HK.out.1 HK.out.2 HH.out _).mono ?_; rintro e w2 ⟨rfl, hB⟩))
  go_ret3
  exact ⟨rfl, hB⟩

set_option maxRecDepth 100000 in
set_option maxHeartbeats 2000000 in
theorem rb14 (k a b : Int) (h1 : 2 ≤ k) (h2 : k ≤ 9) (va : Bv.Val k a) (vb : Bv.Val k b) (w : World) :
    Calls Tryz.prog 58 #[.int .i64 14, .int .i64 k, .int .i64 a, .int .i64 b] w fun e w' => e = .returned (.tuple #[.int .i64 (Bv.binN 14 k a b), .int .i64 (Bv.binK 14 k a b), .bool (Bv.binB 14 k a b)]) ∧ Below w.heap.size w w' := by
  have ia := Bv.isv_val (by omega) h2 va
  have ib := Bv.isv_val (by omega) h2 vb
  obtain ⟨eB, eK, _⟩ := Bv.bin_num 14 k a b h1 h2 (by omega) (by omega) (by omega) va vb
  have eK2 : Bv.toK 14 k = 1 := Bv.toK_test _ _ (by omega)
  have eN : Bv.binN 14 k a b = Bv.one (a == b) := Bv.nEq h1 h2 va vb
  rw [eB, eK, eK2, eN]
  have HK : Hid (1 ≤ k ∧ k ≤ 9) := ⟨by omega, h2⟩
  have hk1 : (k == 1) = false := by rw [beq_eq_false_iff_ne]; omega
  clear eB eK eK2 eN h1 h2
  go_enter Tryz.func58, Tryz.ntmps58
  go_wp2_with (first | (go_at_call 41; refine (ris_any _ _ _).mono ?_; rintro e w' ⟨rfl, hw⟩; subst hw) | (go_at_call 74; refine (truth_any _ _).mono ?_; rintro e w' ⟨rfl, hw⟩; subst hw))
  go_ret3
  exact ⟨rfl, Below.refl _ _⟩

set_option maxRecDepth 100000 in
set_option maxHeartbeats 2000000 in
theorem rb15 (k a b : Int) (h1 : 2 ≤ k) (h2 : k ≤ 9) (va : Bv.Val k a) (vb : Bv.Val k b) (w : World) :
    Calls Tryz.prog 58 #[.int .i64 15, .int .i64 k, .int .i64 a, .int .i64 b] w fun e w' => e = .returned (.tuple #[.int .i64 (Bv.binN 15 k a b), .int .i64 (Bv.binK 15 k a b), .bool (Bv.binB 15 k a b)]) ∧ Below w.heap.size w w' := by
  have ia := Bv.isv_val (by omega) h2 va
  have ib := Bv.isv_val (by omega) h2 vb
  obtain ⟨eB, eK, _⟩ := Bv.bin_num 15 k a b h1 h2 (by omega) (by omega) (by omega) va vb
  have eK2 : Bv.toK 15 k = 1 := Bv.toK_test _ _ (by omega)
  have eN : Bv.binN 15 k a b = Bv.one (a != b) := Bv.nNe h1 h2 va vb
  rw [eB, eK, eK2, eN]
  have HK : Hid (1 ≤ k ∧ k ≤ 9) := ⟨by omega, h2⟩
  have hk1 : (k == 1) = false := by rw [beq_eq_false_iff_ne]; omega
  clear eB eK eK2 eN h1 h2
  go_enter Tryz.func58, Tryz.ntmps58
  go_wp2_with (first | (go_at_call 41; refine (ris_any _ _ _).mono ?_; rintro e w' ⟨rfl, hw⟩; subst hw) | (go_at_call 74; refine (truth_any _ _).mono ?_; rintro e w' ⟨rfl, hw⟩; subst hw))
  go_ret3
  exact ⟨rfl, Below.refl _ _⟩

set_option maxRecDepth 100000 in
set_option maxHeartbeats 2000000 in
theorem rb16 (k a b : Int) (h1 : 2 ≤ k) (h2 : k ≤ 9) (va : Bv.Val k a) (vb : Bv.Val k b) (w : World) :
    Calls Tryz.prog 58 #[.int .i64 16, .int .i64 k, .int .i64 a, .int .i64 b] w fun e w' => e = .returned (.tuple #[.int .i64 (Bv.binN 16 k a b), .int .i64 (Bv.binK 16 k a b), .bool (Bv.binB 16 k a b)]) ∧ Below w.heap.size w w' := by
  have ia := Bv.isv_val (by omega) h2 va
  have ib := Bv.isv_val (by omega) h2 vb
  obtain ⟨eB, eK, _⟩ := Bv.bin_num 16 k a b h1 h2 (by omega) (by omega) (by omega) va vb
  have eK2 : Bv.toK 16 k = 1 := Bv.toK_test _ _ (by omega)
  have eN : Bv.binN 16 k a b = Bv.one (Bv.lss k a b) := Bv.nLt h1 h2 va vb
  rw [eB, eK, eK2, eN]
  have HK : Hid (1 ≤ k ∧ k ≤ 9) := ⟨by omega, h2⟩
  have hk1 : (k == 1) = false := by rw [beq_eq_false_iff_ne]; omega
  clear eB eK eK2 eN h1 h2
  go_enter Tryz.func58, Tryz.ntmps58
  go_wp2_with (first | (go_at_call 41; refine (ris_any _ _ _).mono ?_; rintro e w' ⟨rfl, hw⟩; subst hw) | (go_at_call 74; refine (truth_any _ _).mono ?_; rintro e w' ⟨rfl, hw⟩; subst hw) | (go_at_call 77; refine (below_val _ _ _ HK.out.2 (by assumption) (by assumption) _).mono ?_; rintro e w' ⟨rfl, hw⟩; subst hw))
  go_ret3
  exact ⟨rfl, Below.refl _ _⟩

set_option maxRecDepth 100000 in
set_option maxHeartbeats 2000000 in
theorem rb17 (k a b : Int) (h1 : 2 ≤ k) (h2 : k ≤ 9) (va : Bv.Val k a) (vb : Bv.Val k b) (w : World) :
    Calls Tryz.prog 58 #[.int .i64 17, .int .i64 k, .int .i64 a, .int .i64 b] w fun e w' => e = .returned (.tuple #[.int .i64 (Bv.binN 17 k a b), .int .i64 (Bv.binK 17 k a b), .bool (Bv.binB 17 k a b)]) ∧ Below w.heap.size w w' := by
  have ia := Bv.isv_val (by omega) h2 va
  have ib := Bv.isv_val (by omega) h2 vb
  obtain ⟨eB, eK, _⟩ := Bv.bin_num 17 k a b h1 h2 (by omega) (by omega) (by omega) va vb
  have eK2 : Bv.toK 17 k = 1 := Bv.toK_test _ _ (by omega)
  have eN : Bv.binN 17 k a b = Bv.one (!Bv.lss k b a) := Bv.nLe h1 h2 va vb
  rw [eB, eK, eK2, eN]
  have HK : Hid (1 ≤ k ∧ k ≤ 9) := ⟨by omega, h2⟩
  have hk1 : (k == 1) = false := by rw [beq_eq_false_iff_ne]; omega
  clear eB eK eK2 eN h1 h2
  go_enter Tryz.func58, Tryz.ntmps58
  go_wp2_with (first | (go_at_call 41; refine (ris_any _ _ _).mono ?_; rintro e w' ⟨rfl, hw⟩; subst hw) | (go_at_call 74; refine (truth_any _ _).mono ?_; rintro e w' ⟨rfl, hw⟩; subst hw) | (go_at_call 77; refine (below_val _ _ _ HK.out.2 (by assumption) (by assumption) _).mono ?_; rintro e w' ⟨rfl, hw⟩; subst hw))
  go_ret3
  exact ⟨rfl, Below.refl _ _⟩

set_option maxRecDepth 100000 in
set_option maxHeartbeats 2000000 in
theorem rb18 (k a b : Int) (h1 : 2 ≤ k) (h2 : k ≤ 9) (va : Bv.Val k a) (vb : Bv.Val k b) (w : World) :
    Calls Tryz.prog 58 #[.int .i64 18, .int .i64 k, .int .i64 a, .int .i64 b] w fun e w' => e = .returned (.tuple #[.int .i64 (Bv.binN 18 k a b), .int .i64 (Bv.binK 18 k a b), .bool (Bv.binB 18 k a b)]) ∧ Below w.heap.size w w' := by
  have ia := Bv.isv_val (by omega) h2 va
  have ib := Bv.isv_val (by omega) h2 vb
  obtain ⟨eB, eK, _⟩ := Bv.bin_num 18 k a b h1 h2 (by omega) (by omega) (by omega) va vb
  have eK2 : Bv.toK 18 k = 1 := Bv.toK_test _ _ (by omega)
  have eN : Bv.binN 18 k a b = Bv.one (Bv.lss k b a) := Bv.nGt h1 h2 va vb
  rw [eB, eK, eK2, eN]
  have HK : Hid (1 ≤ k ∧ k ≤ 9) := ⟨by omega, h2⟩
  have hk1 : (k == 1) = false := by rw [beq_eq_false_iff_ne]; omega
  clear eB eK eK2 eN h1 h2
  go_enter Tryz.func58, Tryz.ntmps58
  go_wp2_with (first | (go_at_call 41; refine (ris_any _ _ _).mono ?_; rintro e w' ⟨rfl, hw⟩; subst hw) | (go_at_call 74; refine (truth_any _ _).mono ?_; rintro e w' ⟨rfl, hw⟩; subst hw) | (go_at_call 77; refine (below_val _ _ _ HK.out.2 (by assumption) (by assumption) _).mono ?_; rintro e w' ⟨rfl, hw⟩; subst hw))
  go_ret3
  exact ⟨rfl, Below.refl _ _⟩

set_option maxRecDepth 100000 in
set_option maxHeartbeats 2000000 in
theorem rb19 (k a b : Int) (h1 : 2 ≤ k) (h2 : k ≤ 9) (va : Bv.Val k a) (vb : Bv.Val k b) (w : World) :
    Calls Tryz.prog 58 #[.int .i64 19, .int .i64 k, .int .i64 a, .int .i64 b] w fun e w' => e = .returned (.tuple #[.int .i64 (Bv.binN 19 k a b), .int .i64 (Bv.binK 19 k a b), .bool (Bv.binB 19 k a b)]) ∧ Below w.heap.size w w' := by
  have ia := Bv.isv_val (by omega) h2 va
  have ib := Bv.isv_val (by omega) h2 vb
  obtain ⟨eB, eK, _⟩ := Bv.bin_num 19 k a b h1 h2 (by omega) (by omega) (by omega) va vb
  have eK2 : Bv.toK 19 k = 1 := Bv.toK_test _ _ (by omega)
  have eN : Bv.binN 19 k a b = Bv.one (!Bv.lss k a b) := Bv.nGe h1 h2 va vb
  rw [eB, eK, eK2, eN]
  have HK : Hid (1 ≤ k ∧ k ≤ 9) := ⟨by omega, h2⟩
  have hk1 : (k == 1) = false := by rw [beq_eq_false_iff_ne]; omega
  clear eB eK eK2 eN h1 h2
  go_enter Tryz.func58, Tryz.ntmps58
  go_wp2_with (first | (go_at_call 41; refine (ris_any _ _ _).mono ?_; rintro e w' ⟨rfl, hw⟩; subst hw) | (go_at_call 74; refine (truth_any _ _).mono ?_; rintro e w' ⟨rfl, hw⟩; subst hw) | (go_at_call 77; refine (below_val _ _ _ HK.out.2 (by assumption) (by assumption) _).mono ?_; rintro e w' ⟨rfl, hw⟩; subst hw))
  go_ret3
  exact ⟨rfl, Below.refl _ _⟩
end Go.Proofs.YtfbhflpjhbemlaaGreat

/- The walk of the document's own Bin, gathered: it answers as bv.Bin's plain definition says, whatever the operation, the kind and the two numbers of 64 bits. -/
namespace Go.Proofs.YtfbhflpjhbemlaaGreat
open Go.RowKit

theorem val1 {a : Int} (va : Bv.Val 1 a) : a = 0 ∨ a = 1 := by
  have h := va.1
  rw [Bv.wrp1] at h
  omega
theorem binB1 {op a b : Int} (o : op = 8 ∨ op = 9 ∨ op = 10 ∨ op = 11 ∨ op = 14 ∨ op = 15) (va : Bv.Val 1 a) (vb : Bv.Val 1 b) : Bv.binB op 1 a b = true := by
  have ia := Bv.isv_val (by decide) (by decide) va
  have ib := Bv.isv_val (by decide) (by decide) vb
  unfold Bv.binB Bv.allv
  have ht : Bv.tks (Bv.ofB op) 1 = true := by rcases o with rfl | rfl | rfl | rfl | rfl | rfl <;> kernel_rfl
  rw [ht]
  simp [ia, ib]
theorem binK1 {op a b : Int} (h : Bv.binB op 1 a b = true) : Bv.binK op 1 a b = 1 := by
  unfold Bv.binK Bv.toK
  rw [h]
  simp

set_option maxRecDepth 100000 in
set_option maxHeartbeats 2000000 in
theorem rbo8 (a b : Int) (va : Bv.Val 1 a) (vb : Bv.Val 1 b) (w : World) :
    Calls Tryz.prog 58 #[.int .i64 8, .int .i64 1, .int .i64 a, .int .i64 b] w fun e w' => e = .returned (.tuple #[.int .i64 (Bv.binN 8 1 a b), .int .i64 (Bv.binK 8 1 a b), .bool (Bv.binB 8 1 a b)]) ∧ Below w.heap.size w w' := by
  have ia := Bv.isv_val (by decide) (by decide) va
  have ib := Bv.isv_val (by decide) (by decide) vb
  have eB : Bv.binB 8 1 a b = true := binB1 (by omega) va vb
  have eK := binK1 eB
  have eN : Bv.binN 8 1 a b = Bv.val 1 (fun i => Bv.bt a i && Bv.bt b i) := (and_val (by decide) (by decide) va vb).symm
  rw [eB, eK, eN]
  have HK : Hid ((1 : Int) ≤ 1 ∧ (1 : Int) ≤ 9) := ⟨by decide, by decide⟩
  clear eB eK eN va vb
  go_enter Tryz.func58, Tryz.ntmps58
  go_wp2_with (first | (go_at_call 41; refine (ris_any _ _ _).mono ?_; rintro e w' ⟨rfl, hw⟩; subst hw) | (go_at_call 73; refine (rand_any _ _ _ HK.out.1 HK.out.2 _).mono ?_; rintro e w2 ⟨rfl, hB⟩))
  go_ret3
  exact ⟨rfl, hB⟩

set_option maxRecDepth 100000 in
set_option maxHeartbeats 2000000 in
theorem rbo9 (a b : Int) (va : Bv.Val 1 a) (vb : Bv.Val 1 b) (w : World) :
    Calls Tryz.prog 58 #[.int .i64 9, .int .i64 1, .int .i64 a, .int .i64 b] w fun e w' => e = .returned (.tuple #[.int .i64 (Bv.binN 9 1 a b), .int .i64 (Bv.binK 9 1 a b), .bool (Bv.binB 9 1 a b)]) ∧ Below w.heap.size w w' := by
  have ia := Bv.isv_val (by decide) (by decide) va
  have ib := Bv.isv_val (by decide) (by decide) vb
  have eB : Bv.binB 9 1 a b = true := binB1 (by omega) va vb
  have eK := binK1 eB
  have eN : Bv.binN 9 1 a b = Bv.val 1 (fun i => Bv.bt a i || Bv.bt b i) := (or_val (by decide) (by decide) va vb).symm
  rw [eB, eK, eN]
  have HK : Hid ((1 : Int) ≤ 1 ∧ (1 : Int) ≤ 9) := ⟨by decide, by decide⟩
  clear eB eK eN va vb
  go_enter Tryz.func58, Tryz.ntmps58
  go_wp2_with (first | (go_at_call 41; refine (ris_any _ _ _).mono ?_; rintro e w' ⟨rfl, hw⟩; subst hw) | (go_at_call 73; refine (ror_any _ _ _ HK.out.1 HK.out.2 _).mono ?_; rintro e w2 ⟨rfl, hB⟩))
  go_ret3
  exact ⟨rfl, hB⟩

set_option maxRecDepth 100000 in
set_option maxHeartbeats 2000000 in
theorem rbo10 (a b : Int) (va : Bv.Val 1 a) (vb : Bv.Val 1 b) (w : World) :
    Calls Tryz.prog 58 #[.int .i64 10, .int .i64 1, .int .i64 a, .int .i64 b] w fun e w' => e = .returned (.tuple #[.int .i64 (Bv.binN 10 1 a b), .int .i64 (Bv.binK 10 1 a b), .bool (Bv.binB 10 1 a b)]) ∧ Below w.heap.size w w' := by
  have ia := Bv.isv_val (by decide) (by decide) va
  have ib := Bv.isv_val (by decide) (by decide) vb
  have eB : Bv.binB 10 1 a b = true := binB1 (by omega) va vb
  have eK := binK1 eB
  have eN : Bv.binN 10 1 a b = Bv.val 1 (fun i => Bv.bt a i != Bv.bt b i) := (xor_val (by decide) (by decide) va vb).symm
  rw [eB, eK, eN]
  have HK : Hid ((1 : Int) ≤ 1 ∧ (1 : Int) ≤ 9) := ⟨by decide, by decide⟩
  clear eB eK eN va vb
  go_enter Tryz.func58, Tryz.ntmps58
  go_wp2_with (first | (go_at_call 41; refine (ris_any _ _ _).mono ?_; rintro e w' ⟨rfl, hw⟩; subst hw) | (go_at_call 73; refine (rxor_any _ _ _ HK.out.1 HK.out.2 _).mono ?_; rintro e w2 ⟨rfl, hB⟩))
  go_ret3
  exact ⟨rfl, hB⟩

set_option maxRecDepth 100000 in
set_option maxHeartbeats 2000000 in
theorem rbo14 (a b : Int) (va : Bv.Val 1 a) (vb : Bv.Val 1 b) (w : World) :
    Calls Tryz.prog 58 #[.int .i64 14, .int .i64 1, .int .i64 a, .int .i64 b] w fun e w' => e = .returned (.tuple #[.int .i64 (Bv.binN 14 1 a b), .int .i64 (Bv.binK 14 1 a b), .bool (Bv.binB 14 1 a b)]) ∧ Below w.heap.size w w' := by
  have ia := Bv.isv_val (by decide) (by decide) va
  have ib := Bv.isv_val (by decide) (by decide) vb
  have eB : Bv.binB 14 1 a b = true := binB1 (by omega) va vb
  have eK := binK1 eB
  have eN : Bv.binN 14 1 a b = Bv.one (a == b) := by unfold Bv.binN; rw [eB]; exact Bv.wrp_one _
  rw [eB, eK, eN]
  have HK : Hid ((1 : Int) ≤ 1 ∧ (1 : Int) ≤ 9) := ⟨by decide, by decide⟩
  clear eB eK eN va vb
  go_enter Tryz.func58, Tryz.ntmps58
  go_wp2_with (first | (go_at_call 41; refine (ris_any _ _ _).mono ?_; rintro e w' ⟨rfl, hw⟩; subst hw) | (go_at_call 74; refine (truth_any _ _).mono ?_; rintro e w' ⟨rfl, hw⟩; subst hw))
  go_ret3
  exact ⟨rfl, Below.refl _ _⟩

set_option maxRecDepth 100000 in
set_option maxHeartbeats 2000000 in
theorem rbo15 (a b : Int) (va : Bv.Val 1 a) (vb : Bv.Val 1 b) (w : World) :
    Calls Tryz.prog 58 #[.int .i64 15, .int .i64 1, .int .i64 a, .int .i64 b] w fun e w' => e = .returned (.tuple #[.int .i64 (Bv.binN 15 1 a b), .int .i64 (Bv.binK 15 1 a b), .bool (Bv.binB 15 1 a b)]) ∧ Below w.heap.size w w' := by
  have ia := Bv.isv_val (by decide) (by decide) va
  have ib := Bv.isv_val (by decide) (by decide) vb
  have eB : Bv.binB 15 1 a b = true := binB1 (by omega) va vb
  have eK := binK1 eB
  have eN : Bv.binN 15 1 a b = Bv.one (a != b) := by unfold Bv.binN; rw [eB]; exact Bv.wrp_one _
  rw [eB, eK, eN]
  have HK : Hid ((1 : Int) ≤ 1 ∧ (1 : Int) ≤ 9) := ⟨by decide, by decide⟩
  clear eB eK eN va vb
  go_enter Tryz.func58, Tryz.ntmps58
  go_wp2_with (first | (go_at_call 41; refine (ris_any _ _ _).mono ?_; rintro e w' ⟨rfl, hw⟩; subst hw) | (go_at_call 74; refine (truth_any _ _).mono ?_; rintro e w' ⟨rfl, hw⟩; subst hw))
  go_ret3
  exact ⟨rfl, Below.refl _ _⟩

set_option maxRecDepth 100000 in
set_option maxHeartbeats 4000000 in
theorem rbo11 (a b : Int) (va : Bv.Val 1 a) (vb : Bv.Val 1 b) (w : World) :
    Calls Tryz.prog 58 #[.int .i64 11, .int .i64 1, .int .i64 a, .int .i64 b] w fun e w' => e = .returned (.tuple #[.int .i64 (Bv.binN 11 1 a b), .int .i64 (Bv.binK 11 1 a b), .bool (Bv.binB 11 1 a b)]) ∧ Below w.heap.size w w' := by
  have ia := Bv.isv_val (by decide) (by decide) va
  have ib := Bv.isv_val (by decide) (by decide) vb
  have eB : Bv.binB 11 1 a b = true := binB1 (by omega) va vb
  have eK := binK1 eB
  rw [eB, eK]
  clear eB eK
  rcases val1 va with rfl | rfl
  all_goals rcases val1 vb with rfl | rfl
  · have eN : Bv.binN 11 1 0 0 = Bv.one true := by kernel_rfl
    rw [eN]
    clear eN va vb
    go_enter Tryz.func58, Tryz.ntmps58
    go_wp2_with (first | (go_at_call 41; refine (ris_any _ _ _).mono ?_; rintro e w' ⟨rfl, hw⟩; subst hw) | (go_at_call 74; refine (truth_any _ _).mono ?_; rintro e w' ⟨rfl, hw⟩; subst hw))
    go_ret3
    exact ⟨rfl, Below.refl _ _⟩
  · have eN : Bv.binN 11 1 0 1 = Bv.one true := by kernel_rfl
    rw [eN]
    clear eN va vb
    go_enter Tryz.func58, Tryz.ntmps58
    go_wp2_with (first | (go_at_call 41; refine (ris_any _ _ _).mono ?_; rintro e w' ⟨rfl, hw⟩; subst hw) | (go_at_call 74; refine (truth_any _ _).mono ?_; rintro e w' ⟨rfl, hw⟩; subst hw))
    go_ret3
    exact ⟨rfl, Below.refl _ _⟩
  · have eN : Bv.binN 11 1 1 0 = Bv.one false := by kernel_rfl
    rw [eN]
    clear eN va vb
    go_enter Tryz.func58, Tryz.ntmps58
    go_wp2_with (first | (go_at_call 41; refine (ris_any _ _ _).mono ?_; rintro e w' ⟨rfl, hw⟩; subst hw) | (go_at_call 74; refine (truth_any _ _).mono ?_; rintro e w' ⟨rfl, hw⟩; subst hw))
    go_ret3
    exact ⟨rfl, Below.refl _ _⟩
  · have eN : Bv.binN 11 1 1 1 = Bv.one true := by kernel_rfl
    rw [eN]
    clear eN va vb
    go_enter Tryz.func58, Tryz.ntmps58
    go_wp2_with (first | (go_at_call 41; refine (ris_any _ _ _).mono ?_; rintro e w' ⟨rfl, hw⟩; subst hw) | (go_at_call 74; refine (truth_any _ _).mono ?_; rintro e w' ⟨rfl, hw⟩; subst hw))
    go_ret3
    exact ⟨rfl, Below.refl _ _⟩

set_option maxRecDepth 100000 in
set_option maxHeartbeats 4000000 in
theorem rb_noval (op k a b : Int) (h : (Bv.isv k a && Bv.isv k b) = false) (w : World) :
    Calls Tryz.prog 58 #[.int .i64 op, .int .i64 k, .int .i64 a, .int .i64 b] w fun e w' => e = .returned (.tuple #[.int .i64 0, .int .i64 0, .bool false]) ∧ Below w.heap.size w w' := by
  cases ha : Bv.isv k a with
  | false =>
    clear h
    go_enter Tryz.func58, Tryz.ntmps58
    go_wp2_with (first | (go_at_call 41; refine (ris_any _ _ _).mono ?_; rintro e w' ⟨rfl, hw⟩; subst hw))
    go_ret3
    exact ⟨rfl, Below.refl _ _⟩
  | true =>
    have hb : Bv.isv k b = false := by rw [ha] at h; simpa using h
    clear h
    go_enter Tryz.func58, Tryz.ntmps58
    go_wp2_with (first | (go_at_call 41; refine (ris_any _ _ _).mono ?_; rintro e w' ⟨rfl, hw⟩; subst hw))
    go_ret3
    exact ⟨rfl, Below.refl _ _⟩

set_option maxRecDepth 100000 in
set_option maxHeartbeats 4000000 in
theorem rb_none1 (op a b : Int) (ia : Bv.isv 1 a = true) (ib : Bv.isv 1 b = true) (o : op < 8 ∨ op = 12 ∨ op = 13 ∨ 15 < op) (w : World) :
    Calls Tryz.prog 58 #[.int .i64 op, .int .i64 1, .int .i64 a, .int .i64 b] w fun e w' => e = .returned (.tuple #[.int .i64 0, .int .i64 0, .bool false]) ∧ Below w.heap.size w w' := by
  have o8 : (op == 8) = false := by rw [beq_eq_false_iff_ne]; omega
  have o9 : (op == 9) = false := by rw [beq_eq_false_iff_ne]; omega
  have o10 : (op == 10) = false := by rw [beq_eq_false_iff_ne]; omega
  have o11 : (op == 11) = false := by rw [beq_eq_false_iff_ne]; omega
  have o14 : (op == 14) = false := by rw [beq_eq_false_iff_ne]; omega
  have o15 : (op == 15) = false := by rw [beq_eq_false_iff_ne]; omega
  clear o
  go_enter Tryz.func58, Tryz.ntmps58
  go_wp2_with (first | (go_at_call 41; refine (ris_any _ _ _).mono ?_; rintro e w' ⟨rfl, hw⟩; subst hw))
  go_ret3
  exact ⟨rfl, Below.refl _ _⟩

set_option maxRecDepth 100000 in
set_option maxHeartbeats 4000000 in
theorem rb_none (op k a b : Int) (hk : ¬ k = 1) (ia : Bv.isv k a = true) (ib : Bv.isv k b = true) (o : op < 3 ∨ op = 11 ∨ 19 < op) (w : World) :
    Calls Tryz.prog 58 #[.int .i64 op, .int .i64 k, .int .i64 a, .int .i64 b] w fun e w' => e = .returned (.tuple #[.int .i64 0, .int .i64 0, .bool false]) ∧ Below w.heap.size w w' := by
  have o3 : (op == 3) = false := by rw [beq_eq_false_iff_ne]; omega
  have o4 : (op == 4) = false := by rw [beq_eq_false_iff_ne]; omega
  have o5 : (op == 5) = false := by rw [beq_eq_false_iff_ne]; omega
  have o6 : (op == 6) = false := by rw [beq_eq_false_iff_ne]; omega
  have o7 : (op == 7) = false := by rw [beq_eq_false_iff_ne]; omega
  have o8 : (op == 8) = false := by rw [beq_eq_false_iff_ne]; omega
  have o9 : (op == 9) = false := by rw [beq_eq_false_iff_ne]; omega
  have o10 : (op == 10) = false := by rw [beq_eq_false_iff_ne]; omega
  have o12 : (op == 12) = false := by rw [beq_eq_false_iff_ne]; omega
  have o13 : (op == 13) = false := by rw [beq_eq_false_iff_ne]; omega
  have o14 : (op == 14) = false := by rw [beq_eq_false_iff_ne]; omega
  have o15 : (op == 15) = false := by rw [beq_eq_false_iff_ne]; omega
  have o16 : (op == 16) = false := by rw [beq_eq_false_iff_ne]; omega
  have o17 : (op == 17) = false := by rw [beq_eq_false_iff_ne]; omega
  have o18 : (op == 18) = false := by rw [beq_eq_false_iff_ne]; omega
  have o19 : (op == 19) = false := by rw [beq_eq_false_iff_ne]; omega
  have hk1 : (k == 1) = false := by rw [beq_eq_false_iff_ne]; omega
  clear o hk
  go_enter Tryz.func58, Tryz.ntmps58
  go_wp2_with (first | (go_at_call 41; refine (ris_any _ _ _).mono ?_; rintro e w' ⟨rfl, hw⟩; subst hw))
  go_ret3
  exact ⟨rfl, Below.refl _ _⟩

theorem rbin_any (op k a b : Int) (i1 : Bv.I64 a) (i2 : Bv.I64 b) (w : World) :
    Calls Tryz.prog 58 #[.int .i64 op, .int .i64 k, .int .i64 a, .int .i64 b] w fun e w' => e = .returned (.tuple #[.int .i64 (Bv.binN op k a b), .int .i64 (Bv.binK op k a b), .bool (Bv.binB op k a b)]) ∧ Below w.heap.size w w' := by
  have zero : Bv.binB op k a b = false → Bv.binN op k a b = 0 ∧ Bv.binK op k a b = 0 := fun e => ⟨by simp [Bv.binN, e], by simp [Bv.binK, e]⟩
  cases hv : (Bv.isv k a && Bv.isv k b) with
  | false =>
    have e : Bv.binB op k a b = false := by
      unfold Bv.binB Bv.allv
      simp only [List.all_cons, List.all_nil, Bool.and_true, hv, Bool.and_false]
    rw [e, (zero e).1, (zero e).2]
    exact rb_noval op k a b hv w
  | true =>
    have hv2 : Bv.isv k a = true ∧ Bv.isv k b = true := by simpa using hv
    obtain ⟨ia, ib⟩ := hv2
    obtain ⟨⟨k1, k9⟩, va⟩ := isv_vals i1 ia
    obtain ⟨_, vb⟩ := isv_vals i2 ib
    by_cases hk : k = 1
    · subst hk
      by_cases ho : op < 8 ∨ op = 12 ∨ op = 13 ∨ 15 < op
      · have e : Bv.binB op 1 a b = false := by
          have e : Bv.ofB op = 2 ∨ Bv.ofB op = 0 := by
            unfold Bv.ofB
            rw [if_neg (by omega), if_neg (by omega)]
            split
            · exact Or.inl rfl
            · exact Or.inr rfl
          unfold Bv.binB
          rcases e with e | e <;> rw [e] <;> simp [Bv.tks]
        rw [e, (zero e).1, (zero e).2]
        exact rb_none1 op a b ia ib ho w
      · have hc : op = 8 ∨ op = 9 ∨ op = 10 ∨ op = 11 ∨ op = 14 ∨ op = 15 := by omega
        rcases hc with rfl | rfl | rfl | rfl | rfl | rfl
        · exact rbo8 a b va vb w
        · exact rbo9 a b va vb w
        · exact rbo10 a b va vb w
        · exact rbo11 a b va vb w
        · exact rbo14 a b va vb w
        · exact rbo15 a b va vb w
    · have h1 : 2 ≤ k := by omega
      by_cases ho : op < 3 ∨ op = 11 ∨ 19 < op
      · have e : Bv.binB op k a b = false := by
          unfold Bv.binB
          have ht : Bv.tks (Bv.ofB op) k = false := by
            rcases ho with ho | ho | ho
            · have e : Bv.ofB op = 0 := by unfold Bv.ofB; rw [if_neg (by omega), if_neg (by omega), if_neg (by omega)]
              rw [e]; simp [Bv.tks]
            · have e : Bv.ofB op = 1 := by subst ho; rfl
              rw [e]; simp [Bv.tks, hk]
            · have e : Bv.ofB op = 0 := by unfold Bv.ofB; rw [if_neg (by omega), if_neg (by omega), if_neg (by omega)]
              rw [e]; simp [Bv.tks]
          rw [ht]; rfl
        rw [e, (zero e).1, (zero e).2]
        exact rb_none op k a b hk ia ib ho w
      · have hc : op = 3 ∨ op = 4 ∨ op = 5 ∨ op = 6 ∨ op = 7 ∨ op = 8 ∨ op = 9 ∨ op = 10 ∨ op = 12 ∨ op = 13 ∨ op = 14 ∨ op = 15 ∨ op = 16 ∨ op = 17 ∨ op = 18 ∨ op = 19 := by omega
        rcases hc with rfl | rfl | rfl | rfl | rfl | rfl | rfl | rfl | rfl | rfl | rfl | rfl | rfl | rfl | rfl | rfl
        · exact rb3 k a b h1 k9 va vb w
        · exact rb4 k a b h1 k9 va vb w
        · exact rb5 k a b h1 k9 va vb w
        · by_cases h0 : b = 0
          · exact rb6z k a b h1 k9 va vb h0 w
          · by_cases h9 : k = 9
            · exact rb6u k a b h1 k9 va vb h0 h9 w
            · by_cases hm : b = -1
              · exact rb6m k a b h1 k9 va vb hm (by omega) w
              · exact rb6d k a b h1 k9 va vb h0 hm (by omega) w
        · by_cases h0 : b = 0
          · exact rb7z k a b h1 k9 va vb h0 w
          · by_cases h9 : k = 9
            · exact rb7u k a b h1 k9 va vb h0 h9 w
            · by_cases hm : b = -1
              · exact rb7m k a b h1 k9 va vb hm (by omega) w
              · exact rb7d k a b h1 k9 va vb h0 hm (by omega) w
        · exact rb8 k a b h1 k9 va vb w
        · exact rb9 k a b h1 k9 va vb w
        · exact rb10 k a b h1 k9 va vb w
        · exact rb12 k a b h1 k9 va vb w
        · by_cases h5 : k ≤ 5
          · by_cases hneg : a < 0
            · exact rb13n k a b h1 k9 va vb h5 hneg w
            · exact rb13p k a b h1 k9 va vb h5 hneg w
          · exact rb13u k a b h1 k9 va vb (by omega) w
        · exact rb14 k a b h1 k9 va vb w
        · exact rb15 k a b h1 k9 va vb w
        · exact rb16 k a b h1 k9 va vb w
        · exact rb17 k a b h1 k9 va vb w
        · exact rb18 k a b h1 k9 va vb w
        · exact rb19 k a b h1 k9 va vb w
end Go.Proofs.YtfbhflpjhbemlaaGreat
