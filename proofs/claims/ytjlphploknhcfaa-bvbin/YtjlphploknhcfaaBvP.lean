/- The walk of the document's own moved: the bits of a value moved by so many places, up or down. -/
import Derived.Test.YtjlphploknhcfaaChecked
import Derived.Test.YtjlphploknhcfaaBvY
import Derived.Test.YtjlphploknhcfaaBvI
import Derived.Test.YtjlphploknhcfaaBvQ
import Derived.Deep.RegionHeld
namespace Go.Proofs.Ytjlphploknhcfaa
open Go.RowKit

/-- one bit more of the number of places -/
theorem place_step (m : Nat) (hm : 0 < m) (hle : m ≤ 64) (b : Int) (s nn : Nat) (fr : Bool) (hs : s < m) (h1 : nn = min (Bv.low m b / 2 ^ (s + 1)) m) (h2 : fr = decide (m ≤ Bv.low m b / 2 ^ (s + 1))) :
    (2 * nn + (if Bv.bt b s then 1 else 0) < m → 2 * nn + (if Bv.bt b s then 1 else 0) = min (Bv.low m b / 2 ^ s) m ∧ fr = decide (m ≤ Bv.low m b / 2 ^ s)) ∧
      (¬ 2 * nn + (if Bv.bt b s then 1 else 0) < m → m = min (Bv.low m b / 2 ^ s) m ∧ true = decide (m ≤ Bv.low m b / 2 ^ s)) := by
  have hh := half (Bv.low m b) s
  have hbit := Bv.low_bit m hle b s
  simp only [hs, decide_true, Bool.true_and] at hbit
  rw [hbit] at hh
  generalize (if Bv.bt b s then 1 else 0 : Nat) = x at *
  rw [hh]
  generalize Bv.low m b / 2 ^ (s + 1) = P at *
  refine ⟨fun h => ⟨by omega, ?_⟩, fun h => ⟨by omega, ?_⟩⟩
  · rw [h2, decide_eq_decide]; omega
  · symm; rw [decide_eq_true_eq]; omega

theorem made_row (m : Nat) : (madeCells (Value.int .i64 0).cells (m * 1)).toList = (Bv.lst (fun _ => false) m).map (Value.int .i64) := by
  have e : (Value.int IntKind.i64 0).cells = #[.int .i64 0] := rfl
  rw [e, toList_madeCells_one, Nat.mul_one]
  apply List.ext_getElem?
  intro i
  by_cases hi : i < m
  · simp [Bv.lst, hi, Bv.one]
  · simp [Bv.lst, hi]

theorem mix_step2 (f g : Nat → Bool) (m j : Nat) (u : Value) (hj : j < m) : (((Bv.lst (mix f g j) m).map (Value.int .i64)).set j u).set j (.int .i64 (Bv.one (g j))) = (Bv.lst (mix f g (j + 1)) m).map (Value.int .i64) := by
  rw [List.set_set]
  exact mix_step f g m j hj

set_option maxRecDepth 100000 in
set_option maxHeartbeats 8000000 in
theorem moved12 (k a b : Int) (h1 : 1 ≤ k) (h2 : k ≤ 9)  (w : World) :
    Calls Try.prog 36 #[.int .i64 12, .int .i64 k, .int .i64 a, .int .i64 b] w fun e w' => e = .returned (.int .i64 (Bv.val k (Bv.mvf 12 (Bv.wn k) a false (Bv.low (Bv.wn k) b)))) ∧ Below w.heap.size w w' := by
  obtain ⟨it, hit, hz, hsz, hby⟩ := info_parts info3
  have HK : Hid (1 ≤ k ∧ k ≤ 9) := ⟨h1, h2⟩
  have hm := wn_pos k
  have hle := Bv.wn_le k
  clear h1 h2
  go_enter Try.func36, Try.ntmps36
  go_wp2_with fail
  refine (rbits_any _ _ HK.out.1 HK.out.2 _).mono ?_
  rintro e w1 ⟨v, rfl, hx, hB⟩
  obtain ⟨g, cap, rfl, hg1, hg2, hx, _, _⟩ := row_cells hx hm
  go_wp2_with (first | (go_at_call 24; refine (rsigned_any _ _).mono ?_; rintro e w2 ⟨rfl, hw⟩; subst hw))
  refine (rbits_any _ _ HK.out.1 HK.out.2 _).mono ?_
  rintro e w2 ⟨v, rfl, hy, hB2⟩
  obtain ⟨h, cap2, rfl, hh1, hh2, hy, hyc, _⟩ := row_cells hy hm
  have hx2 := owns_below hx hB2
  have hB3 := hB.trans (hB2.mono hB.size)
  have hg3 : g < w2.heap.size := Nat.lt_of_lt_of_le hg2 hB2.size
  have HY : Hid (∀ j, j < Bv.wn k → w2.cell? ⟨h, j, none⟩ = some (.int .i64 (Bv.one (Bv.bt b j)))) := hyc
  have HW : Hid (w2.ownsRow w.heap.size 3 1 (.slice (some ⟨g, 0, none⟩) (Bv.wn k) cap) (Bv.wn k) ((Bv.lst (Bv.bt a) (Bv.wn k)).map (Value.int .i64)) ∧ Below w.heap.size w w2 ∧ g < w2.heap.size) := ⟨hx2, hB3, hg3⟩
  clear hx hB hB2 hg2 hh1 hh2 hy hyc hx2 hB3 hg3
  have HP : Hid (∀ (s nn : Nat) (fr : Bool), s < Bv.wn k → nn = min (Bv.low (Bv.wn k) b / 2 ^ (s + 1)) (Bv.wn k) → fr = decide (Bv.wn k ≤ Bv.low (Bv.wn k) b / 2 ^ (s + 1)) → _) := fun s nn fr => place_step (Bv.wn k) hm hle b s nn fr
  have H0 : Hid (0 = min (Bv.low (Bv.wn k) b / 2 ^ Bv.wn k) (Bv.wn k) ∧ false = decide (Bv.wn k ≤ Bv.low (Bv.wn k) b / 2 ^ Bv.wn k)) := by
    have hz : Bv.low (Bv.wn k) b / 2 ^ Bv.wn k = 0 := Nat.div_eq_of_lt (Bv.low_lt _ b)
    rw [hz]
    exact ⟨by omega, by symm; rw [decide_eq_false_iff_not]; omega⟩
  go_wp2
  go_loop [13, 14, 15] (fun far n i => ∃ t nn : Nat, ∃ fr : Bool, t ≤ Bv.wn k ∧ nn ≤ Bv.wn k ∧ i = .int .i64 ((t : Int) - 1) ∧ n = .int .i64 (nn : Int) ∧ far = .bool fr ∧ Hid (nn = min (Bv.low (Bv.wn k) b / 2 ^ t) (Bv.wn k) ∧ fr = decide (Bv.wn k ≤ Bv.low (Bv.wn k) b / 2 ^ t))) (fun _ _ i => (intOf i + 1).toNat)
  case atStart => exact ⟨Bv.wn k, 0, false, Nat.le_refl _, by omega, rfl, rfl, rfl, H0⟩
  case round =>
    clear H0
    obtain ⟨t, nn, fr, ht, hnn, rfl, rfl, rfl, HX⟩ := hrel
    cases t with
    | succ s =>
      have e : ((s + 1 : Nat) : Int) - 1 = (s : Int) := by omega
      rw [e]
      clear e
      have hcy := HY.out s (by omega)
      have HS : Hid _ := HP.out s nn fr (by omega) HX.out.1 HX.out.2
      clear HX HP
      cases hbit : Bv.bt b s with
      | false =>
        rw [hbit] at hcy
        have e0 : Bv.one false = 0 := rfl
        rw [e0] at hcy
        have HS2 := HS.out
        simp only [hbit, Bool.false_eq_true, if_false] at HS2
        have HT : Hid _ := HS2
        clear HS HS2 hbit e0
        by_cases hge : 2 * nn + 0 < Bv.wn k
        · go_wp2
          exact ⟨⟨s, 2 * nn, fr, by omega, by omega, rfl, by go_num, rfl, HT.out.1 hge⟩, by simp [intOf]⟩
        · go_wp2
          exact ⟨⟨s, Bv.wn k, true, by omega, by omega, rfl, rfl, rfl, HT.out.2 hge⟩, by simp [intOf]⟩
      | true =>
        rw [hbit] at hcy
        have e0 : Bv.one true = 1 := rfl
        rw [e0] at hcy
        have HS2 := HS.out
        simp only [hbit, if_true] at HS2
        have HT : Hid _ := HS2
        clear HS HS2 hbit e0
        by_cases hge : 2 * nn + 1 < Bv.wn k
        · go_wp2
          exact ⟨⟨s, 2 * nn + 1, fr, by omega, by omega, rfl, by go_num, rfl, HT.out.1 hge⟩, by simp [intOf]⟩
        · go_wp2
          exact ⟨⟨s, Bv.wn k, true, by omega, by omega, rfl, rfl, rfl, HT.out.2 hge⟩, by simp [intOf]⟩
    | zero =>
      have e : ((0 : Nat) : Int) - 1 = -1 := rfl
      rw [e]
      clear e HP HY
      go_wp2_with (first | (at_make; refine wpList_make_full _ rfl _ _ 50 rfl w.heap.size 3 it (.int .i64 0) 1 Try.underlying50 hit hz hsz _ _ _ _ (Bv.wn k) rfl rfl rfl rfl (by rw [hby]; omega) (by unfold maxLen; omega) (by have := HW.out.2.1.size; simp; omega) ?_; intro w3 ho hgrow))
      have hx := HW.out.1.kept hgrow (Or.inr (by simp [Value.ownBlock]))
      have hB := HW.out.2.1.grown hgrow HW.out.2.1.size (fun q hq => by cases hq)
      have hgo : g < w2.heap.size := HW.out.2.2
      have ho1 : w.heap.size ≤ w2.heap.size := HW.out.2.1.size
      rw [made_row, ← mix_zero (fun _ => false) (Bv.mvf 12 (Bv.wn k) a false (Bv.low (Bv.wn k) b))] at ho
      rw [Nat.pow_zero, Nat.div_one] at HX
      clear HW hgrow
      generalize w2.heap.size = o at *
      go_loopw [17] (fun i wr => ∃ t : Nat, t ≤ Bv.wn k ∧ i = .int .i64 t ∧ wr.ownsRow w.heap.size 3 1 (.slice (some ⟨o, 0, none⟩) (Bv.wn k) (Bv.wn k)) (Bv.wn k) ((Bv.lst (mix (fun _ => false) (Bv.mvf 12 (Bv.wn k) a false (Bv.low (Bv.wn k) b)) t) (Bv.wn k)).map (Value.int .i64)) ∧
          wr.ownsRow w.heap.size 3 1 (.slice (some ⟨g, 0, none⟩) (Bv.wn k) cap) (Bv.wn k) ((Bv.lst (Bv.bt a) (Bv.wn k)).map (Value.int .i64)) ∧ Below w.heap.size w wr) (fun i _ => Bv.wn k - (intOf i).toNat)
      case atStart => exact ⟨0, Nat.zero_le _, rfl, ho, hx, hB⟩
      case round =>
        clear ho hx hB
        obtain ⟨t, ht2, rfl, ho, hx, hB⟩ := hrel
        by_cases hlt : t < Bv.wn k
        · have hco : wr.cell? ⟨o, t, none⟩ = some (.int .i64 0) := by
            rw [ho.cellAt t (by omega), List.getElem?_map, Bv.lst_get _ _ _ hlt]
            simp [mix, Bv.one]
          have hfz := ho.frozenAt t
          cases fr with
          | true =>
            have hB1 : Bv.wn k ≤ Bv.low (Bv.wn k) b := by have := HX.out.2; simpa using this.symm
            have eF : (Bv.mvf 12 (Bv.wn k) a false (Bv.low (Bv.wn k) b)) t = false := by unfold Bv.mvf; rw [if_neg (by omega)]
            clear HX hB1
            have eF1 : Bv.one ((Bv.mvf 12 (Bv.wn k) a false (Bv.low (Bv.wn k) b)) t) = 0 := by rw [eF]; rfl
            have HE : Hid (Bv.one ((Bv.mvf 12 (Bv.wn k) a false (Bv.low (Bv.wn k) b)) t) = 0) := eF1
            clear eF eF1
            have hst := ho.stored t (.int .i64 0)
            have HO : Hid _ := hst.1
            have HX2 : Hid _ := hx.kept hst.2 (Or.inr (by simp [Value.ownBlock]; omega))
            have HB : Hid _ := hB.setCell (p := ⟨o, t, none⟩) ho1 (.int .i64 0)
            clear ho hx hB hst
            go_wp2
            have hm2 := mix_step (fun _ => false) (Bv.mvf 12 (Bv.wn k) a false (Bv.low (Bv.wn k) b)) _ t hlt
            rw [HE.out] at hm2
            have ho' := HO.out
            rw [hm2] at ho'
            exact ⟨⟨t + 1, by omega, by go_num, ho', HX2.out, HB.out⟩, by simp [intOf]; omega⟩
          | false =>
            have hB1 : Bv.low (Bv.wn k) b < Bv.wn k := by have := HX.out.2; simpa using this.symm
            have hnB : nn = Bv.low (Bv.wn k) b := by have := HX.out.1; omega
            clear HX
            by_cases hd : nn ≤ t
            · obtain ⟨d, hdd⟩ : ∃ d, d = t - nn := ⟨_, rfl⟩
              have eF : (Bv.mvf 12 (Bv.wn k) a false (Bv.low (Bv.wn k) b)) t = Bv.bt a d := by unfold Bv.mvf; rw [if_pos hB1, if_neg (by decide), if_pos (by omega), hdd, hnB]
              have efrom : (t : Int) - (nn : Int) = (d : Int) := by omega
              have hd1 : d < Bv.wn k := by omega
              clear hdd hnB hB1 hd
              have hcx : wr.cell? ⟨g, d, none⟩ = some (.int .i64 (Bv.one (Bv.bt a d))) := by
                rw [hx.cellAt d (by omega), List.getElem?_map, Bv.lst_get _ _ _ (by omega)]
                rfl
              have eF1 : Bv.one ((Bv.mvf 12 (Bv.wn k) a false (Bv.low (Bv.wn k) b)) t) = Bv.one (Bv.bt a d) := by rw [eF]
              have HE : Hid (Bv.one ((Bv.mvf 12 (Bv.wn k) a false (Bv.low (Bv.wn k) b)) t) = Bv.one (Bv.bt a d)) := eF1
              clear eF eF1
              have hst := ho.stored t (.int .i64 0)
              have hst2 := hst.1.stored t (.int .i64 (Bv.one (Bv.bt a d)))
              have HO : Hid _ := hst2.1
              have HX2 : Hid _ := (hx.kept hst.2 (Or.inr (by simp [Value.ownBlock]; omega))).kept hst2.2 (Or.inr (by simp [Value.ownBlock]; omega))
              have HB : Hid _ := (hB.setCell (p := ⟨o, t, none⟩) ho1 (.int .i64 0)).setCell (p := ⟨o, t, none⟩) ho1 (.int .i64 (Bv.one (Bv.bt a d)))
              have hcx2 : (wr.setCell ⟨o, t, none⟩ (.int .i64 0)).cell? ⟨g, d, none⟩ = some (.int .i64 (Bv.one (Bv.bt a d))) := by
                rw [World.cell?_setCell_far _ _ _ _ (by simp; omega)]; exact hcx
              clear ho hx hB hst hst2
              have hgo1 : ¬ g = o := by omega
              have hgo2 : ¬ o = g := by omega
              go_wp2
              have hm2 := mix_step2 (fun _ => false) (Bv.mvf 12 (Bv.wn k) a false (Bv.low (Bv.wn k) b)) _ t (.int .i64 0) hlt
              rw [HE.out] at hm2
              have ho' := HO.out
              rw [hm2] at ho'
              exact ⟨⟨t + 1, by omega, by go_num, ho', HX2.out, HB.out⟩, by simp [intOf]; omega⟩
            · have eF : (Bv.mvf 12 (Bv.wn k) a false (Bv.low (Bv.wn k) b)) t = false := by unfold Bv.mvf; rw [if_pos hB1, if_neg (by decide), if_neg (by omega)]
              clear hnB hB1
              have eF1 : Bv.one ((Bv.mvf 12 (Bv.wn k) a false (Bv.low (Bv.wn k) b)) t) = 0 := by rw [eF]; rfl
              have HE : Hid (Bv.one ((Bv.mvf 12 (Bv.wn k) a false (Bv.low (Bv.wn k) b)) t) = 0) := eF1
              clear eF eF1
              have hst := ho.stored t (.int .i64 0)
              have HO : Hid _ := hst.1
              have HX2 : Hid _ := hx.kept hst.2 (Or.inr (by simp [Value.ownBlock]; omega))
              have HB : Hid _ := hB.setCell (p := ⟨o, t, none⟩) ho1 (.int .i64 0)
              clear ho hx hB hst
              go_wp2
              have hm2 := mix_step (fun _ => false) (Bv.mvf 12 (Bv.wn k) a false (Bv.low (Bv.wn k) b)) _ t hlt
              rw [HE.out] at hm2
              have ho' := HO.out
              rw [hm2] at ho'
              exact ⟨⟨t + 1, by omega, by go_num, ho', HX2.out, HB.out⟩, by simp [intOf]; omega⟩
        · have et : t = Bv.wn k := by omega
          rw [et, mix_all] at ho
          clear et
          go_wp2_with fail
          refine (rfrom_any k (Bv.mvf 12 (Bv.wn k) a false (Bv.low (Bv.wn k) b)) HK.out.1 HK.out.2 o (Bv.wn k) _ ?_).mono ?_
          · intro i hi
            rw [ho.cellAt i (by omega), List.getElem?_map, Bv.lst_get _ _ _ hi]
            rfl
          rintro e w5 ⟨rfl, hw⟩
          subst hw
          go_wp2
          go_ret
          exact ⟨rfl, hB⟩

set_option maxRecDepth 100000 in
set_option maxHeartbeats 8000000 in
theorem moved13n (k a b : Int) (h1 : 1 ≤ k) (h2 : k ≤ 9) (h5 : k ≤ 5) (hk2 : 2 ≤ k) (hneg : a < 0) (w : World) :
    Calls Try.prog 36 #[.int .i64 13, .int .i64 k, .int .i64 a, .int .i64 b] w fun e w' => e = .returned (.int .i64 (Bv.val k (Bv.mvf 13 (Bv.wn k) a true (Bv.low (Bv.wn k) b)))) ∧ Below w.heap.size w w' := by
  obtain ⟨it, hit, hz, hsz, hby⟩ := info_parts info3
  have HK : Hid (1 ≤ k ∧ k ≤ 9) := ⟨h1, h2⟩
  have hm := wn_pos k
  have hle := Bv.wn_le k
  have hsg : decide (2 ≤ k ∧ k ≤ 5) = true := by rw [decide_eq_true_eq]; omega
  clear h5 hk2
  clear h1 h2
  go_enter Try.func36, Try.ntmps36
  go_wp2_with fail
  refine (rbits_any _ _ HK.out.1 HK.out.2 _).mono ?_
  rintro e w1 ⟨v, rfl, hx, hB⟩
  obtain ⟨g, cap, rfl, hg1, hg2, hx, _, _⟩ := row_cells hx hm
  go_wp2_with (first | (go_at_call 24; refine (rsigned_any _ _).mono ?_; rintro e w2 ⟨rfl, hw⟩; subst hw))
  refine (rbits_any _ _ HK.out.1 HK.out.2 _).mono ?_
  rintro e w2 ⟨v, rfl, hy, hB2⟩
  obtain ⟨h, cap2, rfl, hh1, hh2, hy, hyc, _⟩ := row_cells hy hm
  have hx2 := owns_below hx hB2
  have hB3 := hB.trans (hB2.mono hB.size)
  have hg3 : g < w2.heap.size := Nat.lt_of_lt_of_le hg2 hB2.size
  have HY : Hid (∀ j, j < Bv.wn k → w2.cell? ⟨h, j, none⟩ = some (.int .i64 (Bv.one (Bv.bt b j)))) := hyc
  have HW : Hid (w2.ownsRow w.heap.size 3 1 (.slice (some ⟨g, 0, none⟩) (Bv.wn k) cap) (Bv.wn k) ((Bv.lst (Bv.bt a) (Bv.wn k)).map (Value.int .i64)) ∧ Below w.heap.size w w2 ∧ g < w2.heap.size) := ⟨hx2, hB3, hg3⟩
  clear hx hB hB2 hg2 hh1 hh2 hy hyc hx2 hB3 hg3
  have HP : Hid (∀ (s nn : Nat) (fr : Bool), s < Bv.wn k → nn = min (Bv.low (Bv.wn k) b / 2 ^ (s + 1)) (Bv.wn k) → fr = decide (Bv.wn k ≤ Bv.low (Bv.wn k) b / 2 ^ (s + 1)) → _) := fun s nn fr => place_step (Bv.wn k) hm hle b s nn fr
  have H0 : Hid (0 = min (Bv.low (Bv.wn k) b / 2 ^ Bv.wn k) (Bv.wn k) ∧ false = decide (Bv.wn k ≤ Bv.low (Bv.wn k) b / 2 ^ Bv.wn k)) := by
    have hz : Bv.low (Bv.wn k) b / 2 ^ Bv.wn k = 0 := Nat.div_eq_of_lt (Bv.low_lt _ b)
    rw [hz]
    exact ⟨by omega, by symm; rw [decide_eq_false_iff_not]; omega⟩
  go_wp2
  go_loop [13, 14, 15] (fun far n i => ∃ t nn : Nat, ∃ fr : Bool, t ≤ Bv.wn k ∧ nn ≤ Bv.wn k ∧ i = .int .i64 ((t : Int) - 1) ∧ n = .int .i64 (nn : Int) ∧ far = .bool fr ∧ Hid (nn = min (Bv.low (Bv.wn k) b / 2 ^ t) (Bv.wn k) ∧ fr = decide (Bv.wn k ≤ Bv.low (Bv.wn k) b / 2 ^ t))) (fun _ _ i => (intOf i + 1).toNat)
  case atStart => exact ⟨Bv.wn k, 0, false, Nat.le_refl _, by omega, rfl, rfl, rfl, H0⟩
  case round =>
    clear H0
    obtain ⟨t, nn, fr, ht, hnn, rfl, rfl, rfl, HX⟩ := hrel
    cases t with
    | succ s =>
      have e : ((s + 1 : Nat) : Int) - 1 = (s : Int) := by omega
      rw [e]
      clear e
      have hcy := HY.out s (by omega)
      have HS : Hid _ := HP.out s nn fr (by omega) HX.out.1 HX.out.2
      clear HX HP
      cases hbit : Bv.bt b s with
      | false =>
        rw [hbit] at hcy
        have e0 : Bv.one false = 0 := rfl
        rw [e0] at hcy
        have HS2 := HS.out
        simp only [hbit, Bool.false_eq_true, if_false] at HS2
        have HT : Hid _ := HS2
        clear HS HS2 hbit e0
        by_cases hge : 2 * nn + 0 < Bv.wn k
        · go_wp2
          exact ⟨⟨s, 2 * nn, fr, by omega, by omega, rfl, by go_num, rfl, HT.out.1 hge⟩, by simp [intOf]⟩
        · go_wp2
          exact ⟨⟨s, Bv.wn k, true, by omega, by omega, rfl, rfl, rfl, HT.out.2 hge⟩, by simp [intOf]⟩
      | true =>
        rw [hbit] at hcy
        have e0 : Bv.one true = 1 := rfl
        rw [e0] at hcy
        have HS2 := HS.out
        simp only [hbit, if_true] at HS2
        have HT : Hid _ := HS2
        clear HS HS2 hbit e0
        by_cases hge : 2 * nn + 1 < Bv.wn k
        · go_wp2
          exact ⟨⟨s, 2 * nn + 1, fr, by omega, by omega, rfl, by go_num, rfl, HT.out.1 hge⟩, by simp [intOf]⟩
        · go_wp2
          exact ⟨⟨s, Bv.wn k, true, by omega, by omega, rfl, rfl, rfl, HT.out.2 hge⟩, by simp [intOf]⟩
    | zero =>
      have e : ((0 : Nat) : Int) - 1 = -1 := rfl
      rw [e]
      clear e HP HY
      go_wp2_with (first | (at_make; refine wpList_make_full _ rfl _ _ 50 rfl w.heap.size 3 it (.int .i64 0) 1 Try.underlying50 hit hz hsz _ _ _ _ (Bv.wn k) rfl rfl rfl rfl (by rw [hby]; omega) (by unfold maxLen; omega) (by have := HW.out.2.1.size; simp; omega) ?_; intro w3 ho hgrow))
      have hx := HW.out.1.kept hgrow (Or.inr (by simp [Value.ownBlock]))
      have hB := HW.out.2.1.grown hgrow HW.out.2.1.size (fun q hq => by cases hq)
      have hgo : g < w2.heap.size := HW.out.2.2
      have ho1 : w.heap.size ≤ w2.heap.size := HW.out.2.1.size
      rw [made_row, ← mix_zero (fun _ => false) (Bv.mvf 13 (Bv.wn k) a true (Bv.low (Bv.wn k) b))] at ho
      rw [Nat.pow_zero, Nat.div_one] at HX
      clear HW hgrow
      generalize w2.heap.size = o at *
      go_loopw [17] (fun i wr => ∃ t : Nat, t ≤ Bv.wn k ∧ i = .int .i64 t ∧ wr.ownsRow w.heap.size 3 1 (.slice (some ⟨o, 0, none⟩) (Bv.wn k) (Bv.wn k)) (Bv.wn k) ((Bv.lst (mix (fun _ => false) (Bv.mvf 13 (Bv.wn k) a true (Bv.low (Bv.wn k) b)) t) (Bv.wn k)).map (Value.int .i64)) ∧
          wr.ownsRow w.heap.size 3 1 (.slice (some ⟨g, 0, none⟩) (Bv.wn k) cap) (Bv.wn k) ((Bv.lst (Bv.bt a) (Bv.wn k)).map (Value.int .i64)) ∧ Below w.heap.size w wr) (fun i _ => Bv.wn k - (intOf i).toNat)
      case atStart => exact ⟨0, Nat.zero_le _, rfl, ho, hx, hB⟩
      case round =>
        clear ho hx hB
        obtain ⟨t, ht2, rfl, ho, hx, hB⟩ := hrel
        by_cases hlt : t < Bv.wn k
        · have hco : wr.cell? ⟨o, t, none⟩ = some (.int .i64 0) := by
            rw [ho.cellAt t (by omega), List.getElem?_map, Bv.lst_get _ _ _ hlt]
            simp [mix, Bv.one]
          have hfz := ho.frozenAt t
          cases fr with
          | true =>
            have hB1 : Bv.wn k ≤ Bv.low (Bv.wn k) b := by have := HX.out.2; simpa using this.symm
            have eF : (Bv.mvf 13 (Bv.wn k) a true (Bv.low (Bv.wn k) b)) t = true := by unfold Bv.mvf; rw [if_neg (by omega)]
            clear HX hB1
            have eF1 : Bv.one ((Bv.mvf 13 (Bv.wn k) a true (Bv.low (Bv.wn k) b)) t) = 1 := by rw [eF]; rfl
            have HE : Hid (Bv.one ((Bv.mvf 13 (Bv.wn k) a true (Bv.low (Bv.wn k) b)) t) = 1) := eF1
            clear eF eF1
            have hst := ho.stored t (.int .i64 1)
            have HO : Hid _ := hst.1
            have HX2 : Hid _ := hx.kept hst.2 (Or.inr (by simp [Value.ownBlock]; omega))
            have HB : Hid _ := hB.setCell (p := ⟨o, t, none⟩) ho1 (.int .i64 1)
            clear ho hx hB hst
            go_wp2
            have hm2 := mix_step (fun _ => false) (Bv.mvf 13 (Bv.wn k) a true (Bv.low (Bv.wn k) b)) _ t hlt
            rw [HE.out] at hm2
            have ho' := HO.out
            rw [hm2] at ho'
            exact ⟨⟨t + 1, by omega, by go_num, ho', HX2.out, HB.out⟩, by simp [intOf]; omega⟩
          | false =>
            have hB1 : Bv.low (Bv.wn k) b < Bv.wn k := by have := HX.out.2; simpa using this.symm
            have hnB : nn = Bv.low (Bv.wn k) b := by have := HX.out.1; omega
            clear HX
            by_cases hd : t + nn < Bv.wn k
            · obtain ⟨d, hdd⟩ : ∃ d, d = t + nn := ⟨_, rfl⟩
              have eF : (Bv.mvf 13 (Bv.wn k) a true (Bv.low (Bv.wn k) b)) t = Bv.bt a d := by unfold Bv.mvf; rw [if_pos hB1, if_pos rfl, if_pos (by omega), hdd, hnB]
              have efrom : (t : Int) + (nn : Int) = (d : Int) := by omega
              have hd1 : d < Bv.wn k := by omega
              clear hdd hnB hB1 hd
              have hcx : wr.cell? ⟨g, d, none⟩ = some (.int .i64 (Bv.one (Bv.bt a d))) := by
                rw [hx.cellAt d (by omega), List.getElem?_map, Bv.lst_get _ _ _ (by omega)]
                rfl
              have eF1 : Bv.one ((Bv.mvf 13 (Bv.wn k) a true (Bv.low (Bv.wn k) b)) t) = Bv.one (Bv.bt a d) := by rw [eF]
              have HE : Hid (Bv.one ((Bv.mvf 13 (Bv.wn k) a true (Bv.low (Bv.wn k) b)) t) = Bv.one (Bv.bt a d)) := eF1
              clear eF eF1
              have hst := ho.stored t (.int .i64 1)
              have hst2 := hst.1.stored t (.int .i64 (Bv.one (Bv.bt a d)))
              have HO : Hid _ := hst2.1
              have HX2 : Hid _ := (hx.kept hst.2 (Or.inr (by simp [Value.ownBlock]; omega))).kept hst2.2 (Or.inr (by simp [Value.ownBlock]; omega))
              have HB : Hid _ := (hB.setCell (p := ⟨o, t, none⟩) ho1 (.int .i64 1)).setCell (p := ⟨o, t, none⟩) ho1 (.int .i64 (Bv.one (Bv.bt a d)))
              have hcx2 : (wr.setCell ⟨o, t, none⟩ (.int .i64 1)).cell? ⟨g, d, none⟩ = some (.int .i64 (Bv.one (Bv.bt a d))) := by
                rw [World.cell?_setCell_far _ _ _ _ (by simp; omega)]; exact hcx
              clear ho hx hB hst hst2
              have hgo1 : ¬ g = o := by omega
              have hgo2 : ¬ o = g := by omega
              go_wp2
              have hm2 := mix_step2 (fun _ => false) (Bv.mvf 13 (Bv.wn k) a true (Bv.low (Bv.wn k) b)) _ t (.int .i64 1) hlt
              rw [HE.out] at hm2
              have ho' := HO.out
              rw [hm2] at ho'
              exact ⟨⟨t + 1, by omega, by go_num, ho', HX2.out, HB.out⟩, by simp [intOf]; omega⟩
            · have eF : (Bv.mvf 13 (Bv.wn k) a true (Bv.low (Bv.wn k) b)) t = true := by unfold Bv.mvf; rw [if_pos hB1, if_pos rfl, if_neg (by omega)]
              clear hnB hB1
              have eF1 : Bv.one ((Bv.mvf 13 (Bv.wn k) a true (Bv.low (Bv.wn k) b)) t) = 1 := by rw [eF]; rfl
              have HE : Hid (Bv.one ((Bv.mvf 13 (Bv.wn k) a true (Bv.low (Bv.wn k) b)) t) = 1) := eF1
              clear eF eF1
              have hst := ho.stored t (.int .i64 1)
              have HO : Hid _ := hst.1
              have HX2 : Hid _ := hx.kept hst.2 (Or.inr (by simp [Value.ownBlock]; omega))
              have HB : Hid _ := hB.setCell (p := ⟨o, t, none⟩) ho1 (.int .i64 1)
              clear ho hx hB hst
              go_wp2
              have hm2 := mix_step (fun _ => false) (Bv.mvf 13 (Bv.wn k) a true (Bv.low (Bv.wn k) b)) _ t hlt
              rw [HE.out] at hm2
              have ho' := HO.out
              rw [hm2] at ho'
              exact ⟨⟨t + 1, by omega, by go_num, ho', HX2.out, HB.out⟩, by simp [intOf]; omega⟩
        · have et : t = Bv.wn k := by omega
          rw [et, mix_all] at ho
          clear et
          go_wp2_with fail
          refine (rfrom_any k (Bv.mvf 13 (Bv.wn k) a true (Bv.low (Bv.wn k) b)) HK.out.1 HK.out.2 o (Bv.wn k) _ ?_).mono ?_
          · intro i hi
            rw [ho.cellAt i (by omega), List.getElem?_map, Bv.lst_get _ _ _ hi]
            rfl
          rintro e w5 ⟨rfl, hw⟩
          subst hw
          go_wp2
          go_ret
          exact ⟨rfl, hB⟩

set_option maxRecDepth 100000 in
set_option maxHeartbeats 8000000 in
theorem moved13p (k a b : Int) (h1 : 1 ≤ k) (h2 : k ≤ 9) (h5 : k ≤ 5) (hk2 : 2 ≤ k) (hneg : ¬ a < 0) (w : World) :
    Calls Try.prog 36 #[.int .i64 13, .int .i64 k, .int .i64 a, .int .i64 b] w fun e w' => e = .returned (.int .i64 (Bv.val k (Bv.mvf 13 (Bv.wn k) a false (Bv.low (Bv.wn k) b)))) ∧ Below w.heap.size w w' := by
  obtain ⟨it, hit, hz, hsz, hby⟩ := info_parts info3
  have HK : Hid (1 ≤ k ∧ k ≤ 9) := ⟨h1, h2⟩
  have hm := wn_pos k
  have hle := Bv.wn_le k
  have hsg : decide (2 ≤ k ∧ k ≤ 5) = true := by rw [decide_eq_true_eq]; omega
  clear h5 hk2
  clear h1 h2
  go_enter Try.func36, Try.ntmps36
  go_wp2_with fail
  refine (rbits_any _ _ HK.out.1 HK.out.2 _).mono ?_
  rintro e w1 ⟨v, rfl, hx, hB⟩
  obtain ⟨g, cap, rfl, hg1, hg2, hx, _, _⟩ := row_cells hx hm
  go_wp2_with (first | (go_at_call 24; refine (rsigned_any _ _).mono ?_; rintro e w2 ⟨rfl, hw⟩; subst hw))
  refine (rbits_any _ _ HK.out.1 HK.out.2 _).mono ?_
  rintro e w2 ⟨v, rfl, hy, hB2⟩
  obtain ⟨h, cap2, rfl, hh1, hh2, hy, hyc, _⟩ := row_cells hy hm
  have hx2 := owns_below hx hB2
  have hB3 := hB.trans (hB2.mono hB.size)
  have hg3 : g < w2.heap.size := Nat.lt_of_lt_of_le hg2 hB2.size
  have HY : Hid (∀ j, j < Bv.wn k → w2.cell? ⟨h, j, none⟩ = some (.int .i64 (Bv.one (Bv.bt b j)))) := hyc
  have HW : Hid (w2.ownsRow w.heap.size 3 1 (.slice (some ⟨g, 0, none⟩) (Bv.wn k) cap) (Bv.wn k) ((Bv.lst (Bv.bt a) (Bv.wn k)).map (Value.int .i64)) ∧ Below w.heap.size w w2 ∧ g < w2.heap.size) := ⟨hx2, hB3, hg3⟩
  clear hx hB hB2 hg2 hh1 hh2 hy hyc hx2 hB3 hg3
  have HP : Hid (∀ (s nn : Nat) (fr : Bool), s < Bv.wn k → nn = min (Bv.low (Bv.wn k) b / 2 ^ (s + 1)) (Bv.wn k) → fr = decide (Bv.wn k ≤ Bv.low (Bv.wn k) b / 2 ^ (s + 1)) → _) := fun s nn fr => place_step (Bv.wn k) hm hle b s nn fr
  have H0 : Hid (0 = min (Bv.low (Bv.wn k) b / 2 ^ Bv.wn k) (Bv.wn k) ∧ false = decide (Bv.wn k ≤ Bv.low (Bv.wn k) b / 2 ^ Bv.wn k)) := by
    have hz : Bv.low (Bv.wn k) b / 2 ^ Bv.wn k = 0 := Nat.div_eq_of_lt (Bv.low_lt _ b)
    rw [hz]
    exact ⟨by omega, by symm; rw [decide_eq_false_iff_not]; omega⟩
  go_wp2
  go_loop [13, 14, 15] (fun far n i => ∃ t nn : Nat, ∃ fr : Bool, t ≤ Bv.wn k ∧ nn ≤ Bv.wn k ∧ i = .int .i64 ((t : Int) - 1) ∧ n = .int .i64 (nn : Int) ∧ far = .bool fr ∧ Hid (nn = min (Bv.low (Bv.wn k) b / 2 ^ t) (Bv.wn k) ∧ fr = decide (Bv.wn k ≤ Bv.low (Bv.wn k) b / 2 ^ t))) (fun _ _ i => (intOf i + 1).toNat)
  case atStart => exact ⟨Bv.wn k, 0, false, Nat.le_refl _, by omega, rfl, rfl, rfl, H0⟩
  case round =>
    clear H0
    obtain ⟨t, nn, fr, ht, hnn, rfl, rfl, rfl, HX⟩ := hrel
    cases t with
    | succ s =>
      have e : ((s + 1 : Nat) : Int) - 1 = (s : Int) := by omega
      rw [e]
      clear e
      have hcy := HY.out s (by omega)
      have HS : Hid _ := HP.out s nn fr (by omega) HX.out.1 HX.out.2
      clear HX HP
      cases hbit : Bv.bt b s with
      | false =>
        rw [hbit] at hcy
        have e0 : Bv.one false = 0 := rfl
        rw [e0] at hcy
        have HS2 := HS.out
        simp only [hbit, Bool.false_eq_true, if_false] at HS2
        have HT : Hid _ := HS2
        clear HS HS2 hbit e0
        by_cases hge : 2 * nn + 0 < Bv.wn k
        · go_wp2
          exact ⟨⟨s, 2 * nn, fr, by omega, by omega, rfl, by go_num, rfl, HT.out.1 hge⟩, by simp [intOf]⟩
        · go_wp2
          exact ⟨⟨s, Bv.wn k, true, by omega, by omega, rfl, rfl, rfl, HT.out.2 hge⟩, by simp [intOf]⟩
      | true =>
        rw [hbit] at hcy
        have e0 : Bv.one true = 1 := rfl
        rw [e0] at hcy
        have HS2 := HS.out
        simp only [hbit, if_true] at HS2
        have HT : Hid _ := HS2
        clear HS HS2 hbit e0
        by_cases hge : 2 * nn + 1 < Bv.wn k
        · go_wp2
          exact ⟨⟨s, 2 * nn + 1, fr, by omega, by omega, rfl, by go_num, rfl, HT.out.1 hge⟩, by simp [intOf]⟩
        · go_wp2
          exact ⟨⟨s, Bv.wn k, true, by omega, by omega, rfl, rfl, rfl, HT.out.2 hge⟩, by simp [intOf]⟩
    | zero =>
      have e : ((0 : Nat) : Int) - 1 = -1 := rfl
      rw [e]
      clear e HP HY
      go_wp2_with (first | (at_make; refine wpList_make_full _ rfl _ _ 50 rfl w.heap.size 3 it (.int .i64 0) 1 Try.underlying50 hit hz hsz _ _ _ _ (Bv.wn k) rfl rfl rfl rfl (by rw [hby]; omega) (by unfold maxLen; omega) (by have := HW.out.2.1.size; simp; omega) ?_; intro w3 ho hgrow))
      have hx := HW.out.1.kept hgrow (Or.inr (by simp [Value.ownBlock]))
      have hB := HW.out.2.1.grown hgrow HW.out.2.1.size (fun q hq => by cases hq)
      have hgo : g < w2.heap.size := HW.out.2.2
      have ho1 : w.heap.size ≤ w2.heap.size := HW.out.2.1.size
      rw [made_row, ← mix_zero (fun _ => false) (Bv.mvf 13 (Bv.wn k) a false (Bv.low (Bv.wn k) b))] at ho
      rw [Nat.pow_zero, Nat.div_one] at HX
      clear HW hgrow
      generalize w2.heap.size = o at *
      go_loopw [17] (fun i wr => ∃ t : Nat, t ≤ Bv.wn k ∧ i = .int .i64 t ∧ wr.ownsRow w.heap.size 3 1 (.slice (some ⟨o, 0, none⟩) (Bv.wn k) (Bv.wn k)) (Bv.wn k) ((Bv.lst (mix (fun _ => false) (Bv.mvf 13 (Bv.wn k) a false (Bv.low (Bv.wn k) b)) t) (Bv.wn k)).map (Value.int .i64)) ∧
          wr.ownsRow w.heap.size 3 1 (.slice (some ⟨g, 0, none⟩) (Bv.wn k) cap) (Bv.wn k) ((Bv.lst (Bv.bt a) (Bv.wn k)).map (Value.int .i64)) ∧ Below w.heap.size w wr) (fun i _ => Bv.wn k - (intOf i).toNat)
      case atStart => exact ⟨0, Nat.zero_le _, rfl, ho, hx, hB⟩
      case round =>
        clear ho hx hB
        obtain ⟨t, ht2, rfl, ho, hx, hB⟩ := hrel
        by_cases hlt : t < Bv.wn k
        · have hco : wr.cell? ⟨o, t, none⟩ = some (.int .i64 0) := by
            rw [ho.cellAt t (by omega), List.getElem?_map, Bv.lst_get _ _ _ hlt]
            simp [mix, Bv.one]
          have hfz := ho.frozenAt t
          cases fr with
          | true =>
            have hB1 : Bv.wn k ≤ Bv.low (Bv.wn k) b := by have := HX.out.2; simpa using this.symm
            have eF : (Bv.mvf 13 (Bv.wn k) a false (Bv.low (Bv.wn k) b)) t = false := by unfold Bv.mvf; rw [if_neg (by omega)]
            clear HX hB1
            have eF1 : Bv.one ((Bv.mvf 13 (Bv.wn k) a false (Bv.low (Bv.wn k) b)) t) = 0 := by rw [eF]; rfl
            have HE : Hid (Bv.one ((Bv.mvf 13 (Bv.wn k) a false (Bv.low (Bv.wn k) b)) t) = 0) := eF1
            clear eF eF1
            have hst := ho.stored t (.int .i64 0)
            have HO : Hid _ := hst.1
            have HX2 : Hid _ := hx.kept hst.2 (Or.inr (by simp [Value.ownBlock]; omega))
            have HB : Hid _ := hB.setCell (p := ⟨o, t, none⟩) ho1 (.int .i64 0)
            clear ho hx hB hst
            go_wp2
            have hm2 := mix_step (fun _ => false) (Bv.mvf 13 (Bv.wn k) a false (Bv.low (Bv.wn k) b)) _ t hlt
            rw [HE.out] at hm2
            have ho' := HO.out
            rw [hm2] at ho'
            exact ⟨⟨t + 1, by omega, by go_num, ho', HX2.out, HB.out⟩, by simp [intOf]; omega⟩
          | false =>
            have hB1 : Bv.low (Bv.wn k) b < Bv.wn k := by have := HX.out.2; simpa using this.symm
            have hnB : nn = Bv.low (Bv.wn k) b := by have := HX.out.1; omega
            clear HX
            by_cases hd : t + nn < Bv.wn k
            · obtain ⟨d, hdd⟩ : ∃ d, d = t + nn := ⟨_, rfl⟩
              have eF : (Bv.mvf 13 (Bv.wn k) a false (Bv.low (Bv.wn k) b)) t = Bv.bt a d := by unfold Bv.mvf; rw [if_pos hB1, if_pos rfl, if_pos (by omega), hdd, hnB]
              have efrom : (t : Int) + (nn : Int) = (d : Int) := by omega
              have hd1 : d < Bv.wn k := by omega
              clear hdd hnB hB1 hd
              have hcx : wr.cell? ⟨g, d, none⟩ = some (.int .i64 (Bv.one (Bv.bt a d))) := by
                rw [hx.cellAt d (by omega), List.getElem?_map, Bv.lst_get _ _ _ (by omega)]
                rfl
              have eF1 : Bv.one ((Bv.mvf 13 (Bv.wn k) a false (Bv.low (Bv.wn k) b)) t) = Bv.one (Bv.bt a d) := by rw [eF]
              have HE : Hid (Bv.one ((Bv.mvf 13 (Bv.wn k) a false (Bv.low (Bv.wn k) b)) t) = Bv.one (Bv.bt a d)) := eF1
              clear eF eF1
              have hst := ho.stored t (.int .i64 0)
              have hst2 := hst.1.stored t (.int .i64 (Bv.one (Bv.bt a d)))
              have HO : Hid _ := hst2.1
              have HX2 : Hid _ := (hx.kept hst.2 (Or.inr (by simp [Value.ownBlock]; omega))).kept hst2.2 (Or.inr (by simp [Value.ownBlock]; omega))
              have HB : Hid _ := (hB.setCell (p := ⟨o, t, none⟩) ho1 (.int .i64 0)).setCell (p := ⟨o, t, none⟩) ho1 (.int .i64 (Bv.one (Bv.bt a d)))
              have hcx2 : (wr.setCell ⟨o, t, none⟩ (.int .i64 0)).cell? ⟨g, d, none⟩ = some (.int .i64 (Bv.one (Bv.bt a d))) := by
                rw [World.cell?_setCell_far _ _ _ _ (by simp; omega)]; exact hcx
              clear ho hx hB hst hst2
              have hgo1 : ¬ g = o := by omega
              have hgo2 : ¬ o = g := by omega
              go_wp2
              have hm2 := mix_step2 (fun _ => false) (Bv.mvf 13 (Bv.wn k) a false (Bv.low (Bv.wn k) b)) _ t (.int .i64 0) hlt
              rw [HE.out] at hm2
              have ho' := HO.out
              rw [hm2] at ho'
              exact ⟨⟨t + 1, by omega, by go_num, ho', HX2.out, HB.out⟩, by simp [intOf]; omega⟩
            · have eF : (Bv.mvf 13 (Bv.wn k) a false (Bv.low (Bv.wn k) b)) t = false := by unfold Bv.mvf; rw [if_pos hB1, if_pos rfl, if_neg (by omega)]
              clear hnB hB1
              have eF1 : Bv.one ((Bv.mvf 13 (Bv.wn k) a false (Bv.low (Bv.wn k) b)) t) = 0 := by rw [eF]; rfl
              have HE : Hid (Bv.one ((Bv.mvf 13 (Bv.wn k) a false (Bv.low (Bv.wn k) b)) t) = 0) := eF1
              clear eF eF1
              have hst := ho.stored t (.int .i64 0)
              have HO : Hid _ := hst.1
              have HX2 : Hid _ := hx.kept hst.2 (Or.inr (by simp [Value.ownBlock]; omega))
              have HB : Hid _ := hB.setCell (p := ⟨o, t, none⟩) ho1 (.int .i64 0)
              clear ho hx hB hst
              go_wp2
              have hm2 := mix_step (fun _ => false) (Bv.mvf 13 (Bv.wn k) a false (Bv.low (Bv.wn k) b)) _ t hlt
              rw [HE.out] at hm2
              have ho' := HO.out
              rw [hm2] at ho'
              exact ⟨⟨t + 1, by omega, by go_num, ho', HX2.out, HB.out⟩, by simp [intOf]; omega⟩
        · have et : t = Bv.wn k := by omega
          rw [et, mix_all] at ho
          clear et
          go_wp2_with fail
          refine (rfrom_any k (Bv.mvf 13 (Bv.wn k) a false (Bv.low (Bv.wn k) b)) HK.out.1 HK.out.2 o (Bv.wn k) _ ?_).mono ?_
          · intro i hi
            rw [ho.cellAt i (by omega), List.getElem?_map, Bv.lst_get _ _ _ hi]
            rfl
          rintro e w5 ⟨rfl, hw⟩
          subst hw
          go_wp2
          go_ret
          exact ⟨rfl, hB⟩

set_option maxRecDepth 100000 in
set_option maxHeartbeats 8000000 in
theorem moved13u (k a b : Int) (h1 : 1 ≤ k) (h2 : k ≤ 9) (h5 : 6 ≤ k) (w : World) :
    Calls Try.prog 36 #[.int .i64 13, .int .i64 k, .int .i64 a, .int .i64 b] w fun e w' => e = .returned (.int .i64 (Bv.val k (Bv.mvf 13 (Bv.wn k) a false (Bv.low (Bv.wn k) b)))) ∧ Below w.heap.size w w' := by
  obtain ⟨it, hit, hz, hsz, hby⟩ := info_parts info3
  have HK : Hid (1 ≤ k ∧ k ≤ 9) := ⟨h1, h2⟩
  have hm := wn_pos k
  have hle := Bv.wn_le k
  have hsg : decide (2 ≤ k ∧ k ≤ 5) = false := by rw [decide_eq_false_iff_not]; omega
  clear h5
  clear h1 h2
  go_enter Try.func36, Try.ntmps36
  go_wp2_with fail
  refine (rbits_any _ _ HK.out.1 HK.out.2 _).mono ?_
  rintro e w1 ⟨v, rfl, hx, hB⟩
  obtain ⟨g, cap, rfl, hg1, hg2, hx, _, _⟩ := row_cells hx hm
  go_wp2_with (first | (go_at_call 24; refine (rsigned_any _ _).mono ?_; rintro e w2 ⟨rfl, hw⟩; subst hw))
  refine (rbits_any _ _ HK.out.1 HK.out.2 _).mono ?_
  rintro e w2 ⟨v, rfl, hy, hB2⟩
  obtain ⟨h, cap2, rfl, hh1, hh2, hy, hyc, _⟩ := row_cells hy hm
  have hx2 := owns_below hx hB2
  have hB3 := hB.trans (hB2.mono hB.size)
  have hg3 : g < w2.heap.size := Nat.lt_of_lt_of_le hg2 hB2.size
  have HY : Hid (∀ j, j < Bv.wn k → w2.cell? ⟨h, j, none⟩ = some (.int .i64 (Bv.one (Bv.bt b j)))) := hyc
  have HW : Hid (w2.ownsRow w.heap.size 3 1 (.slice (some ⟨g, 0, none⟩) (Bv.wn k) cap) (Bv.wn k) ((Bv.lst (Bv.bt a) (Bv.wn k)).map (Value.int .i64)) ∧ Below w.heap.size w w2 ∧ g < w2.heap.size) := ⟨hx2, hB3, hg3⟩
  clear hx hB hB2 hg2 hh1 hh2 hy hyc hx2 hB3 hg3
  have HP : Hid (∀ (s nn : Nat) (fr : Bool), s < Bv.wn k → nn = min (Bv.low (Bv.wn k) b / 2 ^ (s + 1)) (Bv.wn k) → fr = decide (Bv.wn k ≤ Bv.low (Bv.wn k) b / 2 ^ (s + 1)) → _) := fun s nn fr => place_step (Bv.wn k) hm hle b s nn fr
  have H0 : Hid (0 = min (Bv.low (Bv.wn k) b / 2 ^ Bv.wn k) (Bv.wn k) ∧ false = decide (Bv.wn k ≤ Bv.low (Bv.wn k) b / 2 ^ Bv.wn k)) := by
    have hz : Bv.low (Bv.wn k) b / 2 ^ Bv.wn k = 0 := Nat.div_eq_of_lt (Bv.low_lt _ b)
    rw [hz]
    exact ⟨by omega, by symm; rw [decide_eq_false_iff_not]; omega⟩
  go_wp2
  go_loop [13, 14, 15] (fun far n i => ∃ t nn : Nat, ∃ fr : Bool, t ≤ Bv.wn k ∧ nn ≤ Bv.wn k ∧ i = .int .i64 ((t : Int) - 1) ∧ n = .int .i64 (nn : Int) ∧ far = .bool fr ∧ Hid (nn = min (Bv.low (Bv.wn k) b / 2 ^ t) (Bv.wn k) ∧ fr = decide (Bv.wn k ≤ Bv.low (Bv.wn k) b / 2 ^ t))) (fun _ _ i => (intOf i + 1).toNat)
  case atStart => exact ⟨Bv.wn k, 0, false, Nat.le_refl _, by omega, rfl, rfl, rfl, H0⟩
  case round =>
    clear H0
    obtain ⟨t, nn, fr, ht, hnn, rfl, rfl, rfl, HX⟩ := hrel
    cases t with
    | succ s =>
      have e : ((s + 1 : Nat) : Int) - 1 = (s : Int) := by omega
      rw [e]
      clear e
      have hcy := HY.out s (by omega)
      have HS : Hid _ := HP.out s nn fr (by omega) HX.out.1 HX.out.2
      clear HX HP
      cases hbit : Bv.bt b s with
      | false =>
        rw [hbit] at hcy
        have e0 : Bv.one false = 0 := rfl
        rw [e0] at hcy
        have HS2 := HS.out
        simp only [hbit, Bool.false_eq_true, if_false] at HS2
        have HT : Hid _ := HS2
        clear HS HS2 hbit e0
        by_cases hge : 2 * nn + 0 < Bv.wn k
        · go_wp2
          exact ⟨⟨s, 2 * nn, fr, by omega, by omega, rfl, by go_num, rfl, HT.out.1 hge⟩, by simp [intOf]⟩
        · go_wp2
          exact ⟨⟨s, Bv.wn k, true, by omega, by omega, rfl, rfl, rfl, HT.out.2 hge⟩, by simp [intOf]⟩
      | true =>
        rw [hbit] at hcy
        have e0 : Bv.one true = 1 := rfl
        rw [e0] at hcy
        have HS2 := HS.out
        simp only [hbit, if_true] at HS2
        have HT : Hid _ := HS2
        clear HS HS2 hbit e0
        by_cases hge : 2 * nn + 1 < Bv.wn k
        · go_wp2
          exact ⟨⟨s, 2 * nn + 1, fr, by omega, by omega, rfl, by go_num, rfl, HT.out.1 hge⟩, by simp [intOf]⟩
        · go_wp2
          exact ⟨⟨s, Bv.wn k, true, by omega, by omega, rfl, rfl, rfl, HT.out.2 hge⟩, by simp [intOf]⟩
    | zero =>
      have e : ((0 : Nat) : Int) - 1 = -1 := rfl
      rw [e]
      clear e HP HY
      go_wp2_with (first | (at_make; refine wpList_make_full _ rfl _ _ 50 rfl w.heap.size 3 it (.int .i64 0) 1 Try.underlying50 hit hz hsz _ _ _ _ (Bv.wn k) rfl rfl rfl rfl (by rw [hby]; omega) (by unfold maxLen; omega) (by have := HW.out.2.1.size; simp; omega) ?_; intro w3 ho hgrow))
      have hx := HW.out.1.kept hgrow (Or.inr (by simp [Value.ownBlock]))
      have hB := HW.out.2.1.grown hgrow HW.out.2.1.size (fun q hq => by cases hq)
      have hgo : g < w2.heap.size := HW.out.2.2
      have ho1 : w.heap.size ≤ w2.heap.size := HW.out.2.1.size
      rw [made_row, ← mix_zero (fun _ => false) (Bv.mvf 13 (Bv.wn k) a false (Bv.low (Bv.wn k) b))] at ho
      rw [Nat.pow_zero, Nat.div_one] at HX
      clear HW hgrow
      generalize w2.heap.size = o at *
      go_loopw [17] (fun i wr => ∃ t : Nat, t ≤ Bv.wn k ∧ i = .int .i64 t ∧ wr.ownsRow w.heap.size 3 1 (.slice (some ⟨o, 0, none⟩) (Bv.wn k) (Bv.wn k)) (Bv.wn k) ((Bv.lst (mix (fun _ => false) (Bv.mvf 13 (Bv.wn k) a false (Bv.low (Bv.wn k) b)) t) (Bv.wn k)).map (Value.int .i64)) ∧
          wr.ownsRow w.heap.size 3 1 (.slice (some ⟨g, 0, none⟩) (Bv.wn k) cap) (Bv.wn k) ((Bv.lst (Bv.bt a) (Bv.wn k)).map (Value.int .i64)) ∧ Below w.heap.size w wr) (fun i _ => Bv.wn k - (intOf i).toNat)
      case atStart => exact ⟨0, Nat.zero_le _, rfl, ho, hx, hB⟩
      case round =>
        clear ho hx hB
        obtain ⟨t, ht2, rfl, ho, hx, hB⟩ := hrel
        by_cases hlt : t < Bv.wn k
        · have hco : wr.cell? ⟨o, t, none⟩ = some (.int .i64 0) := by
            rw [ho.cellAt t (by omega), List.getElem?_map, Bv.lst_get _ _ _ hlt]
            simp [mix, Bv.one]
          have hfz := ho.frozenAt t
          cases fr with
          | true =>
            have hB1 : Bv.wn k ≤ Bv.low (Bv.wn k) b := by have := HX.out.2; simpa using this.symm
            have eF : (Bv.mvf 13 (Bv.wn k) a false (Bv.low (Bv.wn k) b)) t = false := by unfold Bv.mvf; rw [if_neg (by omega)]
            clear HX hB1
            have eF1 : Bv.one ((Bv.mvf 13 (Bv.wn k) a false (Bv.low (Bv.wn k) b)) t) = 0 := by rw [eF]; rfl
            have HE : Hid (Bv.one ((Bv.mvf 13 (Bv.wn k) a false (Bv.low (Bv.wn k) b)) t) = 0) := eF1
            clear eF eF1
            have hst := ho.stored t (.int .i64 0)
            have HO : Hid _ := hst.1
            have HX2 : Hid _ := hx.kept hst.2 (Or.inr (by simp [Value.ownBlock]; omega))
            have HB : Hid _ := hB.setCell (p := ⟨o, t, none⟩) ho1 (.int .i64 0)
            clear ho hx hB hst
            go_wp2
            have hm2 := mix_step (fun _ => false) (Bv.mvf 13 (Bv.wn k) a false (Bv.low (Bv.wn k) b)) _ t hlt
            rw [HE.out] at hm2
            have ho' := HO.out
            rw [hm2] at ho'
            exact ⟨⟨t + 1, by omega, by go_num, ho', HX2.out, HB.out⟩, by simp [intOf]; omega⟩
          | false =>
            have hB1 : Bv.low (Bv.wn k) b < Bv.wn k := by have := HX.out.2; simpa using this.symm
            have hnB : nn = Bv.low (Bv.wn k) b := by have := HX.out.1; omega
            clear HX
            by_cases hd : t + nn < Bv.wn k
            · obtain ⟨d, hdd⟩ : ∃ d, d = t + nn := ⟨_, rfl⟩
              have eF : (Bv.mvf 13 (Bv.wn k) a false (Bv.low (Bv.wn k) b)) t = Bv.bt a d := by unfold Bv.mvf; rw [if_pos hB1, if_pos rfl, if_pos (by omega), hdd, hnB]
              have efrom : (t : Int) + (nn : Int) = (d : Int) := by omega
              have hd1 : d < Bv.wn k := by omega
              clear hdd hnB hB1 hd
              have hcx : wr.cell? ⟨g, d, none⟩ = some (.int .i64 (Bv.one (Bv.bt a d))) := by
                rw [hx.cellAt d (by omega), List.getElem?_map, Bv.lst_get _ _ _ (by omega)]
                rfl
              have eF1 : Bv.one ((Bv.mvf 13 (Bv.wn k) a false (Bv.low (Bv.wn k) b)) t) = Bv.one (Bv.bt a d) := by rw [eF]
              have HE : Hid (Bv.one ((Bv.mvf 13 (Bv.wn k) a false (Bv.low (Bv.wn k) b)) t) = Bv.one (Bv.bt a d)) := eF1
              clear eF eF1
              have hst := ho.stored t (.int .i64 0)
              have hst2 := hst.1.stored t (.int .i64 (Bv.one (Bv.bt a d)))
              have HO : Hid _ := hst2.1
              have HX2 : Hid _ := (hx.kept hst.2 (Or.inr (by simp [Value.ownBlock]; omega))).kept hst2.2 (Or.inr (by simp [Value.ownBlock]; omega))
              have HB : Hid _ := (hB.setCell (p := ⟨o, t, none⟩) ho1 (.int .i64 0)).setCell (p := ⟨o, t, none⟩) ho1 (.int .i64 (Bv.one (Bv.bt a d)))
              have hcx2 : (wr.setCell ⟨o, t, none⟩ (.int .i64 0)).cell? ⟨g, d, none⟩ = some (.int .i64 (Bv.one (Bv.bt a d))) := by
                rw [World.cell?_setCell_far _ _ _ _ (by simp; omega)]; exact hcx
              clear ho hx hB hst hst2
              have hgo1 : ¬ g = o := by omega
              have hgo2 : ¬ o = g := by omega
              go_wp2
              have hm2 := mix_step2 (fun _ => false) (Bv.mvf 13 (Bv.wn k) a false (Bv.low (Bv.wn k) b)) _ t (.int .i64 0) hlt
              rw [HE.out] at hm2
              have ho' := HO.out
              rw [hm2] at ho'
              exact ⟨⟨t + 1, by omega, by go_num, ho', HX2.out, HB.out⟩, by simp [intOf]; omega⟩
            · have eF : (Bv.mvf 13 (Bv.wn k) a false (Bv.low (Bv.wn k) b)) t = false := by unfold Bv.mvf; rw [if_pos hB1, if_pos rfl, if_neg (by omega)]
              clear hnB hB1
              have eF1 : Bv.one ((Bv.mvf 13 (Bv.wn k) a false (Bv.low (Bv.wn k) b)) t) = 0 := by rw [eF]; rfl
              have HE : Hid (Bv.one ((Bv.mvf 13 (Bv.wn k) a false (Bv.low (Bv.wn k) b)) t) = 0) := eF1
              clear eF eF1
              have hst := ho.stored t (.int .i64 0)
              have HO : Hid _ := hst.1
              have HX2 : Hid _ := hx.kept hst.2 (Or.inr (by simp [Value.ownBlock]; omega))
              have HB : Hid _ := hB.setCell (p := ⟨o, t, none⟩) ho1 (.int .i64 0)
              clear ho hx hB hst
              go_wp2
              have hm2 := mix_step (fun _ => false) (Bv.mvf 13 (Bv.wn k) a false (Bv.low (Bv.wn k) b)) _ t hlt
              rw [HE.out] at hm2
              have ho' := HO.out
              rw [hm2] at ho'
              exact ⟨⟨t + 1, by omega, by go_num, ho', HX2.out, HB.out⟩, by simp [intOf]; omega⟩
        · have et : t = Bv.wn k := by omega
          rw [et, mix_all] at ho
          clear et
          go_wp2_with fail
          refine (rfrom_any k (Bv.mvf 13 (Bv.wn k) a false (Bv.low (Bv.wn k) b)) HK.out.1 HK.out.2 o (Bv.wn k) _ ?_).mono ?_
          · intro i hi
            rw [ho.cellAt i (by omega), List.getElem?_map, Bv.lst_get _ _ _ hi]
            rfl
          rintro e w5 ⟨rfl, hw⟩
          subst hw
          go_wp2
          go_ret
          exact ⟨rfl, hB⟩
end Go.Proofs.Ytjlphploknhcfaa
