/- The walk of the document's own Un: it answers as bv.Un's plain definition says, whatever the arguments. -/
import Derived.Test.YtjlphploknhcfaaChecked
import Derived.Test.YtjlphploknhcfaaBvW
namespace Go.Proofs.Ytjlphploknhcfaa
open Go.RowKit

theorem lst_set (f : Nat → Bool) (m j : Nat) (b : Bool) (hj : j < m) : ((Bv.lst f m).map (Value.int .i64)).set j (.int .i64 (Bv.one b)) = (Bv.lst (fun i => if i = j then b else f i) m).map (Value.int .i64) := by
  apply List.ext_getElem?
  intro i
  rw [List.getElem?_set]
  by_cases hij : j = i
  · subst hij
    simp [hj, Bv.lst]
  · have : ¬ i = j := fun e => hij e.symm
    simp only [hij, if_false]
    by_cases hi : i < m
    · simp [Bv.lst, hi, this]
    · simp [Bv.lst, hi]

/-- of the row the first j bits are turned -/
def mix (f g : Nat → Bool) (j : Nat) : Nat → Bool := fun i => if i < j then g i else f i
theorem mix_step (f g : Nat → Bool) (m j : Nat) (hj : j < m) : ((Bv.lst (mix f g j) m).map (Value.int .i64)).set j (.int .i64 (Bv.one (g j))) = (Bv.lst (mix f g (j + 1)) m).map (Value.int .i64) := by
  rw [lst_set _ _ _ _ hj]
  congr 1
  apply Bv.lst_congr
  intro i hi
  unfold mix
  by_cases h : i = j
  · subst h
    simp
  · simp only [h, if_false]
    by_cases h2 : i < j
    · have : i < j + 1 := by omega
      simp [h2, this]
    · have : ¬ i < j + 1 := by omega
      simp [h2, this]
theorem mix_zero (f g : Nat → Bool) (m : Nat) : Bv.lst (mix f g 0) m = Bv.lst f m := Bv.lst_congr fun i _ => by simp [mix]
theorem mix_all (f g : Nat → Bool) (m : Nat) : Bv.lst (mix f g m) m = Bv.lst g m := Bv.lst_congr fun i hi => by simp [mix, hi]
theorem wrap_opp (b : Bool) : wrap64 (1 - Bv.one b) = Bv.one (!b) := by cases b <;> kernel_rfl

/-- the opposite of a value's bits is what OpNot tells -/
theorem not_val {k a : Int} (h1 : 1 ≤ k) (h2 : k ≤ 9) (ha : Bv.Val k a) : Bv.val k (fun i => !Bv.bt a i) = Bv.unN 1 k a := by
  obtain ⟨v, l⟩ := Bv.nNot h1 h2 ha
  refine Bv.val_eq h1 h2 v fun i hi => ?_
  rw [l, Nat.testBit_xor, Nat.testBit_two_pow_sub_one, Bv.low_bit _ (Bv.wn_le k)]
  simp [hi]

theorem wn_pos (k : Int) : 0 < Bv.wn k := by
  unfold Bv.wn
  repeat' split
  all_goals decide

theorem isv_vals {k a : Int} (h64 : Bv.I64 a) (h : Bv.isv k a = true) : (1 ≤ k ∧ k ≤ 9) ∧ Bv.Val k a := by
  unfold Bv.isv at h
  simp only [Bool.and_eq_true, decide_eq_true_eq, beq_iff_eq] at h
  exact ⟨(Bv.wid_pos_iff k).1 h.1, h.2, h64⟩

set_option maxHeartbeats 2000000 in
theorem run_not (k a : Int) (h64 : Bv.I64 a) (hv : Bv.isv k a = true) (w : World) :
    Calls Try.prog 18 #[.int .i64 1, .int .i64 k, .int .i64 a] w fun e w' => e = .returned (.tuple #[.int .i64 (Bv.unN 1 k a), .bool (Bv.unB 1 k a)]) ∧ Below w.heap.size w w' := by
  obtain ⟨⟨h1, h2⟩, va⟩ := isv_vals h64 hv
  have eN := not_val h1 h2 va
  have eB := Bv.unB1 h1 h2 va
  rw [eB, ← eN]
  clear eB eN va h64
  have HK : Hid (1 ≤ k ∧ k ≤ 9) := ⟨h1, h2⟩
  have hm := wn_pos k
  have hle := Bv.wn_le k
  clear h1 h2
  go_enter Try.func18, Try.ntmps18
  go_wp2_with (first | (go_at_call 13; refine (ris_any _ _ _).mono ?_; rintro e w' ⟨rfl, hw⟩; subst hw))
  refine (rbits_any _ _ HK.out.1 HK.out.2 _).mono ?_
  rintro e w1 ⟨v, rfl, hown, hB⟩
  obtain ⟨g, cap, rfl, hg1, hg2, hown, hcells, hfz⟩ := row_cells hown hm
  clear hcells hfz
  rw [← mix_zero (Bv.bt a) (fun i => !Bv.bt a i)] at hown
  go_wp2
  go_loopw [9] (fun i wr => ∃ j : Nat, j ≤ Bv.wn k ∧ i = .int .i64 j ∧ wr.ownsRow w'.heap.size 3 1 (.slice (some ⟨g, 0, none⟩) (Bv.wn k) cap) (Bv.wn k) ((Bv.lst (mix (Bv.bt a) (fun i => !Bv.bt a i) j) (Bv.wn k)).map (Value.int .i64)) ∧ Below w'.heap.size w' wr) (fun i _ => Bv.wn k - (intOf i).toNat)
  case atStart => exact ⟨0, Nat.zero_le _, rfl, hown, hB⟩
  case round =>
    clear hown hB hg2
    obtain ⟨j, hj, rfl, hown, hB⟩ := hrel
    by_cases hlt : j < Bv.wn k
    · have hcell : wr.cell? ⟨g, j, none⟩ = some (.int .i64 (Bv.one (Bv.bt a j))) := by
        rw [hown.cellAt j (by omega), List.getElem?_map, Bv.lst_get _ _ _ hlt]
        simp [mix]
      have hfz := hown.frozenAt j
      have hsub : wrap64 (1 - Bv.one (Bv.bt a j)) = Bv.one (!Bv.bt a j) := wrap_opp _
      have HO : Hid _ := (hown.stored j (.int .i64 (Bv.one (!Bv.bt a j)))).1
      have HB : Hid _ := hB.setCell (p := ⟨g, j, none⟩) hg1 (.int .i64 (Bv.one (!Bv.bt a j)))
      clear hown hB
      go_wp2
      have ho := HO.out
      rw [mix_step (Bv.bt a) (fun i => !Bv.bt a i) _ j hlt] at ho
      exact ⟨⟨j + 1, by omega, by go_num, ho, HB.out⟩, by simp [intOf]; omega⟩
    · have ej : j = Bv.wn k := by omega
      rw [ej, mix_all] at hown
      clear ej
      go_wp2_with fail
      refine (rfrom_any k (fun i => !Bv.bt a i) HK.out.1 HK.out.2 g cap _ ?_).mono ?_
      · intro i hi
        rw [hown.cellAt i (by omega), List.getElem?_map, Bv.lst_get _ _ _ hi]
        rfl
      rintro e w2 ⟨rfl, hw⟩
      subst hw
      go_wp2
      go_ret2
      exact ⟨rfl, hB⟩

set_option maxHeartbeats 1000000 in
theorem run_neg (k a : Int) (h64 : Bv.I64 a) (hv : Bv.isv k a = true) (w : World) :
    Calls Try.prog 18 #[.int .i64 2, .int .i64 k, .int .i64 a] w fun e w' => e = .returned (.tuple #[.int .i64 (Bv.unN 2 k a), .bool (Bv.unB 2 k a)]) ∧ Below w.heap.size w w' := by
  obtain ⟨⟨h1, h2⟩, va⟩ := isv_vals h64 hv
  by_cases hk : k = 1
  · have e : Bv.unB 2 k a = false := by subst hk; rfl
    have e' : Bv.unN 2 k a = 0 := by simp [Bv.unN, e]
    rw [e, e']
    have hk' : (k != 1) = false := by simp [hk]
    clear e e' va h64 h1 h2 hk
    go_enter Try.func18, Try.ntmps18
    go_wp2_with (first | (go_at_call 13; refine (ris_any _ _ _).mono ?_; rintro e w' ⟨rfl, hw⟩; subst hw))
    go_ret2
    exact ⟨rfl, Below.refl _ _⟩
  · have e := Bv.unB2 (by omega) h2 va
    have e' : Bv.unN 2 k a = Bv.wrp k (wrap64 (-a)) := Bv.unN2 (by omega) h2 va
    rw [e, e']
    have hk' : (k != 1) = true := by simp [hk]
    clear e e' va h64 h1 h2 hk
    go_enter Try.func18, Try.ntmps18
    go_wp2_with (first | (go_at_call 13; refine (ris_any _ _ _).mono ?_; rintro e w' ⟨rfl, hw⟩; subst hw) | (go_at_call 11; refine (rwrap_any _ _ _).mono ?_; rintro e w' ⟨rfl, hw⟩; subst hw))
    go_ret2
    exact ⟨rfl, Below.refl _ _⟩

set_option maxHeartbeats 1000000 in
theorem run_else (op k a : Int) (h : Bv.isv k a = false ∨ (op == 1) = false ∧ (op == 2) = false) (w : World) :
    Calls Try.prog 18 #[.int .i64 op, .int .i64 k, .int .i64 a] w fun e w' => e = .returned (.tuple #[.int .i64 0, .bool false]) ∧ Below w.heap.size w w' := by
  cases hv : Bv.isv k a with
  | false =>
    clear h
    go_enter Try.func18, Try.ntmps18
    go_wp2_with (first | (go_at_call 13; refine (ris_any _ _ _).mono ?_; rintro e w' ⟨rfl, hw⟩; subst hw))
    go_ret2
    exact ⟨rfl, Below.refl _ _⟩
  | true =>
    have h' : (op == 1) = false ∧ (op == 2) = false := by
      rcases h with h | h
      · rw [hv] at h; cases h
      · exact h
    obtain ⟨o1, o2⟩ := h'
    clear h
    go_enter Try.func18, Try.ntmps18
    go_wp2_with (first | (go_at_call 13; refine (ris_any _ _ _).mono ?_; rintro e w' ⟨rfl, hw⟩; subst hw))
    go_ret2
    exact ⟨rfl, Below.refl _ _⟩

theorem run_any (op k a : Int) (h64 : Bv.I64 a) (w : World) :
    Calls Try.prog 18 #[.int .i64 op, .int .i64 k, .int .i64 a] w fun e w' => e = .returned (.tuple #[.int .i64 (Bv.unN op k a), .bool (Bv.unB op k a)]) ∧ Below w.heap.size w w' := by
  cases hv : Bv.isv k a with
  | false =>
    have e : Bv.unB op k a = false := by simp [Bv.unB, Bv.allv, hv]
    have e' : Bv.unN op k a = 0 := by simp [Bv.unN, e]
    rw [e, e']
    exact run_else op k a (Or.inl hv) w
  | true =>
    by_cases h1 : op = 1
    · subst h1; exact run_not k a h64 hv w
    · by_cases h2 : op = 2
      · subst h2; exact run_neg k a h64 hv w
      · have ho : Bv.ofU op = 0 := by simp [Bv.ofU, h1, h2]
        have e : Bv.unB op k a = false := by simp [Bv.unB, ho, Bv.tks]
        have e' : Bv.unN op k a = 0 := by simp [Bv.unN, e]
        rw [e, e']
        exact run_else op k a (Or.inr ⟨by simpa using h1, by simpa using h2⟩) w
end Go.Proofs.Ytjlphploknhcfaa
