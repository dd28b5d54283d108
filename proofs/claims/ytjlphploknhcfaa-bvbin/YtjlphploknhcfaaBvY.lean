/- The walk of the document's own bitwise: and, or, exclusive-or go bit by bit. -/
import Derived.Test.YtjlphploknhcfaaChecked
import Derived.Test.YtjlphploknhcfaaBvX
namespace Go.Proofs.Ytjlphploknhcfaa
open Go.RowKit

theorem grown_of_below {w w' : World} (h : Below w.heap.size w w') : w.grownBy w' none := ⟨h.os, h.tape, h.output, h.size, fun k hk _ => h.block k hk⟩
theorem owns_below {w w' : World} {base : Nat} {e : TypeId} {size : Nat} {v : Value} {n : Nat} {xs : List Value} (h : w.ownsRow base e size v n xs) (hb : Below w.heap.size w w') : w'.ownsRow base e size v n xs := by
  refine h.kept (grown_of_below hb) ?_
  cases v.ownBlock with
  | none => exact Or.inl rfl
  | some b => exact Or.inr (by simp)

theorem mix_skip (f g : Nat → Bool) (m j : Nat) (h : g j = f j) : Bv.lst (mix f g (j + 1)) m = Bv.lst (mix f g j) m := Bv.lst_congr fun i _ => by
  unfold mix
  by_cases h2 : i < j
  · have : i < j + 1 := by omega
    simp [h2, this]
  · by_cases h3 : i = j
    · subst h3; simp [h]
    · have : ¬ i < j + 1 := by omega
      simp [h2, this]

theorem or_true' (x : Bool) : Bv.one (x || true) = 1 := by cases x <;> rfl
theorem mul_bits (x y : Bool) : wrap64 (Bv.one x * Bv.one y) = Bv.one (x && y) := by cases x <;> cases y <;> kernel_rfl
theorem xor_bits (x y : Bool) : (wrap64 (Bv.one x + Bv.one y)).tmod 2 = Bv.one (x != y) := by cases x <;> cases y <;> kernel_rfl

set_option maxHeartbeats 4000000 in
theorem rand_any (k a b : Int) (h1 : 1 ≤ k) (h2 : k ≤ 9) (w : World) :
    Calls Try.prog 33 #[.int .i64 8, .int .i64 k, .int .i64 a, .int .i64 b] w fun e w' => e = .returned (.int .i64 (Bv.val k (fun i => Bv.bt a i && Bv.bt b i))) ∧ Below w.heap.size w w' := by
  have HK : Hid (1 ≤ k ∧ k ≤ 9) := ⟨h1, h2⟩
  have hm := wn_pos k
  have hle := Bv.wn_le k
  clear h1 h2
  go_enter Try.func33, Try.ntmps33
  go_wp2_with fail
  refine (rbits_any _ _ HK.out.1 HK.out.2 _).mono ?_
  rintro e w1 ⟨v, rfl, hx, hB⟩
  obtain ⟨g, cap, rfl, hg1, hg2, hx, _, _⟩ := row_cells hx hm
  go_wp2_with fail
  refine (rbits_any _ _ HK.out.1 HK.out.2 _).mono ?_
  rintro e w2 ⟨v, rfl, hy, hB2⟩
  obtain ⟨h, cap2, rfl, hh1, hh2, hy, _, _⟩ := row_cells hy hm
  have hx2 := owns_below hx hB2
  have hB3 := hB.trans (hB2.mono hB.size)
  rw [← mix_zero (Bv.bt a) (fun i => Bv.bt a i && Bv.bt b i)] at hx2
  have hgh : g < h := by omega
  clear hx hB hB2 hg2 hh2
  generalize w1.heap.size = s1 at *
  go_wp2
  go_loopw [11] (fun i wr => ∃ j : Nat, j ≤ Bv.wn k ∧ i = .int .i64 j ∧ wr.ownsRow w.heap.size 3 1 (.slice (some ⟨g, 0, none⟩) (Bv.wn k) cap) (Bv.wn k) ((Bv.lst (mix (Bv.bt a) (fun i => Bv.bt a i && Bv.bt b i) j) (Bv.wn k)).map (Value.int .i64)) ∧
      wr.ownsRow s1 3 1 (.slice (some ⟨h, 0, none⟩) (Bv.wn k) cap2) (Bv.wn k) ((Bv.lst (Bv.bt b) (Bv.wn k)).map (Value.int .i64)) ∧ Below w.heap.size w wr) (fun i _ => Bv.wn k - (intOf i).toNat)
  case atStart => exact ⟨0, Nat.zero_le _, rfl, hx2, hy, hB3⟩
  case round =>
    clear hx2 hy hB3
    obtain ⟨j, hj, rfl, hx, hy, hB⟩ := hrel
    by_cases hlt : j < Bv.wn k
    · have hcx : wr.cell? ⟨g, j, none⟩ = some (.int .i64 (Bv.one (Bv.bt a j))) := by
        rw [hx.cellAt j (by omega), List.getElem?_map, Bv.lst_get _ _ _ hlt]
        simp [mix]
      have hcy : wr.cell? ⟨h, j, none⟩ = some (.int .i64 (Bv.one (Bv.bt b j))) := by
        rw [hy.cellAt j (by omega), List.getElem?_map, Bv.lst_get _ _ _ hlt]
        rfl
      have hfz := hx.frozenAt j
      have hmul := mul_bits (Bv.bt a j) (Bv.bt b j)
      have hst := hx.stored j (.int .i64 (Bv.one (Bv.bt a j && Bv.bt b j)))
      have HO : Hid _ := hst.1
      have HY : Hid _ := hy.kept hst.2 (Or.inr (by simp [Value.ownBlock]; omega))
      have HB : Hid _ := hB.setCell (p := ⟨g, j, none⟩) hg1 (.int .i64 (Bv.one (Bv.bt a j && Bv.bt b j)))
      clear hx hy hB hst
      go_wp2
      go_region
      go_wp2
      have ho := HO.out
      rw [mix_step (Bv.bt a) (fun i => Bv.bt a i && Bv.bt b i) _ j hlt] at ho
      exact ⟨⟨j + 1, by omega, by go_num, ho, HY.out, HB.out.drew⟩, by simp [intOf]; omega⟩
    · have ej : j = Bv.wn k := by omega
      rw [ej, mix_all] at hx
      clear ej
      go_wp2_with fail
      refine (rfrom_any k (fun i => Bv.bt a i && Bv.bt b i) HK.out.1 HK.out.2 g cap _ ?_).mono ?_
      · intro i hi
        rw [hx.cellAt i (by omega), List.getElem?_map, Bv.lst_get _ _ _ hi]
        rfl
      rintro e w2 ⟨rfl, hw⟩
      subst hw
      go_wp2
      go_ret
      exact ⟨rfl, hB⟩

set_option maxHeartbeats 4000000 in
theorem rxor_any (k a b : Int) (h1 : 1 ≤ k) (h2 : k ≤ 9) (w : World) :
    Calls Try.prog 33 #[.int .i64 10, .int .i64 k, .int .i64 a, .int .i64 b] w fun e w' => e = .returned (.int .i64 (Bv.val k (fun i => Bv.bt a i != Bv.bt b i))) ∧ Below w.heap.size w w' := by
  have HK : Hid (1 ≤ k ∧ k ≤ 9) := ⟨h1, h2⟩
  have hm := wn_pos k
  have hle := Bv.wn_le k
  clear h1 h2
  go_enter Try.func33, Try.ntmps33
  go_wp2_with fail
  refine (rbits_any _ _ HK.out.1 HK.out.2 _).mono ?_
  rintro e w1 ⟨v, rfl, hx, hB⟩
  obtain ⟨g, cap, rfl, hg1, hg2, hx, _, _⟩ := row_cells hx hm
  go_wp2_with fail
  refine (rbits_any _ _ HK.out.1 HK.out.2 _).mono ?_
  rintro e w2 ⟨v, rfl, hy, hB2⟩
  obtain ⟨h, cap2, rfl, hh1, hh2, hy, _, _⟩ := row_cells hy hm
  have hx2 := owns_below hx hB2
  have hB3 := hB.trans (hB2.mono hB.size)
  rw [← mix_zero (Bv.bt a) (fun i => Bv.bt a i != Bv.bt b i)] at hx2
  have hgh : g < h := by omega
  clear hx hB hB2 hg2 hh2
  generalize w1.heap.size = s1 at *
  go_wp2
  go_loopw [11] (fun i wr => ∃ j : Nat, j ≤ Bv.wn k ∧ i = .int .i64 j ∧ wr.ownsRow w.heap.size 3 1 (.slice (some ⟨g, 0, none⟩) (Bv.wn k) cap) (Bv.wn k) ((Bv.lst (mix (Bv.bt a) (fun i => Bv.bt a i != Bv.bt b i) j) (Bv.wn k)).map (Value.int .i64)) ∧
      wr.ownsRow s1 3 1 (.slice (some ⟨h, 0, none⟩) (Bv.wn k) cap2) (Bv.wn k) ((Bv.lst (Bv.bt b) (Bv.wn k)).map (Value.int .i64)) ∧ Below w.heap.size w wr) (fun i _ => Bv.wn k - (intOf i).toNat)
  case atStart => exact ⟨0, Nat.zero_le _, rfl, hx2, hy, hB3⟩
  case round =>
    clear hx2 hy hB3
    obtain ⟨j, hj, rfl, hx, hy, hB⟩ := hrel
    by_cases hlt : j < Bv.wn k
    · have hcx : wr.cell? ⟨g, j, none⟩ = some (.int .i64 (Bv.one (Bv.bt a j))) := by
        rw [hx.cellAt j (by omega), List.getElem?_map, Bv.lst_get _ _ _ hlt]
        simp [mix]
      have hcy : wr.cell? ⟨h, j, none⟩ = some (.int .i64 (Bv.one (Bv.bt b j))) := by
        rw [hy.cellAt j (by omega), List.getElem?_map, Bv.lst_get _ _ _ hlt]
        rfl
      have hfz := hx.frozenAt j
      have hmul := xor_bits (Bv.bt a j) (Bv.bt b j)
      have hst := hx.stored j (.int .i64 (Bv.one (Bv.bt a j != Bv.bt b j)))
      have HO : Hid _ := hst.1
      have HY : Hid _ := hy.kept hst.2 (Or.inr (by simp [Value.ownBlock]; omega))
      have HB : Hid _ := hB.setCell (p := ⟨g, j, none⟩) hg1 (.int .i64 (Bv.one (Bv.bt a j != Bv.bt b j)))
      clear hx hy hB hst
      go_wp2
      go_region
      go_wp2
      have ho := HO.out
      rw [mix_step (Bv.bt a) (fun i => Bv.bt a i != Bv.bt b i) _ j hlt] at ho
      exact ⟨⟨j + 1, by omega, by go_num, ho, HY.out, HB.out.drew⟩, by simp [intOf]; omega⟩
    · have ej : j = Bv.wn k := by omega
      rw [ej, mix_all] at hx
      clear ej
      go_wp2_with fail
      refine (rfrom_any k (fun i => Bv.bt a i != Bv.bt b i) HK.out.1 HK.out.2 g cap _ ?_).mono ?_
      · intro i hi
        rw [hx.cellAt i (by omega), List.getElem?_map, Bv.lst_get _ _ _ hi]
        rfl
      rintro e w2 ⟨rfl, hw⟩
      subst hw
      go_wp2
      go_ret
      exact ⟨rfl, hB⟩

set_option maxHeartbeats 4000000 in
theorem ror_any (k a b : Int) (h1 : 1 ≤ k) (h2 : k ≤ 9) (w : World) :
    Calls Try.prog 33 #[.int .i64 9, .int .i64 k, .int .i64 a, .int .i64 b] w fun e w' => e = .returned (.int .i64 (Bv.val k (fun i => Bv.bt a i || Bv.bt b i))) ∧ Below w.heap.size w w' := by
  have HK : Hid (1 ≤ k ∧ k ≤ 9) := ⟨h1, h2⟩
  have hm := wn_pos k
  have hle := Bv.wn_le k
  clear h1 h2
  go_enter Try.func33, Try.ntmps33
  go_wp2_with fail
  refine (rbits_any _ _ HK.out.1 HK.out.2 _).mono ?_
  rintro e w1 ⟨v, rfl, hx, hB⟩
  obtain ⟨g, cap, rfl, hg1, hg2, hx, _, _⟩ := row_cells hx hm
  go_wp2_with fail
  refine (rbits_any _ _ HK.out.1 HK.out.2 _).mono ?_
  rintro e w2 ⟨v, rfl, hy, hB2⟩
  obtain ⟨h, cap2, rfl, hh1, hh2, hy, _, _⟩ := row_cells hy hm
  have hx2 := owns_below hx hB2
  have hB3 := hB.trans (hB2.mono hB.size)
  rw [← mix_zero (Bv.bt a) (fun i => Bv.bt a i || Bv.bt b i)] at hx2
  have hgh : g < h := by omega
  clear hx hB hB2 hg2 hh2
  generalize w1.heap.size = s1 at *
  go_wp2
  go_loopw [11] (fun i wr => ∃ j : Nat, j ≤ Bv.wn k ∧ i = .int .i64 j ∧ wr.ownsRow w.heap.size 3 1 (.slice (some ⟨g, 0, none⟩) (Bv.wn k) cap) (Bv.wn k) ((Bv.lst (mix (Bv.bt a) (fun i => Bv.bt a i || Bv.bt b i) j) (Bv.wn k)).map (Value.int .i64)) ∧
      wr.ownsRow s1 3 1 (.slice (some ⟨h, 0, none⟩) (Bv.wn k) cap2) (Bv.wn k) ((Bv.lst (Bv.bt b) (Bv.wn k)).map (Value.int .i64)) ∧ Below w.heap.size w wr) (fun i _ => Bv.wn k - (intOf i).toNat)
  case atStart => exact ⟨0, Nat.zero_le _, rfl, hx2, hy, hB3⟩
  case round =>
    clear hx2 hy hB3
    obtain ⟨j, hj, rfl, hx, hy, hB⟩ := hrel
    by_cases hlt : j < Bv.wn k
    · have hcx : wr.cell? ⟨g, j, none⟩ = some (.int .i64 (Bv.one (Bv.bt a j))) := by
        rw [hx.cellAt j (by omega), List.getElem?_map, Bv.lst_get _ _ _ hlt]
        simp [mix]
      have hcy : wr.cell? ⟨h, j, none⟩ = some (.int .i64 (Bv.one (Bv.bt b j))) := by
        rw [hy.cellAt j (by omega), List.getElem?_map, Bv.lst_get _ _ _ hlt]
        rfl
      have hfz := hx.frozenAt j
      cases hb : Bv.bt b j with
      | true =>
        have ev : Bv.one (Bv.bt a j || Bv.bt b j) = 1 := by rw [hb]; exact or_true' _
        have hb1 : Bv.one (Bv.bt b j) = 1 := by rw [hb]; rfl
        rw [hb1] at hcy
        have HE : Hid (Bv.one (Bv.bt a j || Bv.bt b j) = 1) := ev
        clear ev hb1 hb
        have hst := hx.stored j (.int .i64 (1))
        have HO : Hid _ := hst.1
        have HY : Hid _ := hy.kept hst.2 (Or.inr (by simp [Value.ownBlock]; omega))
        have HB : Hid _ := hB.setCell (p := ⟨g, j, none⟩) hg1 (.int .i64 (1))
        clear hx hy hB hst
        go_wp2
        have ho := HO.out
        have hm2 := mix_step (Bv.bt a) (fun i => Bv.bt a i || Bv.bt b i) _ j hlt
        simp only [HE.out] at hm2
        rw [hm2] at ho
        exact ⟨⟨j + 1, by omega, by go_num, ho, HY.out, HB.out⟩, by simp [intOf]; omega⟩
      | false =>
        have hb1 : Bv.one (Bv.bt b j) = 0 := by rw [hb]; rfl
        rw [hb1] at hcy
        rw [← mix_skip (Bv.bt a) (fun i => Bv.bt a i || Bv.bt b i) _ j (by simp [hb])] at hx
        clear hb hb1
        go_wp2
        exact ⟨⟨j + 1, by omega, by go_num, hx, hy, hB⟩, by simp [intOf]; omega⟩
    · have ej : j = Bv.wn k := by omega
      rw [ej, mix_all] at hx
      clear ej
      go_wp2_with fail
      refine (rfrom_any k (fun i => Bv.bt a i || Bv.bt b i) HK.out.1 HK.out.2 g cap _ ?_).mono ?_
      · intro i hi
        rw [hx.cellAt i (by omega), List.getElem?_map, Bv.lst_get _ _ _ hi]
        rfl
      rintro e w2 ⟨rfl, hw⟩
      subst hw
      go_wp2
      go_ret
      exact ⟨rfl, hB⟩

end Go.Proofs.Ytjlphploknhcfaa
