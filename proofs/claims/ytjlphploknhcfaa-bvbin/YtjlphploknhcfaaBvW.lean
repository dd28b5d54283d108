/- The walks of the document's own Bit, Bits, From: the bits of a value, and the value of bits. -/
import Derived.Test.YtjlphploknhcfaaChecked
import Derived.Test.YtjlphploknhcfaaBvR
import Derived.Test.YtjlphploknhcfaaBvG
namespace Go.Proofs.Ytjlphploknhcfaa
open Go.RowKit

theorem info3 : (Try.prog.info? 3).map (fun i => (i.zero, i.size, i.bytes)) = some (some (.int .i64 0), 1, 8) := by kernel_rfl

set_option maxHeartbeats 400000 in
theorem rbit_any (n : Int) (i : Nat) (hi : i ≤ 63) (w : World) :
    Calls Try.prog 41 #[.int .i64 n, .int .i64 i] w fun e w' => e = .returned (.int .i64 (Bv.one (Bv.bt n i))) ∧ w' = w := by
  have h1 := Bv.bt_div n i hi
  have h2 := Bv.and1 (n / 2 ^ i)
  have H : Hid (bits .and .i64 (n / 2 ^ i) 1 = Bv.one (Bv.bt n i)) := by rw [← h1, ← h2]; rfl
  clear h1 h2
  go_enter Try.func41, Try.ntmps41
  go_wp2
  go_ret
  exact ⟨ret_int H.out, rfl⟩

set_option maxHeartbeats 1000000 in
theorem rbits_any (k n : Int) (h1 : 1 ≤ k) (h2 : k ≤ 9) (w : World) :
    Calls Try.prog 29 #[.int .i64 k, .int .i64 n] w fun e w' => ∃ v, e = .returned v ∧ w'.ownsRow w.heap.size 3 1 v (Bv.wn k) ((Bv.lst (Bv.bt n) (Bv.wn k)).map (Value.int .i64)) ∧ Below w.heap.size w w' := by
  obtain ⟨it, hit, hz, hsz, hby⟩ := info_parts info3
  have hwid : Bv.wid k = (Bv.wn k : Int) := by rcases Bv.kinds k h1 h2 with rfl | rfl | rfl | rfl | rfl | rfl | rfl | rfl | rfl <;> rfl
  have hle := Bv.wn_le k
  generalize Bv.wn k = m at *
  clear h1 h2
  go_enter Try.func29, Try.ntmps29
  go_wp2_with (first | (go_at_call 15; refine (rwidth_any _ _).mono ?_; rintro e w' ⟨rfl, hw⟩; subst hw))
  go_loopw [5, 7] (fun l i wr => ∃ j : Nat, j ≤ m ∧ i = .int .i64 j ∧ wr.ownsRow w'.heap.size 3 1 l j ((Bv.lst (Bv.bt n) j).map (Value.int .i64)) ∧ Below w'.heap.size w' wr) (fun _ i _ => m - (intOf i).toNat)
  case atStart => exact ⟨0, Nat.zero_le _, rfl, World.ownsRow_nil _ _ _ _, Below.refl _ _⟩
  case round =>
    obtain ⟨j, hj, rfl, hown, hB⟩ := hrel
    by_cases hlt : j < m
    · go_wp2_with (first
        | (go_at_call 41; refine (rbit_any _ _ (by omega) _).mono ?_; rintro e w2 ⟨rfl, hw⟩; subst hw)
        | (at_builtin; refine wpList_append_own _ rfl _ _ 50 rfl w'.heap.size 3 it (.int .i64 0) 1 8 Try.underlying50 hit hz hsz hby rfl (by decide) _ _ _ rfl (hown.alloc _) ⟨_, 0, none⟩ 1 1 [.int .i64 (Bv.one (Bv.bt n j))] rfl rfl (cell_one_new _ _ _) (fun x hx => by simp at hx; subst hx; rfl) (by unfold maxLen; omega) (by omega) (by have := hB.size; simp; omega) ?_; intro v' w3 hown' hgrow3 hnil3))
      have hsz2 := hB.size
      have hB3 : Below w'.heap.size w' w3 := (hB.alloc hB.size _).grown hgrow3 (by simp; omega) (fun q hq => (hown.lt q hq).1)
      exact ⟨⟨j + 1, by omega, by go_num, by rw [Bv.lst_succ, List.map_append]; exact hown', hB3⟩, by simp [intOf]; omega⟩
    · go_wp2
      have ej : j = m := by omega
      subst ej
      go_ret
      exact ⟨_, rfl, hown, hB⟩

/-- how far the sum of the bits has come -/
theorem sum_step (f : Nat → Bool) (j : Nat) (x : Int) (h : x = wrap64 (Bv.ofb f j : Int)) (hf : f j = true) : wrap64 (x + 2 ^ j) = wrap64 (Bv.ofb f (j + 1) : Int) := by
  have e : ((Bv.ofb f (j + 1) : Nat) : Int) = (Bv.ofb f j : Int) + 2 ^ j := by simp [Bv.ofb, hf]
  rw [h, e]
  generalize (2 : Int) ^ j = p
  unfold wrap64
  omega
theorem sum_step63 (f : Nat → Bool) (x : Int) (h : x = wrap64 (Bv.ofb f 63 : Int)) (hf : f 63 = true) : wrap64 (x + -9223372036854775808) = wrap64 (Bv.ofb f 64 : Int) := by
  have e : ((Bv.ofb f (63 + 1) : Nat) : Int) = (Bv.ofb f 63 : Int) + 9223372036854775808 := by simp [Bv.ofb, hf]
  rw [h, e]
  unfold wrap64
  omega
theorem sum_skip (f : Nat → Bool) (j : Nat) (x : Int) (h : x = wrap64 (Bv.ofb f j : Int)) (hf : f j = false) : x = wrap64 (Bv.ofb f (j + 1) : Int) := by
  rw [h]
  simp [Bv.ofb, hf]

set_option maxHeartbeats 1000000 in
theorem rfrom_any (k : Int) (f : Nat → Bool) (h1 : 1 ≤ k) (h2 : k ≤ 9) (g cap : Nat) (w : World)
    (hc : ∀ j, j < Bv.wn k → w.cell? ⟨g, j, none⟩ = some (.int .i64 (Bv.one (f j)))) :
    Calls Try.prog 30 #[.int .i64 k, .slice (some ⟨g, 0, none⟩) (Bv.wn k) cap] w fun e w' => e = .returned (.int .i64 (Bv.val k f)) ∧ w' = w := by
  have hwid : Bv.wid k = (Bv.wn k : Int) := by rcases Bv.kinds k h1 h2 with rfl | rfl | rfl | rfl | rfl | rfl | rfl | rfl | rfl <;> rfl
  have hle := Bv.wn_le k
  have hval : Bv.val k f = Bv.wrp k (wrap64 (Bv.ofb f (Bv.wn k) : Int)) := rfl
  rw [hval]
  generalize Bv.wn k = m at *
  clear h1 h2 hval
  have HC : Hid (∀ j, j < m → w.cell? ⟨g, j, none⟩ = some (.int .i64 (Bv.one (f j)))) := hc
  clear hc
  go_enter Try.func30, Try.ntmps30
  go_wp2_with (first | (go_at_call 15; refine (rwidth_any _ _).mono ?_; rintro e w' ⟨rfl, hw⟩; subst hw))
  go_loop [5, 7] (fun x i => ∃ j : Nat, ∃ y : Int, j ≤ m ∧ i = .int .i64 j ∧ x = .int .i64 y ∧ Hid (y = wrap64 (Bv.ofb f j : Int))) (fun _ i => m - (intOf i).toNat)
  case atStart => exact ⟨0, 0, Nat.zero_le _, rfl, rfl, by unfold Hid; simp [Bv.ofb, wrap64]⟩
  case round =>
    obtain ⟨j, y, hj, rfl, rfl, HY⟩ := hrel
    by_cases hlt : j < m
    · have hcell := HC.out j hlt
      cases hf : f j with
      | false =>
        have e : Bv.one (f j) = 0 := by rw [hf]; rfl
        rw [e] at hcell
        have HF : Hid (f j = false) := hf
        clear hf e
        go_wp2
        all_goals
          go_round
          case rel => exact ⟨j + 1, y, by omega, by go_num, rfl, sum_skip f j y HY.out HF.out⟩
          case measure => simp [intOf]; omega
      | true =>
        have e : Bv.one (f j) = 1 := by rw [hf]; rfl
        rw [e] at hcell
        have HF : Hid (f j = true) := hf
        clear hf e
        by_cases h63 : j = 63
        · subst h63
          go_wp2
          exact ⟨⟨64, _, by omega, rfl, rfl, sum_step63 f y HY.out HF.out⟩, by simp [intOf]; omega⟩
        · have h63' : ((j : Int) == 63) = false := by rw [beq_eq_false_iff_ne]; omega
          go_wp2_with (first | (go_at_call 23; refine (rpower_any _ (by omega) _).mono ?_; rintro e w2 ⟨rfl, hw⟩; subst hw))
          exact ⟨⟨j + 1, _, by omega, by go_num, rfl, sum_step f j y HY.out HF.out⟩, by simp [intOf]; omega⟩
    · go_wp2_with (first | (go_at_call 11; refine (rwrap_any _ _ _).mono ?_; rintro e w2 ⟨rfl, hw⟩; subst hw))
      have ej : j = m := by omega
      subst ej
      go_ret
      exact ⟨ret_int (by rw [HY.out]), rfl⟩

/-- a row of bits in memory of its own -/
theorem row_cells {w : World} {base m : Nat} {v : Value} {f : Nat → Bool} (h : w.ownsRow base 3 1 v m ((Bv.lst f m).map (Value.int .i64))) (hm : 0 < m) :
    ∃ g cap, v = .slice (some ⟨g, 0, none⟩) m cap ∧ base ≤ g ∧ g < w.heap.size ∧ w.ownsRow base 3 1 (.slice (some ⟨g, 0, none⟩) m cap) m ((Bv.lst f m).map (Value.int .i64)) ∧
      (∀ j, j < m → w.cell? ⟨g, j, none⟩ = some (.int .i64 (Bv.one (f j)))) ∧ (∀ j, w.frozen? ⟨g, j, none⟩ = false) := by
  have h' := h
  rcases h.2 with ⟨_, h0⟩ | ⟨g, cap, cur, hv, hb, hg, _⟩
  · omega
  · subst hv
    have hlt := h.lt g rfl
    refine ⟨g, cap, rfl, hb, hlt.2, h', fun j hj => ?_, fun j => h'.frozenAt j⟩
    rw [h'.cellAt j (by omega)]
    simp [Bv.lst_get f m j hj]
end Go.Proofs.Ytjlphploknhcfaa
