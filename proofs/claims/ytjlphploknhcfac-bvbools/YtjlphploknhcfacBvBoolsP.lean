/- The statement BvBools of metronomelaw1, whole: for every operation the law returns true; no condition. -/
import Derived.Test.YtjlphploknhcfacRows
import Derived.WalkKit
import Derived.ProofKit
import Derived.OpenShut
import Derived.Below
import Derived.Test.YtjlphploknhcfacBvR
import Derived.Test.YtjlphploknhcfacBvK
namespace Go.Proofs.Ytjlphploknhcfac.bvBools
open Go.ChangeShapes Go.WideShapes Go.ChangeAt Go.RowKit
set_option linter.unusedVariables false

theorem own : ownKnob Try.prog.godebug = none := by kernel_rfl

/-- the row of the table: four cells of the block n, from the cell o on -/
def Tab (n o : Nat) (t0 t1 t2 t3 : Int) (w : World) : Prop :=
  n < w.heap.size ∧ w.cell? ⟨n, o, none⟩ = some (.int .i64 t0) ∧ w.cell? ⟨n, o + 1, none⟩ = some (.int .i64 t1) ∧ w.cell? ⟨n, o + 2, none⟩ = some (.int .i64 t2) ∧ w.cell? ⟨n, o + 3, none⟩ = some (.int .i64 t3)
theorem Tab.on {n o : Nat} {t0 t1 t2 t3 : Int} {w w' : World} (h : Tab n o t0 t1 t2 t3 w) (hb : Below w.heap.size w w') : Tab n o t0 t1 t2 t3 w' := by
  obtain ⟨h0, h1, h2, h3, h4⟩ := h
  refine ⟨Nat.lt_of_lt_of_le h0 hb.size, ?_, ?_, ?_, ?_⟩
  · rw [hb.cell (p := ⟨n, o, none⟩) h0]; exact h1
  · rw [hb.cell (p := ⟨n, o + 1, none⟩) h0]; exact h2
  · rw [hb.cell (p := ⟨n, o + 2, none⟩) h0]; exact h3
  · rw [hb.cell (p := ⟨n, o + 3, none⟩) h0]; exact h4

theorem un_known (op x y : Int) (h : op < 8 ∨ op = 12 ∨ op = 13 ∨ 15 < op) : Bv.binB op 1 x y = false := by
  have e : Bv.ofB op = 2 ∨ Bv.ofB op = 0 := by
    unfold Bv.ofB
    rw [if_neg (by omega), if_neg (by omega)]
    split
    · exact Or.inl rfl
    · exact Or.inr rfl
  unfold Bv.binB
  rcases e with e | e <;> rw [e] <;> simp [Bv.tks]

theorem i64_0 : Bv.I64 0 := by unfold Bv.I64; omega
theorem i64_1 : Bv.I64 1 := by unfold Bv.I64; omega
theorem step {w w1 w2 : World} (h : Below w.heap.size w w1) (h2 : Below w1.heap.size w1 w2) : Below w.heap.size w w2 := h.trans (h2.mono h.size)

set_option maxHeartbeats 4000000 in
theorem op8 (w : World) :
    Calls Try.prog 3 #[.int .i64 8] w fun e w' => e = .returned (.bool true) ∧ Below w.heap.size w w' := by
  have n0 : Bv.binN 8 1 0 0 = 0 := by kernel_rfl
  have k0 : Bv.binK 8 1 0 0 = 1 := by kernel_rfl
  have b0 : Bv.binB 8 1 0 0 = true := by kernel_rfl
  have n1 : Bv.binN 8 1 0 1 = 0 := by kernel_rfl
  have k1 : Bv.binK 8 1 0 1 = 1 := by kernel_rfl
  have b1 : Bv.binB 8 1 0 1 = true := by kernel_rfl
  have n2 : Bv.binN 8 1 1 0 = 0 := by kernel_rfl
  have k2 : Bv.binK 8 1 1 0 = 1 := by kernel_rfl
  have b2 : Bv.binB 8 1 1 0 = true := by kernel_rfl
  have n3 : Bv.binN 8 1 1 1 = 1 := by kernel_rfl
  have k3 : Bv.binK 8 1 1 1 = 1 := by kernel_rfl
  have b3 : Bv.binB 8 1 1 1 = true := by kernel_rfl
  go_enter Try.func3, Try.ntmps3
  go_wp2_with (first | (go_at_call 4; refine (alive_any _).mono ?_; rintro e w1 ⟨rfl, hB⟩))
  have hS := hB.alloc hB.size (.cells (List.toArray (.int .i64 0 :: .int .i64 0 :: .int .i64 0 :: .int .i64 0 :: .int .i64 0 :: .int .i64 0 :: .int .i64 0 :: .int .i64 0 :: .int .i64 0 :: .int .i64 0 :: .int .i64 0 :: .int .i64 0 :: .int .i64 0 :: .int .i64 0 :: .int .i64 0 :: .int .i64 0 :: .int .i64 0 :: .int .i64 0 :: .int .i64 0 :: .int .i64 0 :: .int .i64 0 :: .int .i64 0 :: .int .i64 0 :: .int .i64 0 :: .int .i64 0 :: .int .i64 0 :: .int .i64 0 :: .int .i64 0 :: .int .i64 0 :: .int .i64 0 :: .int .i64 0 :: .int .i64 0 :: .int .i64 0 :: .int .i64 0 :: .int .i64 0 :: .int .i64 1 :: .int .i64 0 :: .int .i64 1 :: .int .i64 1 :: .int .i64 1 :: .int .i64 0 :: .int .i64 1 :: .int .i64 1 :: .int .i64 0 :: .int .i64 1 :: .int .i64 1 :: .int .i64 0 :: .int .i64 1 :: .int .i64 0 :: .int .i64 0 :: .int .i64 0 :: .int .i64 0 :: .int .i64 0 :: .int .i64 0 :: .int .i64 0 :: .int .i64 0 :: .int .i64 1 :: .int .i64 0 :: .int .i64 0 :: .int .i64 1 :: .int .i64 0 :: .int .i64 1 :: .int .i64 1 :: .int .i64 0 :: [])) 23)
  have hT : Tab w1.heap.size 32 0 0 0 1 (w1.alloc (.cells (List.toArray (.int .i64 0 :: .int .i64 0 :: .int .i64 0 :: .int .i64 0 :: .int .i64 0 :: .int .i64 0 :: .int .i64 0 :: .int .i64 0 :: .int .i64 0 :: .int .i64 0 :: .int .i64 0 :: .int .i64 0 :: .int .i64 0 :: .int .i64 0 :: .int .i64 0 :: .int .i64 0 :: .int .i64 0 :: .int .i64 0 :: .int .i64 0 :: .int .i64 0 :: .int .i64 0 :: .int .i64 0 :: .int .i64 0 :: .int .i64 0 :: .int .i64 0 :: .int .i64 0 :: .int .i64 0 :: .int .i64 0 :: .int .i64 0 :: .int .i64 0 :: .int .i64 0 :: .int .i64 0 :: .int .i64 0 :: .int .i64 0 :: .int .i64 0 :: .int .i64 1 :: .int .i64 0 :: .int .i64 1 :: .int .i64 1 :: .int .i64 1 :: .int .i64 0 :: .int .i64 1 :: .int .i64 1 :: .int .i64 0 :: .int .i64 1 :: .int .i64 1 :: .int .i64 0 :: .int .i64 1 :: .int .i64 0 :: .int .i64 0 :: .int .i64 0 :: .int .i64 0 :: .int .i64 0 :: .int .i64 0 :: .int .i64 0 :: .int .i64 0 :: .int .i64 1 :: .int .i64 0 :: .int .i64 0 :: .int .i64 1 :: .int .i64 0 :: .int .i64 1 :: .int .i64 1 :: .int .i64 0 :: [])) 23)) := ⟨by simp, by simp, by simp, by simp, by simp⟩
  generalize w1.alloc (.cells (List.toArray (.int .i64 0 :: .int .i64 0 :: .int .i64 0 :: .int .i64 0 :: .int .i64 0 :: .int .i64 0 :: .int .i64 0 :: .int .i64 0 :: .int .i64 0 :: .int .i64 0 :: .int .i64 0 :: .int .i64 0 :: .int .i64 0 :: .int .i64 0 :: .int .i64 0 :: .int .i64 0 :: .int .i64 0 :: .int .i64 0 :: .int .i64 0 :: .int .i64 0 :: .int .i64 0 :: .int .i64 0 :: .int .i64 0 :: .int .i64 0 :: .int .i64 0 :: .int .i64 0 :: .int .i64 0 :: .int .i64 0 :: .int .i64 0 :: .int .i64 0 :: .int .i64 0 :: .int .i64 0 :: .int .i64 0 :: .int .i64 0 :: .int .i64 0 :: .int .i64 1 :: .int .i64 0 :: .int .i64 1 :: .int .i64 1 :: .int .i64 1 :: .int .i64 0 :: .int .i64 1 :: .int .i64 1 :: .int .i64 0 :: .int .i64 1 :: .int .i64 1 :: .int .i64 0 :: .int .i64 1 :: .int .i64 0 :: .int .i64 0 :: .int .i64 0 :: .int .i64 0 :: .int .i64 0 :: .int .i64 0 :: .int .i64 0 :: .int .i64 0 :: .int .i64 1 :: .int .i64 0 :: .int .i64 0 :: .int .i64 1 :: .int .i64 0 :: .int .i64 1 :: .int .i64 1 :: .int .i64 0 :: [])) 23) = w2 at hS hT ⊢
  generalize w1.heap.size = n at hT ⊢
  clear hB
  go_loopw [5] (fun i w' => ∃ k : Nat, k ≤ 4 ∧ i = .int .i64 k ∧ Below w.heap.size w w' ∧ Tab n 32 0 0 0 1 w') (fun i _ => 4 - (intOf i).toNat)
  case atStart => exact ⟨0, by omega, rfl, hS, hT⟩
  case round =>
    clear hS hT
    obtain ⟨k, hk, rfl, hS, hT⟩ := hrel
    have hc : k = 0 ∨ k = 1 ∨ k = 2 ∨ k = 3 ∨ k = 4 := by omega
    rcases hc with rfl | rfl | rfl | rfl | rfl
    · go_wp2_with (first | (go_at_call 5; refine (bin_any _ _ _ _ (by first | exact i64_0 | exact i64_1) _).mono ?_; rintro e w3 ⟨rfl, hB3⟩; have hS := step hS hB3; have hT := hT.on hB3; clear hB3; obtain ⟨c, c0, c1, c2, c3⟩ := hT))
      exact ⟨⟨1, by omega, rfl, hS, ⟨c, c0, c1, c2, c3⟩⟩, by decide⟩
    · go_wp2_with (first | (go_at_call 5; refine (bin_any _ _ _ _ (by first | exact i64_0 | exact i64_1) _).mono ?_; rintro e w3 ⟨rfl, hB3⟩; have hS := step hS hB3; have hT := hT.on hB3; clear hB3; obtain ⟨c, c0, c1, c2, c3⟩ := hT))
      exact ⟨⟨2, by omega, rfl, hS, ⟨c, c0, c1, c2, c3⟩⟩, by decide⟩
    · go_wp2_with (first | (go_at_call 5; refine (bin_any _ _ _ _ (by first | exact i64_0 | exact i64_1) _).mono ?_; rintro e w3 ⟨rfl, hB3⟩; have hS := step hS hB3; have hT := hT.on hB3; clear hB3; obtain ⟨c, c0, c1, c2, c3⟩ := hT))
      exact ⟨⟨3, by omega, rfl, hS, ⟨c, c0, c1, c2, c3⟩⟩, by decide⟩
    · go_wp2_with (first | (go_at_call 5; refine (bin_any _ _ _ _ (by first | exact i64_0 | exact i64_1) _).mono ?_; rintro e w3 ⟨rfl, hB3⟩; have hS := step hS hB3; have hT := hT.on hB3; clear hB3; obtain ⟨c, c0, c1, c2, c3⟩ := hT))
      exact ⟨⟨4, by omega, rfl, hS, ⟨c, c0, c1, c2, c3⟩⟩, by decide⟩
    · go_wp2
      go_ret
      exact ⟨rfl, hS⟩

set_option maxHeartbeats 4000000 in
theorem op9 (w : World) :
    Calls Try.prog 3 #[.int .i64 9] w fun e w' => e = .returned (.bool true) ∧ Below w.heap.size w w' := by
  have n0 : Bv.binN 9 1 0 0 = 0 := by kernel_rfl
  have k0 : Bv.binK 9 1 0 0 = 1 := by kernel_rfl
  have b0 : Bv.binB 9 1 0 0 = true := by kernel_rfl
  have n1 : Bv.binN 9 1 0 1 = 1 := by kernel_rfl
  have k1 : Bv.binK 9 1 0 1 = 1 := by kernel_rfl
  have b1 : Bv.binB 9 1 0 1 = true := by kernel_rfl
  have n2 : Bv.binN 9 1 1 0 = 1 := by kernel_rfl
  have k2 : Bv.binK 9 1 1 0 = 1 := by kernel_rfl
  have b2 : Bv.binB 9 1 1 0 = true := by kernel_rfl
  have n3 : Bv.binN 9 1 1 1 = 1 := by kernel_rfl
  have k3 : Bv.binK 9 1 1 1 = 1 := by kernel_rfl
  have b3 : Bv.binB 9 1 1 1 = true := by kernel_rfl
  go_enter Try.func3, Try.ntmps3
  go_wp2_with (first | (go_at_call 4; refine (alive_any _).mono ?_; rintro e w1 ⟨rfl, hB⟩))
  have hS := hB.alloc hB.size (.cells (List.toArray (.int .i64 0 :: .int .i64 0 :: .int .i64 0 :: .int .i64 0 :: .int .i64 0 :: .int .i64 0 :: .int .i64 0 :: .int .i64 0 :: .int .i64 0 :: .int .i64 0 :: .int .i64 0 :: .int .i64 0 :: .int .i64 0 :: .int .i64 0 :: .int .i64 0 :: .int .i64 0 :: .int .i64 0 :: .int .i64 0 :: .int .i64 0 :: .int .i64 0 :: .int .i64 0 :: .int .i64 0 :: .int .i64 0 :: .int .i64 0 :: .int .i64 0 :: .int .i64 0 :: .int .i64 0 :: .int .i64 0 :: .int .i64 0 :: .int .i64 0 :: .int .i64 0 :: .int .i64 0 :: .int .i64 0 :: .int .i64 0 :: .int .i64 0 :: .int .i64 1 :: .int .i64 0 :: .int .i64 1 :: .int .i64 1 :: .int .i64 1 :: .int .i64 0 :: .int .i64 1 :: .int .i64 1 :: .int .i64 0 :: .int .i64 1 :: .int .i64 1 :: .int .i64 0 :: .int .i64 1 :: .int .i64 0 :: .int .i64 0 :: .int .i64 0 :: .int .i64 0 :: .int .i64 0 :: .int .i64 0 :: .int .i64 0 :: .int .i64 0 :: .int .i64 1 :: .int .i64 0 :: .int .i64 0 :: .int .i64 1 :: .int .i64 0 :: .int .i64 1 :: .int .i64 1 :: .int .i64 0 :: [])) 23)
  have hT : Tab w1.heap.size 36 0 1 1 1 (w1.alloc (.cells (List.toArray (.int .i64 0 :: .int .i64 0 :: .int .i64 0 :: .int .i64 0 :: .int .i64 0 :: .int .i64 0 :: .int .i64 0 :: .int .i64 0 :: .int .i64 0 :: .int .i64 0 :: .int .i64 0 :: .int .i64 0 :: .int .i64 0 :: .int .i64 0 :: .int .i64 0 :: .int .i64 0 :: .int .i64 0 :: .int .i64 0 :: .int .i64 0 :: .int .i64 0 :: .int .i64 0 :: .int .i64 0 :: .int .i64 0 :: .int .i64 0 :: .int .i64 0 :: .int .i64 0 :: .int .i64 0 :: .int .i64 0 :: .int .i64 0 :: .int .i64 0 :: .int .i64 0 :: .int .i64 0 :: .int .i64 0 :: .int .i64 0 :: .int .i64 0 :: .int .i64 1 :: .int .i64 0 :: .int .i64 1 :: .int .i64 1 :: .int .i64 1 :: .int .i64 0 :: .int .i64 1 :: .int .i64 1 :: .int .i64 0 :: .int .i64 1 :: .int .i64 1 :: .int .i64 0 :: .int .i64 1 :: .int .i64 0 :: .int .i64 0 :: .int .i64 0 :: .int .i64 0 :: .int .i64 0 :: .int .i64 0 :: .int .i64 0 :: .int .i64 0 :: .int .i64 1 :: .int .i64 0 :: .int .i64 0 :: .int .i64 1 :: .int .i64 0 :: .int .i64 1 :: .int .i64 1 :: .int .i64 0 :: [])) 23)) := ⟨by simp, by simp, by simp, by simp, by simp⟩
  generalize w1.alloc (.cells (List.toArray (.int .i64 0 :: .int .i64 0 :: .int .i64 0 :: .int .i64 0 :: .int .i64 0 :: .int .i64 0 :: .int .i64 0 :: .int .i64 0 :: .int .i64 0 :: .int .i64 0 :: .int .i64 0 :: .int .i64 0 :: .int .i64 0 :: .int .i64 0 :: .int .i64 0 :: .int .i64 0 :: .int .i64 0 :: .int .i64 0 :: .int .i64 0 :: .int .i64 0 :: .int .i64 0 :: .int .i64 0 :: .int .i64 0 :: .int .i64 0 :: .int .i64 0 :: .int .i64 0 :: .int .i64 0 :: .int .i64 0 :: .int .i64 0 :: .int .i64 0 :: .int .i64 0 :: .int .i64 0 :: .int .i64 0 :: .int .i64 0 :: .int .i64 0 :: .int .i64 1 :: .int .i64 0 :: .int .i64 1 :: .int .i64 1 :: .int .i64 1 :: .int .i64 0 :: .int .i64 1 :: .int .i64 1 :: .int .i64 0 :: .int .i64 1 :: .int .i64 1 :: .int .i64 0 :: .int .i64 1 :: .int .i64 0 :: .int .i64 0 :: .int .i64 0 :: .int .i64 0 :: .int .i64 0 :: .int .i64 0 :: .int .i64 0 :: .int .i64 0 :: .int .i64 1 :: .int .i64 0 :: .int .i64 0 :: .int .i64 1 :: .int .i64 0 :: .int .i64 1 :: .int .i64 1 :: .int .i64 0 :: [])) 23) = w2 at hS hT ⊢
  generalize w1.heap.size = n at hT ⊢
  clear hB
  go_loopw [5] (fun i w' => ∃ k : Nat, k ≤ 4 ∧ i = .int .i64 k ∧ Below w.heap.size w w' ∧ Tab n 36 0 1 1 1 w') (fun i _ => 4 - (intOf i).toNat)
  case atStart => exact ⟨0, by omega, rfl, hS, hT⟩
  case round =>
    clear hS hT
    obtain ⟨k, hk, rfl, hS, hT⟩ := hrel
    have hc : k = 0 ∨ k = 1 ∨ k = 2 ∨ k = 3 ∨ k = 4 := by omega
    rcases hc with rfl | rfl | rfl | rfl | rfl
    · go_wp2_with (first | (go_at_call 5; refine (bin_any _ _ _ _ (by first | exact i64_0 | exact i64_1) _).mono ?_; rintro e w3 ⟨rfl, hB3⟩; have hS := step hS hB3; have hT := hT.on hB3; clear hB3; obtain ⟨c, c0, c1, c2, c3⟩ := hT))
      exact ⟨⟨1, by omega, rfl, hS, ⟨c, c0, c1, c2, c3⟩⟩, by decide⟩
    · go_wp2_with (first | (go_at_call 5; refine (bin_any _ _ _ _ (by first | exact i64_0 | exact i64_1) _).mono ?_; rintro e w3 ⟨rfl, hB3⟩; have hS := step hS hB3; have hT := hT.on hB3; clear hB3; obtain ⟨c, c0, c1, c2, c3⟩ := hT))
      exact ⟨⟨2, by omega, rfl, hS, ⟨c, c0, c1, c2, c3⟩⟩, by decide⟩
    · go_wp2_with (first | (go_at_call 5; refine (bin_any _ _ _ _ (by first | exact i64_0 | exact i64_1) _).mono ?_; rintro e w3 ⟨rfl, hB3⟩; have hS := step hS hB3; have hT := hT.on hB3; clear hB3; obtain ⟨c, c0, c1, c2, c3⟩ := hT))
      exact ⟨⟨3, by omega, rfl, hS, ⟨c, c0, c1, c2, c3⟩⟩, by decide⟩
    · go_wp2_with (first | (go_at_call 5; refine (bin_any _ _ _ _ (by first | exact i64_0 | exact i64_1) _).mono ?_; rintro e w3 ⟨rfl, hB3⟩; have hS := step hS hB3; have hT := hT.on hB3; clear hB3; obtain ⟨c, c0, c1, c2, c3⟩ := hT))
      exact ⟨⟨4, by omega, rfl, hS, ⟨c, c0, c1, c2, c3⟩⟩, by decide⟩
    · go_wp2
      go_ret
      exact ⟨rfl, hS⟩

set_option maxHeartbeats 4000000 in
theorem op10 (w : World) :
    Calls Try.prog 3 #[.int .i64 10] w fun e w' => e = .returned (.bool true) ∧ Below w.heap.size w w' := by
  have n0 : Bv.binN 10 1 0 0 = 0 := by kernel_rfl
  have k0 : Bv.binK 10 1 0 0 = 1 := by kernel_rfl
  have b0 : Bv.binB 10 1 0 0 = true := by kernel_rfl
  have n1 : Bv.binN 10 1 0 1 = 1 := by kernel_rfl
  have k1 : Bv.binK 10 1 0 1 = 1 := by kernel_rfl
  have b1 : Bv.binB 10 1 0 1 = true := by kernel_rfl
  have n2 : Bv.binN 10 1 1 0 = 1 := by kernel_rfl
  have k2 : Bv.binK 10 1 1 0 = 1 := by kernel_rfl
  have b2 : Bv.binB 10 1 1 0 = true := by kernel_rfl
  have n3 : Bv.binN 10 1 1 1 = 0 := by kernel_rfl
  have k3 : Bv.binK 10 1 1 1 = 1 := by kernel_rfl
  have b3 : Bv.binB 10 1 1 1 = true := by kernel_rfl
  go_enter Try.func3, Try.ntmps3
  go_wp2_with (first | (go_at_call 4; refine (alive_any _).mono ?_; rintro e w1 ⟨rfl, hB⟩))
  have hS := hB.alloc hB.size (.cells (List.toArray (.int .i64 0 :: .int .i64 0 :: .int .i64 0 :: .int .i64 0 :: .int .i64 0 :: .int .i64 0 :: .int .i64 0 :: .int .i64 0 :: .int .i64 0 :: .int .i64 0 :: .int .i64 0 :: .int .i64 0 :: .int .i64 0 :: .int .i64 0 :: .int .i64 0 :: .int .i64 0 :: .int .i64 0 :: .int .i64 0 :: .int .i64 0 :: .int .i64 0 :: .int .i64 0 :: .int .i64 0 :: .int .i64 0 :: .int .i64 0 :: .int .i64 0 :: .int .i64 0 :: .int .i64 0 :: .int .i64 0 :: .int .i64 0 :: .int .i64 0 :: .int .i64 0 :: .int .i64 0 :: .int .i64 0 :: .int .i64 0 :: .int .i64 0 :: .int .i64 1 :: .int .i64 0 :: .int .i64 1 :: .int .i64 1 :: .int .i64 1 :: .int .i64 0 :: .int .i64 1 :: .int .i64 1 :: .int .i64 0 :: .int .i64 1 :: .int .i64 1 :: .int .i64 0 :: .int .i64 1 :: .int .i64 0 :: .int .i64 0 :: .int .i64 0 :: .int .i64 0 :: .int .i64 0 :: .int .i64 0 :: .int .i64 0 :: .int .i64 0 :: .int .i64 1 :: .int .i64 0 :: .int .i64 0 :: .int .i64 1 :: .int .i64 0 :: .int .i64 1 :: .int .i64 1 :: .int .i64 0 :: [])) 23)
  have hT : Tab w1.heap.size 40 0 1 1 0 (w1.alloc (.cells (List.toArray (.int .i64 0 :: .int .i64 0 :: .int .i64 0 :: .int .i64 0 :: .int .i64 0 :: .int .i64 0 :: .int .i64 0 :: .int .i64 0 :: .int .i64 0 :: .int .i64 0 :: .int .i64 0 :: .int .i64 0 :: .int .i64 0 :: .int .i64 0 :: .int .i64 0 :: .int .i64 0 :: .int .i64 0 :: .int .i64 0 :: .int .i64 0 :: .int .i64 0 :: .int .i64 0 :: .int .i64 0 :: .int .i64 0 :: .int .i64 0 :: .int .i64 0 :: .int .i64 0 :: .int .i64 0 :: .int .i64 0 :: .int .i64 0 :: .int .i64 0 :: .int .i64 0 :: .int .i64 0 :: .int .i64 0 :: .int .i64 0 :: .int .i64 0 :: .int .i64 1 :: .int .i64 0 :: .int .i64 1 :: .int .i64 1 :: .int .i64 1 :: .int .i64 0 :: .int .i64 1 :: .int .i64 1 :: .int .i64 0 :: .int .i64 1 :: .int .i64 1 :: .int .i64 0 :: .int .i64 1 :: .int .i64 0 :: .int .i64 0 :: .int .i64 0 :: .int .i64 0 :: .int .i64 0 :: .int .i64 0 :: .int .i64 0 :: .int .i64 0 :: .int .i64 1 :: .int .i64 0 :: .int .i64 0 :: .int .i64 1 :: .int .i64 0 :: .int .i64 1 :: .int .i64 1 :: .int .i64 0 :: [])) 23)) := ⟨by simp, by simp, by simp, by simp, by simp⟩
  generalize w1.alloc (.cells (List.toArray (.int .i64 0 :: .int .i64 0 :: .int .i64 0 :: .int .i64 0 :: .int .i64 0 :: .int .i64 0 :: .int .i64 0 :: .int .i64 0 :: .int .i64 0 :: .int .i64 0 :: .int .i64 0 :: .int .i64 0 :: .int .i64 0 :: .int .i64 0 :: .int .i64 0 :: .int .i64 0 :: .int .i64 0 :: .int .i64 0 :: .int .i64 0 :: .int .i64 0 :: .int .i64 0 :: .int .i64 0 :: .int .i64 0 :: .int .i64 0 :: .int .i64 0 :: .int .i64 0 :: .int .i64 0 :: .int .i64 0 :: .int .i64 0 :: .int .i64 0 :: .int .i64 0 :: .int .i64 0 :: .int .i64 0 :: .int .i64 0 :: .int .i64 0 :: .int .i64 1 :: .int .i64 0 :: .int .i64 1 :: .int .i64 1 :: .int .i64 1 :: .int .i64 0 :: .int .i64 1 :: .int .i64 1 :: .int .i64 0 :: .int .i64 1 :: .int .i64 1 :: .int .i64 0 :: .int .i64 1 :: .int .i64 0 :: .int .i64 0 :: .int .i64 0 :: .int .i64 0 :: .int .i64 0 :: .int .i64 0 :: .int .i64 0 :: .int .i64 0 :: .int .i64 1 :: .int .i64 0 :: .int .i64 0 :: .int .i64 1 :: .int .i64 0 :: .int .i64 1 :: .int .i64 1 :: .int .i64 0 :: [])) 23) = w2 at hS hT ⊢
  generalize w1.heap.size = n at hT ⊢
  clear hB
  go_loopw [5] (fun i w' => ∃ k : Nat, k ≤ 4 ∧ i = .int .i64 k ∧ Below w.heap.size w w' ∧ Tab n 40 0 1 1 0 w') (fun i _ => 4 - (intOf i).toNat)
  case atStart => exact ⟨0, by omega, rfl, hS, hT⟩
  case round =>
    clear hS hT
    obtain ⟨k, hk, rfl, hS, hT⟩ := hrel
    have hc : k = 0 ∨ k = 1 ∨ k = 2 ∨ k = 3 ∨ k = 4 := by omega
    rcases hc with rfl | rfl | rfl | rfl | rfl
    · go_wp2_with (first | (go_at_call 5; refine (bin_any _ _ _ _ (by first | exact i64_0 | exact i64_1) _).mono ?_; rintro e w3 ⟨rfl, hB3⟩; have hS := step hS hB3; have hT := hT.on hB3; clear hB3; obtain ⟨c, c0, c1, c2, c3⟩ := hT))
      exact ⟨⟨1, by omega, rfl, hS, ⟨c, c0, c1, c2, c3⟩⟩, by decide⟩
    · go_wp2_with (first | (go_at_call 5; refine (bin_any _ _ _ _ (by first | exact i64_0 | exact i64_1) _).mono ?_; rintro e w3 ⟨rfl, hB3⟩; have hS := step hS hB3; have hT := hT.on hB3; clear hB3; obtain ⟨c, c0, c1, c2, c3⟩ := hT))
      exact ⟨⟨2, by omega, rfl, hS, ⟨c, c0, c1, c2, c3⟩⟩, by decide⟩
    · go_wp2_with (first | (go_at_call 5; refine (bin_any _ _ _ _ (by first | exact i64_0 | exact i64_1) _).mono ?_; rintro e w3 ⟨rfl, hB3⟩; have hS := step hS hB3; have hT := hT.on hB3; clear hB3; obtain ⟨c, c0, c1, c2, c3⟩ := hT))
      exact ⟨⟨3, by omega, rfl, hS, ⟨c, c0, c1, c2, c3⟩⟩, by decide⟩
    · go_wp2_with (first | (go_at_call 5; refine (bin_any _ _ _ _ (by first | exact i64_0 | exact i64_1) _).mono ?_; rintro e w3 ⟨rfl, hB3⟩; have hS := step hS hB3; have hT := hT.on hB3; clear hB3; obtain ⟨c, c0, c1, c2, c3⟩ := hT))
      exact ⟨⟨4, by omega, rfl, hS, ⟨c, c0, c1, c2, c3⟩⟩, by decide⟩
    · go_wp2
      go_ret
      exact ⟨rfl, hS⟩

set_option maxHeartbeats 4000000 in
theorem op11 (w : World) :
    Calls Try.prog 3 #[.int .i64 11] w fun e w' => e = .returned (.bool true) ∧ Below w.heap.size w w' := by
  have n0 : Bv.binN 11 1 0 0 = 1 := by kernel_rfl
  have k0 : Bv.binK 11 1 0 0 = 1 := by kernel_rfl
  have b0 : Bv.binB 11 1 0 0 = true := by kernel_rfl
  have n1 : Bv.binN 11 1 0 1 = 1 := by kernel_rfl
  have k1 : Bv.binK 11 1 0 1 = 1 := by kernel_rfl
  have b1 : Bv.binB 11 1 0 1 = true := by kernel_rfl
  have n2 : Bv.binN 11 1 1 0 = 0 := by kernel_rfl
  have k2 : Bv.binK 11 1 1 0 = 1 := by kernel_rfl
  have b2 : Bv.binB 11 1 1 0 = true := by kernel_rfl
  have n3 : Bv.binN 11 1 1 1 = 1 := by kernel_rfl
  have k3 : Bv.binK 11 1 1 1 = 1 := by kernel_rfl
  have b3 : Bv.binB 11 1 1 1 = true := by kernel_rfl
  go_enter Try.func3, Try.ntmps3
  go_wp2_with (first | (go_at_call 4; refine (alive_any _).mono ?_; rintro e w1 ⟨rfl, hB⟩))
  have hS := hB.alloc hB.size (.cells (List.toArray (.int .i64 0 :: .int .i64 0 :: .int .i64 0 :: .int .i64 0 :: .int .i64 0 :: .int .i64 0 :: .int .i64 0 :: .int .i64 0 :: .int .i64 0 :: .int .i64 0 :: .int .i64 0 :: .int .i64 0 :: .int .i64 0 :: .int .i64 0 :: .int .i64 0 :: .int .i64 0 :: .int .i64 0 :: .int .i64 0 :: .int .i64 0 :: .int .i64 0 :: .int .i64 0 :: .int .i64 0 :: .int .i64 0 :: .int .i64 0 :: .int .i64 0 :: .int .i64 0 :: .int .i64 0 :: .int .i64 0 :: .int .i64 0 :: .int .i64 0 :: .int .i64 0 :: .int .i64 0 :: .int .i64 0 :: .int .i64 0 :: .int .i64 0 :: .int .i64 1 :: .int .i64 0 :: .int .i64 1 :: .int .i64 1 :: .int .i64 1 :: .int .i64 0 :: .int .i64 1 :: .int .i64 1 :: .int .i64 0 :: .int .i64 1 :: .int .i64 1 :: .int .i64 0 :: .int .i64 1 :: .int .i64 0 :: .int .i64 0 :: .int .i64 0 :: .int .i64 0 :: .int .i64 0 :: .int .i64 0 :: .int .i64 0 :: .int .i64 0 :: .int .i64 1 :: .int .i64 0 :: .int .i64 0 :: .int .i64 1 :: .int .i64 0 :: .int .i64 1 :: .int .i64 1 :: .int .i64 0 :: [])) 23)
  have hT : Tab w1.heap.size 44 1 1 0 1 (w1.alloc (.cells (List.toArray (.int .i64 0 :: .int .i64 0 :: .int .i64 0 :: .int .i64 0 :: .int .i64 0 :: .int .i64 0 :: .int .i64 0 :: .int .i64 0 :: .int .i64 0 :: .int .i64 0 :: .int .i64 0 :: .int .i64 0 :: .int .i64 0 :: .int .i64 0 :: .int .i64 0 :: .int .i64 0 :: .int .i64 0 :: .int .i64 0 :: .int .i64 0 :: .int .i64 0 :: .int .i64 0 :: .int .i64 0 :: .int .i64 0 :: .int .i64 0 :: .int .i64 0 :: .int .i64 0 :: .int .i64 0 :: .int .i64 0 :: .int .i64 0 :: .int .i64 0 :: .int .i64 0 :: .int .i64 0 :: .int .i64 0 :: .int .i64 0 :: .int .i64 0 :: .int .i64 1 :: .int .i64 0 :: .int .i64 1 :: .int .i64 1 :: .int .i64 1 :: .int .i64 0 :: .int .i64 1 :: .int .i64 1 :: .int .i64 0 :: .int .i64 1 :: .int .i64 1 :: .int .i64 0 :: .int .i64 1 :: .int .i64 0 :: .int .i64 0 :: .int .i64 0 :: .int .i64 0 :: .int .i64 0 :: .int .i64 0 :: .int .i64 0 :: .int .i64 0 :: .int .i64 1 :: .int .i64 0 :: .int .i64 0 :: .int .i64 1 :: .int .i64 0 :: .int .i64 1 :: .int .i64 1 :: .int .i64 0 :: [])) 23)) := ⟨by simp, by simp, by simp, by simp, by simp⟩
  generalize w1.alloc (.cells (List.toArray (.int .i64 0 :: .int .i64 0 :: .int .i64 0 :: .int .i64 0 :: .int .i64 0 :: .int .i64 0 :: .int .i64 0 :: .int .i64 0 :: .int .i64 0 :: .int .i64 0 :: .int .i64 0 :: .int .i64 0 :: .int .i64 0 :: .int .i64 0 :: .int .i64 0 :: .int .i64 0 :: .int .i64 0 :: .int .i64 0 :: .int .i64 0 :: .int .i64 0 :: .int .i64 0 :: .int .i64 0 :: .int .i64 0 :: .int .i64 0 :: .int .i64 0 :: .int .i64 0 :: .int .i64 0 :: .int .i64 0 :: .int .i64 0 :: .int .i64 0 :: .int .i64 0 :: .int .i64 0 :: .int .i64 0 :: .int .i64 0 :: .int .i64 0 :: .int .i64 1 :: .int .i64 0 :: .int .i64 1 :: .int .i64 1 :: .int .i64 1 :: .int .i64 0 :: .int .i64 1 :: .int .i64 1 :: .int .i64 0 :: .int .i64 1 :: .int .i64 1 :: .int .i64 0 :: .int .i64 1 :: .int .i64 0 :: .int .i64 0 :: .int .i64 0 :: .int .i64 0 :: .int .i64 0 :: .int .i64 0 :: .int .i64 0 :: .int .i64 0 :: .int .i64 1 :: .int .i64 0 :: .int .i64 0 :: .int .i64 1 :: .int .i64 0 :: .int .i64 1 :: .int .i64 1 :: .int .i64 0 :: [])) 23) = w2 at hS hT ⊢
  generalize w1.heap.size = n at hT ⊢
  clear hB
  go_loopw [5] (fun i w' => ∃ k : Nat, k ≤ 4 ∧ i = .int .i64 k ∧ Below w.heap.size w w' ∧ Tab n 44 1 1 0 1 w') (fun i _ => 4 - (intOf i).toNat)
  case atStart => exact ⟨0, by omega, rfl, hS, hT⟩
  case round =>
    clear hS hT
    obtain ⟨k, hk, rfl, hS, hT⟩ := hrel
    have hc : k = 0 ∨ k = 1 ∨ k = 2 ∨ k = 3 ∨ k = 4 := by omega
    rcases hc with rfl | rfl | rfl | rfl | rfl
    · go_wp2_with (first | (go_at_call 5; refine (bin_any _ _ _ _ (by first | exact i64_0 | exact i64_1) _).mono ?_; rintro e w3 ⟨rfl, hB3⟩; have hS := step hS hB3; have hT := hT.on hB3; clear hB3; obtain ⟨c, c0, c1, c2, c3⟩ := hT))
      exact ⟨⟨1, by omega, rfl, hS, ⟨c, c0, c1, c2, c3⟩⟩, by decide⟩
    · go_wp2_with (first | (go_at_call 5; refine (bin_any _ _ _ _ (by first | exact i64_0 | exact i64_1) _).mono ?_; rintro e w3 ⟨rfl, hB3⟩; have hS := step hS hB3; have hT := hT.on hB3; clear hB3; obtain ⟨c, c0, c1, c2, c3⟩ := hT))
      exact ⟨⟨2, by omega, rfl, hS, ⟨c, c0, c1, c2, c3⟩⟩, by decide⟩
    · go_wp2_with (first | (go_at_call 5; refine (bin_any _ _ _ _ (by first | exact i64_0 | exact i64_1) _).mono ?_; rintro e w3 ⟨rfl, hB3⟩; have hS := step hS hB3; have hT := hT.on hB3; clear hB3; obtain ⟨c, c0, c1, c2, c3⟩ := hT))
      exact ⟨⟨3, by omega, rfl, hS, ⟨c, c0, c1, c2, c3⟩⟩, by decide⟩
    · go_wp2_with (first | (go_at_call 5; refine (bin_any _ _ _ _ (by first | exact i64_0 | exact i64_1) _).mono ?_; rintro e w3 ⟨rfl, hB3⟩; have hS := step hS hB3; have hT := hT.on hB3; clear hB3; obtain ⟨c, c0, c1, c2, c3⟩ := hT))
      exact ⟨⟨4, by omega, rfl, hS, ⟨c, c0, c1, c2, c3⟩⟩, by decide⟩
    · go_wp2
      go_ret
      exact ⟨rfl, hS⟩

set_option maxHeartbeats 4000000 in
theorem op14 (w : World) :
    Calls Try.prog 3 #[.int .i64 14] w fun e w' => e = .returned (.bool true) ∧ Below w.heap.size w w' := by
  have n0 : Bv.binN 14 1 0 0 = 1 := by kernel_rfl
  have k0 : Bv.binK 14 1 0 0 = 1 := by kernel_rfl
  have b0 : Bv.binB 14 1 0 0 = true := by kernel_rfl
  have n1 : Bv.binN 14 1 0 1 = 0 := by kernel_rfl
  have k1 : Bv.binK 14 1 0 1 = 1 := by kernel_rfl
  have b1 : Bv.binB 14 1 0 1 = true := by kernel_rfl
  have n2 : Bv.binN 14 1 1 0 = 0 := by kernel_rfl
  have k2 : Bv.binK 14 1 1 0 = 1 := by kernel_rfl
  have b2 : Bv.binB 14 1 1 0 = true := by kernel_rfl
  have n3 : Bv.binN 14 1 1 1 = 1 := by kernel_rfl
  have k3 : Bv.binK 14 1 1 1 = 1 := by kernel_rfl
  have b3 : Bv.binB 14 1 1 1 = true := by kernel_rfl
  go_enter Try.func3, Try.ntmps3
  go_wp2_with (first | (go_at_call 4; refine (alive_any _).mono ?_; rintro e w1 ⟨rfl, hB⟩))
  have hS := hB.alloc hB.size (.cells (List.toArray (.int .i64 0 :: .int .i64 0 :: .int .i64 0 :: .int .i64 0 :: .int .i64 0 :: .int .i64 0 :: .int .i64 0 :: .int .i64 0 :: .int .i64 0 :: .int .i64 0 :: .int .i64 0 :: .int .i64 0 :: .int .i64 0 :: .int .i64 0 :: .int .i64 0 :: .int .i64 0 :: .int .i64 0 :: .int .i64 0 :: .int .i64 0 :: .int .i64 0 :: .int .i64 0 :: .int .i64 0 :: .int .i64 0 :: .int .i64 0 :: .int .i64 0 :: .int .i64 0 :: .int .i64 0 :: .int .i64 0 :: .int .i64 0 :: .int .i64 0 :: .int .i64 0 :: .int .i64 0 :: .int .i64 0 :: .int .i64 0 :: .int .i64 0 :: .int .i64 1 :: .int .i64 0 :: .int .i64 1 :: .int .i64 1 :: .int .i64 1 :: .int .i64 0 :: .int .i64 1 :: .int .i64 1 :: .int .i64 0 :: .int .i64 1 :: .int .i64 1 :: .int .i64 0 :: .int .i64 1 :: .int .i64 0 :: .int .i64 0 :: .int .i64 0 :: .int .i64 0 :: .int .i64 0 :: .int .i64 0 :: .int .i64 0 :: .int .i64 0 :: .int .i64 1 :: .int .i64 0 :: .int .i64 0 :: .int .i64 1 :: .int .i64 0 :: .int .i64 1 :: .int .i64 1 :: .int .i64 0 :: [])) 23)
  have hT : Tab w1.heap.size 56 1 0 0 1 (w1.alloc (.cells (List.toArray (.int .i64 0 :: .int .i64 0 :: .int .i64 0 :: .int .i64 0 :: .int .i64 0 :: .int .i64 0 :: .int .i64 0 :: .int .i64 0 :: .int .i64 0 :: .int .i64 0 :: .int .i64 0 :: .int .i64 0 :: .int .i64 0 :: .int .i64 0 :: .int .i64 0 :: .int .i64 0 :: .int .i64 0 :: .int .i64 0 :: .int .i64 0 :: .int .i64 0 :: .int .i64 0 :: .int .i64 0 :: .int .i64 0 :: .int .i64 0 :: .int .i64 0 :: .int .i64 0 :: .int .i64 0 :: .int .i64 0 :: .int .i64 0 :: .int .i64 0 :: .int .i64 0 :: .int .i64 0 :: .int .i64 0 :: .int .i64 0 :: .int .i64 0 :: .int .i64 1 :: .int .i64 0 :: .int .i64 1 :: .int .i64 1 :: .int .i64 1 :: .int .i64 0 :: .int .i64 1 :: .int .i64 1 :: .int .i64 0 :: .int .i64 1 :: .int .i64 1 :: .int .i64 0 :: .int .i64 1 :: .int .i64 0 :: .int .i64 0 :: .int .i64 0 :: .int .i64 0 :: .int .i64 0 :: .int .i64 0 :: .int .i64 0 :: .int .i64 0 :: .int .i64 1 :: .int .i64 0 :: .int .i64 0 :: .int .i64 1 :: .int .i64 0 :: .int .i64 1 :: .int .i64 1 :: .int .i64 0 :: [])) 23)) := ⟨by simp, by simp, by simp, by simp, by simp⟩
  generalize w1.alloc (.cells (List.toArray (.int .i64 0 :: .int .i64 0 :: .int .i64 0 :: .int .i64 0 :: .int .i64 0 :: .int .i64 0 :: .int .i64 0 :: .int .i64 0 :: .int .i64 0 :: .int .i64 0 :: .int .i64 0 :: .int .i64 0 :: .int .i64 0 :: .int .i64 0 :: .int .i64 0 :: .int .i64 0 :: .int .i64 0 :: .int .i64 0 :: .int .i64 0 :: .int .i64 0 :: .int .i64 0 :: .int .i64 0 :: .int .i64 0 :: .int .i64 0 :: .int .i64 0 :: .int .i64 0 :: .int .i64 0 :: .int .i64 0 :: .int .i64 0 :: .int .i64 0 :: .int .i64 0 :: .int .i64 0 :: .int .i64 0 :: .int .i64 0 :: .int .i64 0 :: .int .i64 1 :: .int .i64 0 :: .int .i64 1 :: .int .i64 1 :: .int .i64 1 :: .int .i64 0 :: .int .i64 1 :: .int .i64 1 :: .int .i64 0 :: .int .i64 1 :: .int .i64 1 :: .int .i64 0 :: .int .i64 1 :: .int .i64 0 :: .int .i64 0 :: .int .i64 0 :: .int .i64 0 :: .int .i64 0 :: .int .i64 0 :: .int .i64 0 :: .int .i64 0 :: .int .i64 1 :: .int .i64 0 :: .int .i64 0 :: .int .i64 1 :: .int .i64 0 :: .int .i64 1 :: .int .i64 1 :: .int .i64 0 :: [])) 23) = w2 at hS hT ⊢
  generalize w1.heap.size = n at hT ⊢
  clear hB
  go_loopw [5] (fun i w' => ∃ k : Nat, k ≤ 4 ∧ i = .int .i64 k ∧ Below w.heap.size w w' ∧ Tab n 56 1 0 0 1 w') (fun i _ => 4 - (intOf i).toNat)
  case atStart => exact ⟨0, by omega, rfl, hS, hT⟩
  case round =>
    clear hS hT
    obtain ⟨k, hk, rfl, hS, hT⟩ := hrel
    have hc : k = 0 ∨ k = 1 ∨ k = 2 ∨ k = 3 ∨ k = 4 := by omega
    rcases hc with rfl | rfl | rfl | rfl | rfl
    · go_wp2_with (first | (go_at_call 5; refine (bin_any _ _ _ _ (by first | exact i64_0 | exact i64_1) _).mono ?_; rintro e w3 ⟨rfl, hB3⟩; have hS := step hS hB3; have hT := hT.on hB3; clear hB3; obtain ⟨c, c0, c1, c2, c3⟩ := hT))
      exact ⟨⟨1, by omega, rfl, hS, ⟨c, c0, c1, c2, c3⟩⟩, by decide⟩
    · go_wp2_with (first | (go_at_call 5; refine (bin_any _ _ _ _ (by first | exact i64_0 | exact i64_1) _).mono ?_; rintro e w3 ⟨rfl, hB3⟩; have hS := step hS hB3; have hT := hT.on hB3; clear hB3; obtain ⟨c, c0, c1, c2, c3⟩ := hT))
      exact ⟨⟨2, by omega, rfl, hS, ⟨c, c0, c1, c2, c3⟩⟩, by decide⟩
    · go_wp2_with (first | (go_at_call 5; refine (bin_any _ _ _ _ (by first | exact i64_0 | exact i64_1) _).mono ?_; rintro e w3 ⟨rfl, hB3⟩; have hS := step hS hB3; have hT := hT.on hB3; clear hB3; obtain ⟨c, c0, c1, c2, c3⟩ := hT))
      exact ⟨⟨3, by omega, rfl, hS, ⟨c, c0, c1, c2, c3⟩⟩, by decide⟩
    · go_wp2_with (first | (go_at_call 5; refine (bin_any _ _ _ _ (by first | exact i64_0 | exact i64_1) _).mono ?_; rintro e w3 ⟨rfl, hB3⟩; have hS := step hS hB3; have hT := hT.on hB3; clear hB3; obtain ⟨c, c0, c1, c2, c3⟩ := hT))
      exact ⟨⟨4, by omega, rfl, hS, ⟨c, c0, c1, c2, c3⟩⟩, by decide⟩
    · go_wp2
      go_ret
      exact ⟨rfl, hS⟩

set_option maxHeartbeats 4000000 in
theorem op15 (w : World) :
    Calls Try.prog 3 #[.int .i64 15] w fun e w' => e = .returned (.bool true) ∧ Below w.heap.size w w' := by
  have n0 : Bv.binN 15 1 0 0 = 0 := by kernel_rfl
  have k0 : Bv.binK 15 1 0 0 = 1 := by kernel_rfl
  have b0 : Bv.binB 15 1 0 0 = true := by kernel_rfl
  have n1 : Bv.binN 15 1 0 1 = 1 := by kernel_rfl
  have k1 : Bv.binK 15 1 0 1 = 1 := by kernel_rfl
  have b1 : Bv.binB 15 1 0 1 = true := by kernel_rfl
  have n2 : Bv.binN 15 1 1 0 = 1 := by kernel_rfl
  have k2 : Bv.binK 15 1 1 0 = 1 := by kernel_rfl
  have b2 : Bv.binB 15 1 1 0 = true := by kernel_rfl
  have n3 : Bv.binN 15 1 1 1 = 0 := by kernel_rfl
  have k3 : Bv.binK 15 1 1 1 = 1 := by kernel_rfl
  have b3 : Bv.binB 15 1 1 1 = true := by kernel_rfl
  go_enter Try.func3, Try.ntmps3
  go_wp2_with (first | (go_at_call 4; refine (alive_any _).mono ?_; rintro e w1 ⟨rfl, hB⟩))
  have hS := hB.alloc hB.size (.cells (List.toArray (.int .i64 0 :: .int .i64 0 :: .int .i64 0 :: .int .i64 0 :: .int .i64 0 :: .int .i64 0 :: .int .i64 0 :: .int .i64 0 :: .int .i64 0 :: .int .i64 0 :: .int .i64 0 :: .int .i64 0 :: .int .i64 0 :: .int .i64 0 :: .int .i64 0 :: .int .i64 0 :: .int .i64 0 :: .int .i64 0 :: .int .i64 0 :: .int .i64 0 :: .int .i64 0 :: .int .i64 0 :: .int .i64 0 :: .int .i64 0 :: .int .i64 0 :: .int .i64 0 :: .int .i64 0 :: .int .i64 0 :: .int .i64 0 :: .int .i64 0 :: .int .i64 0 :: .int .i64 0 :: .int .i64 0 :: .int .i64 0 :: .int .i64 0 :: .int .i64 1 :: .int .i64 0 :: .int .i64 1 :: .int .i64 1 :: .int .i64 1 :: .int .i64 0 :: .int .i64 1 :: .int .i64 1 :: .int .i64 0 :: .int .i64 1 :: .int .i64 1 :: .int .i64 0 :: .int .i64 1 :: .int .i64 0 :: .int .i64 0 :: .int .i64 0 :: .int .i64 0 :: .int .i64 0 :: .int .i64 0 :: .int .i64 0 :: .int .i64 0 :: .int .i64 1 :: .int .i64 0 :: .int .i64 0 :: .int .i64 1 :: .int .i64 0 :: .int .i64 1 :: .int .i64 1 :: .int .i64 0 :: [])) 23)
  have hT : Tab w1.heap.size 60 0 1 1 0 (w1.alloc (.cells (List.toArray (.int .i64 0 :: .int .i64 0 :: .int .i64 0 :: .int .i64 0 :: .int .i64 0 :: .int .i64 0 :: .int .i64 0 :: .int .i64 0 :: .int .i64 0 :: .int .i64 0 :: .int .i64 0 :: .int .i64 0 :: .int .i64 0 :: .int .i64 0 :: .int .i64 0 :: .int .i64 0 :: .int .i64 0 :: .int .i64 0 :: .int .i64 0 :: .int .i64 0 :: .int .i64 0 :: .int .i64 0 :: .int .i64 0 :: .int .i64 0 :: .int .i64 0 :: .int .i64 0 :: .int .i64 0 :: .int .i64 0 :: .int .i64 0 :: .int .i64 0 :: .int .i64 0 :: .int .i64 0 :: .int .i64 0 :: .int .i64 0 :: .int .i64 0 :: .int .i64 1 :: .int .i64 0 :: .int .i64 1 :: .int .i64 1 :: .int .i64 1 :: .int .i64 0 :: .int .i64 1 :: .int .i64 1 :: .int .i64 0 :: .int .i64 1 :: .int .i64 1 :: .int .i64 0 :: .int .i64 1 :: .int .i64 0 :: .int .i64 0 :: .int .i64 0 :: .int .i64 0 :: .int .i64 0 :: .int .i64 0 :: .int .i64 0 :: .int .i64 0 :: .int .i64 1 :: .int .i64 0 :: .int .i64 0 :: .int .i64 1 :: .int .i64 0 :: .int .i64 1 :: .int .i64 1 :: .int .i64 0 :: [])) 23)) := ⟨by simp, by simp, by simp, by simp, by simp⟩
  generalize w1.alloc (.cells (List.toArray (.int .i64 0 :: .int .i64 0 :: .int .i64 0 :: .int .i64 0 :: .int .i64 0 :: .int .i64 0 :: .int .i64 0 :: .int .i64 0 :: .int .i64 0 :: .int .i64 0 :: .int .i64 0 :: .int .i64 0 :: .int .i64 0 :: .int .i64 0 :: .int .i64 0 :: .int .i64 0 :: .int .i64 0 :: .int .i64 0 :: .int .i64 0 :: .int .i64 0 :: .int .i64 0 :: .int .i64 0 :: .int .i64 0 :: .int .i64 0 :: .int .i64 0 :: .int .i64 0 :: .int .i64 0 :: .int .i64 0 :: .int .i64 0 :: .int .i64 0 :: .int .i64 0 :: .int .i64 0 :: .int .i64 0 :: .int .i64 0 :: .int .i64 0 :: .int .i64 1 :: .int .i64 0 :: .int .i64 1 :: .int .i64 1 :: .int .i64 1 :: .int .i64 0 :: .int .i64 1 :: .int .i64 1 :: .int .i64 0 :: .int .i64 1 :: .int .i64 1 :: .int .i64 0 :: .int .i64 1 :: .int .i64 0 :: .int .i64 0 :: .int .i64 0 :: .int .i64 0 :: .int .i64 0 :: .int .i64 0 :: .int .i64 0 :: .int .i64 0 :: .int .i64 1 :: .int .i64 0 :: .int .i64 0 :: .int .i64 1 :: .int .i64 0 :: .int .i64 1 :: .int .i64 1 :: .int .i64 0 :: [])) 23) = w2 at hS hT ⊢
  generalize w1.heap.size = n at hT ⊢
  clear hB
  go_loopw [5] (fun i w' => ∃ k : Nat, k ≤ 4 ∧ i = .int .i64 k ∧ Below w.heap.size w w' ∧ Tab n 60 0 1 1 0 w') (fun i _ => 4 - (intOf i).toNat)
  case atStart => exact ⟨0, by omega, rfl, hS, hT⟩
  case round =>
    clear hS hT
    obtain ⟨k, hk, rfl, hS, hT⟩ := hrel
    have hc : k = 0 ∨ k = 1 ∨ k = 2 ∨ k = 3 ∨ k = 4 := by omega
    rcases hc with rfl | rfl | rfl | rfl | rfl
    · go_wp2_with (first | (go_at_call 5; refine (bin_any _ _ _ _ (by first | exact i64_0 | exact i64_1) _).mono ?_; rintro e w3 ⟨rfl, hB3⟩; have hS := step hS hB3; have hT := hT.on hB3; clear hB3; obtain ⟨c, c0, c1, c2, c3⟩ := hT))
      exact ⟨⟨1, by omega, rfl, hS, ⟨c, c0, c1, c2, c3⟩⟩, by decide⟩
    · go_wp2_with (first | (go_at_call 5; refine (bin_any _ _ _ _ (by first | exact i64_0 | exact i64_1) _).mono ?_; rintro e w3 ⟨rfl, hB3⟩; have hS := step hS hB3; have hT := hT.on hB3; clear hB3; obtain ⟨c, c0, c1, c2, c3⟩ := hT))
      exact ⟨⟨2, by omega, rfl, hS, ⟨c, c0, c1, c2, c3⟩⟩, by decide⟩
    · go_wp2_with (first | (go_at_call 5; refine (bin_any _ _ _ _ (by first | exact i64_0 | exact i64_1) _).mono ?_; rintro e w3 ⟨rfl, hB3⟩; have hS := step hS hB3; have hT := hT.on hB3; clear hB3; obtain ⟨c, c0, c1, c2, c3⟩ := hT))
      exact ⟨⟨3, by omega, rfl, hS, ⟨c, c0, c1, c2, c3⟩⟩, by decide⟩
    · go_wp2_with (first | (go_at_call 5; refine (bin_any _ _ _ _ (by first | exact i64_0 | exact i64_1) _).mono ?_; rintro e w3 ⟨rfl, hB3⟩; have hS := step hS hB3; have hT := hT.on hB3; clear hB3; obtain ⟨c, c0, c1, c2, c3⟩ := hT))
      exact ⟨⟨4, by omega, rfl, hS, ⟨c, c0, c1, c2, c3⟩⟩, by decide⟩
    · go_wp2
      go_ret
      exact ⟨rfl, hS⟩
set_option maxHeartbeats 4000000 in
theorem unknown (op : Int) (h : op < 8 ∨ op = 12 ∨ op = 13 ∨ 15 < op) (w : World) :
    Calls Try.prog 3 #[.int .i64 op] w fun e w' => e = .returned (.bool true) ∧ Below w.heap.size w w' := by
  have b0 := un_known op 0 0 h
  have b1 := un_known op 0 1 h
  have b2 := un_known op 1 0 h
  have b3 := un_known op 1 1 h
  have t1 : (op == 14) = false := by rw [beq_eq_false_iff_ne]; omega
  have t2 : (op == 15) = false := by rw [beq_eq_false_iff_ne]; omega
  have hc : op < 8 ∨ (8 ≤ op ∧ 11 < op) := by omega
  clear h
  rcases hc with h | ⟨h8, h⟩
  all_goals
    go_enter Try.func3, Try.ntmps3
    go_wp2_with (first | (go_at_call 4; refine (alive_any _).mono ?_; rintro e w1 ⟨rfl, hB⟩))
    have hS := hB.alloc hB.size (.cells (List.toArray (.int .i64 0 :: .int .i64 0 :: .int .i64 0 :: .int .i64 0 :: .int .i64 0 :: .int .i64 0 :: .int .i64 0 :: .int .i64 0 :: .int .i64 0 :: .int .i64 0 :: .int .i64 0 :: .int .i64 0 :: .int .i64 0 :: .int .i64 0 :: .int .i64 0 :: .int .i64 0 :: .int .i64 0 :: .int .i64 0 :: .int .i64 0 :: .int .i64 0 :: .int .i64 0 :: .int .i64 0 :: .int .i64 0 :: .int .i64 0 :: .int .i64 0 :: .int .i64 0 :: .int .i64 0 :: .int .i64 0 :: .int .i64 0 :: .int .i64 0 :: .int .i64 0 :: .int .i64 0 :: .int .i64 0 :: .int .i64 0 :: .int .i64 0 :: .int .i64 1 :: .int .i64 0 :: .int .i64 1 :: .int .i64 1 :: .int .i64 1 :: .int .i64 0 :: .int .i64 1 :: .int .i64 1 :: .int .i64 0 :: .int .i64 1 :: .int .i64 1 :: .int .i64 0 :: .int .i64 1 :: .int .i64 0 :: .int .i64 0 :: .int .i64 0 :: .int .i64 0 :: .int .i64 0 :: .int .i64 0 :: .int .i64 0 :: .int .i64 0 :: .int .i64 1 :: .int .i64 0 :: .int .i64 0 :: .int .i64 1 :: .int .i64 0 :: .int .i64 1 :: .int .i64 1 :: .int .i64 0 :: [])) 23)
    generalize w1.alloc (.cells (List.toArray (.int .i64 0 :: .int .i64 0 :: .int .i64 0 :: .int .i64 0 :: .int .i64 0 :: .int .i64 0 :: .int .i64 0 :: .int .i64 0 :: .int .i64 0 :: .int .i64 0 :: .int .i64 0 :: .int .i64 0 :: .int .i64 0 :: .int .i64 0 :: .int .i64 0 :: .int .i64 0 :: .int .i64 0 :: .int .i64 0 :: .int .i64 0 :: .int .i64 0 :: .int .i64 0 :: .int .i64 0 :: .int .i64 0 :: .int .i64 0 :: .int .i64 0 :: .int .i64 0 :: .int .i64 0 :: .int .i64 0 :: .int .i64 0 :: .int .i64 0 :: .int .i64 0 :: .int .i64 0 :: .int .i64 0 :: .int .i64 0 :: .int .i64 0 :: .int .i64 1 :: .int .i64 0 :: .int .i64 1 :: .int .i64 1 :: .int .i64 1 :: .int .i64 0 :: .int .i64 1 :: .int .i64 1 :: .int .i64 0 :: .int .i64 1 :: .int .i64 1 :: .int .i64 0 :: .int .i64 1 :: .int .i64 0 :: .int .i64 0 :: .int .i64 0 :: .int .i64 0 :: .int .i64 0 :: .int .i64 0 :: .int .i64 0 :: .int .i64 0 :: .int .i64 1 :: .int .i64 0 :: .int .i64 0 :: .int .i64 1 :: .int .i64 0 :: .int .i64 1 :: .int .i64 1 :: .int .i64 0 :: [])) 23) = w2 at hS ⊢
    generalize w1.heap.size = n
    clear hB
    go_loopw [5] (fun i w' => ∃ k : Nat, k ≤ 4 ∧ i = .int .i64 k ∧ Below w.heap.size w w') (fun i _ => 4 - (intOf i).toNat)
    case atStart => exact ⟨0, by omega, rfl, hS⟩
    case round =>
      clear hS
      obtain ⟨k, hk, rfl, hS⟩ := hrel
      have hc : k = 0 ∨ k = 1 ∨ k = 2 ∨ k = 3 ∨ k = 4 := by omega
      rcases hc with rfl | rfl | rfl | rfl | rfl
      · go_wp2_with (first | (go_at_call 5; refine (bin_any _ _ _ _ (by first | exact i64_0 | exact i64_1) _).mono ?_; rintro e w3 ⟨rfl, hB3⟩; have hS := step hS hB3; clear hB3))
        exact ⟨⟨1, by omega, rfl, hS⟩, by decide⟩
      · go_wp2_with (first | (go_at_call 5; refine (bin_any _ _ _ _ (by first | exact i64_0 | exact i64_1) _).mono ?_; rintro e w3 ⟨rfl, hB3⟩; have hS := step hS hB3; clear hB3))
        exact ⟨⟨2, by omega, rfl, hS⟩, by decide⟩
      · go_wp2_with (first | (go_at_call 5; refine (bin_any _ _ _ _ (by first | exact i64_0 | exact i64_1) _).mono ?_; rintro e w3 ⟨rfl, hB3⟩; have hS := step hS hB3; clear hB3))
        exact ⟨⟨3, by omega, rfl, hS⟩, by decide⟩
      · go_wp2_with (first | (go_at_call 5; refine (bin_any _ _ _ _ (by first | exact i64_0 | exact i64_1) _).mono ?_; rintro e w3 ⟨rfl, hB3⟩; have hS := step hS hB3; clear hB3))
        exact ⟨⟨4, by omega, rfl, hS⟩, by decide⟩
      · go_wp2
        go_ret
        exact ⟨rfl, hS⟩

theorem walk (a0 : Int) (w0 : (Lit.int .i64 a0).wf = true) (w : World) :
    Calls Try.prog 3 #[.int .i64 a0] w fun e w' => e = .returned (.bool true) ∧ Below w.heap.size w w' := by
  by_cases h : a0 < 8 ∨ a0 = 12 ∨ a0 = 13 ∨ 15 < a0
  · exact unknown a0 h w
  · have hc : a0 = 8 ∨ a0 = 9 ∨ a0 = 10 ∨ a0 = 11 ∨ a0 = 14 ∨ a0 = 15 := by omega
    rcases hc with rfl | rfl | rfl | rfl | rfl | rfl
    · exact op8 w
    · exact op9 w
    · exact op10 w
    · exact op11 w
    · exact op14 w
    · exact op15 w

set_option maxRecDepth 100000 in
theorem lifted (os : Os) (started : os.Started) (H : Type) (enc : TypeId × Value → H) :
    ReturnsInHanded {} Try.checked os 3 .any (Rows.bvBoolsSpec.pre6 enc Try.prog Try.f3 Rows.bvBoolsRow.domain false) (Rows.bvBoolsSpec.post enc Try.prog Try.f3 false true false false) := by
  refine returnsInHanded_of_change (C := Try.checked) own started (by kernel_rfl) Try.func3
    (ChangeSpec.witness6 (enc := enc) (C := Try.checked) false ⟨#[], #[.int .i64 0], []⟩ 8 (by kernel_rfl) (by kernel_rfl) (by kernel_rfl) (by kernel_rfl)) ?_
  intro W base args ds gs before hval0 hW hcnd _
  have hval : ∀ (j : Nat) t v, Try.f3.params[j]? = some t → args[j]? = some v → Value.okWide Try.prog W .any base t v := hval0
  have hW' := hW
  obtain ⟨p, q, hA0, hV, rfl, hfz, hnd⟩ := hW
  have hA : DataW.TrodAll enc Try.prog W 0 (fun _ => true) true Try.f3.params.toList args.toList ds p := hA0
  rw [Try.params3] at hA hval
  obtain ⟨v0, vs0, d0, ds0, p0, q0, hargs, rfl, rfl, h0, r0⟩ := trodAll_cons hA
  obtain ⟨rfl, rfl, rfl⟩ := trodAll_nil r0
  obtain rfl : args = #[v0] := by cases args; simp_all
  obtain ⟨rfl, rfl⟩ := trodVars_none hV
  obtain ⟨a0, rfl, rfl, rfl, w0⟩ := open_int Try.underlying3 (hval 0 3 v0 rfl rfl) h0
  clear hA0 hval0
  simp only [List.append_nil] at hW'
  refine (walk a0 w0 W).mono fun e W' ⟨he, hg⟩ => ?_
  subst he
  exact ⟨_, rfl, _, _, _, [], [], [], hW', trodAll_mk1 (shut_bool Try.underlying4 _), (trodAll_cons_mk (shut_int Try.underlying3 w0) trodAll_mk0), rfl, hg.frame _, fun h => by cases h⟩

theorem over : Rows.bvBoolsRow.holds Try.pinned (OpenSpec.ofChange Rows.bvBoolsSpec) :=
  OpenClaim.holds_of_wide 3 Try.f3 rfl rfl rfl rfl rfl rfl rfl ⟨rfl, rfl, rfl, rfl, rfl⟩ rfl rfl rfl rfl rfl (by kernel_rfl) Try.func3 (by kernel_rfl)
    (of_decide_eq_true (by kernel_rfl)) (by unfold Func.isWrapper; first | (rw [if_pos (by decide +kernel)]; kernel_rfl) | (rw [if_neg (by decide +kernel)]; exact ⟨rfl, rfl⟩))
    (fun os started H enc _ => lifted os started H enc)

theorem proved : Rows.BvBoolsSaid :=
  over
end Go.Proofs.Ytjlphploknhcfac.bvBools
namespace Go.Proofs.Ytjlphploknhcfac
theorem bvBools_holds : Rows.BvBoolsSaid := bvBools.proved
#print axioms bvBools_holds
end Go.Proofs.Ytjlphploknhcfac
