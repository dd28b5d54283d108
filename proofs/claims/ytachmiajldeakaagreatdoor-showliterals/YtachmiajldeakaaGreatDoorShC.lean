/- show: the digits of a number (strconv.Itoa, FormatUint), the words of the kinds. -/
import Derived.Test.YtachmiajldeakaaGreatDoorShB
import Derived.Test.YtachmiajldeakaaGreatDoorShQ
import Derived.Lib.AppendIntMem
namespace Go.Proofs.YtachmiajldeakaaGreatDoor
open Go.RowKit

/-- the library's table of powers is laid -/
def Tab (w : World) : Prop := Lib.TabIs Tryz.prog w "internal/strconv.uint64pow10" .u64 Lib.pow10Tab
theorem gTab : Tryz.prog.globalNamed "internal/strconv.uint64pow10" = some 2 := by kernel_rfl
theorem Tab.block {w w' : World} (h : Tab w) (hb : w'.heap[2]? = w.heap[2]?) : Tab w' := by
  unfold Tab Lib.TabIs World.var? at *
  rw [gTab] at h ⊢
  simp only [Option.bind_some] at h ⊢
  rw [hb]
  exact h
theorem Tab.lt {w : World} (h : Tab w) : 2 < w.heap.size := by
  unfold Tab Lib.TabIs World.var? at h
  rw [gTab] at h
  simp only [Option.bind_some] at h
  rcases Nat.lt_or_ge 2 w.heap.size with h1 | h1
  · exact h1
  · rw [Array.getElem?_eq_none h1] at h; cases h
theorem Tab.grown {w w' : World} (h : Tab w) (hg : w.grownBy w' none) : Tab w' := h.block (hg.block _ h.lt (by simp))
theorem Tab.kb {B b : Nat} {w w' : World} (h : Tab w) (hB : 7 ≤ B) (k : Kb B b w w') : Tab w' := h.block (k.below.block _ (by omega))

theorem fz_grow (w : World) (k : Nat) (os : Array Obj) : w.grownBy (Go.Sort.grow (w.drewN k) os) none :=
  have h := Lib.below_grow w.heap.size w (Nat.le_refl _) k os
  ⟨h.os, h.tape, h.output, h.size, fun i hi _ => h.block i hi⟩

set_option maxHeartbeats 1000000 in
set_option maxRecDepth 100000 in
theorem ifmtU_small (u : Nat) (hu : u < 100) (w : World) :
    Calls Tryz.prog 161 #[.int .u64 u, .int .i64 10] w fun e w' => e = .returned (.string ⟨(Lib.decDigits u).toArray⟩) ∧ w' = w := by
  have hs := fun wx => Tryz.internal_strconv_small u hu wx
  have hw : IntKind.i64.wrap (u : Int) = u := by rw [IntKind.wrap_i64]; omega
  have iu : (u : Int) < 100 := by omega
  go_enter Tryz.func161, Tryz.ntmps161
  go_wp2_with (go_at_call 193; refine (hs _).mono ?_; rintro e w' ⟨rfl, rfl⟩)
  go_ret
  exact ⟨rfl, rfl⟩

set_option maxHeartbeats 4000000 in
set_option maxRecDepth 100000 in
theorem ifmtU_big (u : Nat) (hu : 100 ≤ u) (hu64 : u < 18446744073709551616) (w : World) (ht : Tab w) :
    Calls Tryz.prog 161 #[.int .u64 u, .int .i64 10] w fun e w' => e = .returned (.string ⟨(Lib.decDigits u).toArray⟩) ∧ w.grownBy w' none := by
  have hu1 : 1 ≤ u := by omega
  have hnd20 : Lib.nDigits u ≤ 20 := by have := Lib.numDigits_eq u hu1 hu64; split at this <;> omega
  have hal : Tryz.prog.arrayLen 224 = 24 := by kernel_rfl
  have hsl : ∀ W, (Instr.sliceAt 224 (.pointer (some ⟨w.heap.size, 0, none⟩)) none (some (.int .i64 (Lib.nDigits u : Int))) none).run Tryz.prog W = .ok (.slice (some ⟨w.heap.size, 0, none⟩) (Lib.nDigits u) 24) W := fun W => by
    rw [run_sliceAt_array_h W 224 ⟨w.heap.size, 0, none⟩ (by kernel_rfl) .i64 (Lib.nDigits u : Int) (by omega) (by rw [hal]; omega)]
    go_simp
  have hH0 := Lib.holds_zero0 w 224 (Lib.nDigits u) (by omega)
  have hfmt := Tryz.internal_strconv_formatBase10 w.heap.size 0 24 u (Array.replicate (Lib.nDigits u) 0) (w.alloc (.cells Lib.zeros24 224)) hH0 (by rw [Array.size_replicate]; exact Lib.lt_pow_nDigits u) hu64 (by rw [Array.size_replicate]; omega)
  rw [Array.size_replicate] at hfmt
  have hnd := Tryz.internal_strconv_numDigits u hu1 hu64 (w.alloc (.cells Lib.zeros24 224)) (Lib.tabIs_alloc ht _)
  have HH0 := Lib.hid hH0
  have iu : (100 : Int) ≤ (u : Int) := by omega
  clear hH0 hal
  go_enter Tryz.func161, Tryz.ntmps161
  go_wp2_with (go_at_call 194; refine hnd.mono ?_; rintro e w' ⟨rfl, rfl⟩)
  go_at_call 195
  refine hfmt.mono ?_
  rintro e w' ⟨rfl, k, v', dk, rfl, hF⟩
  have hcv : (convert 54 9 (.slice (some ⟨w.heap.size, 0, none⟩) (Lib.nDigits u) 24)).run Tryz.prog ((Go.Sort.putRow (fun (b : UInt8) => Value.int .u8 (b.toNat : Int)) (w.alloc (.cells Lib.zeros24 224)) w.heap.size 0 dk).drewN k) = .ok (.string ⟨(Lib.decDigits u).toArray⟩) ((Go.Sort.putRow (fun (b : UInt8) => Value.int .u8 (b.toNat : Int)) (w.alloc (.cells Lib.zeros24 224)) w.heap.size 0 dk).drewN k) := by
    have h := run_convert_bytes_back (P := Tryz.prog) ((Go.Sort.putRow (fun (b : UInt8) => Value.int .u8 (b.toNat : Int)) (w.alloc (.cells Lib.zeros24 224)) w.heap.size 0 dk).drewN k) 54 9 5 ⟨w.heap.size, 0, none⟩ 24 (Lib.decDigits u) Tryz.underlying54 Tryz.underlying5 Tryz.underlying9 (fun j hj => by
      rw [Lib.row_is_numeral hF j hj, Lib.add_plain, World.cell?_drewN]
      exact Go.Sort.cell?_putRow (fun (b : UInt8) => Value.int .u8 (b.toNat : Int)) _ w.heap.size 0 _ dk HH0.out (by rw [hF.size, Array.size_replicate]) j (by rw [hF.size]; rw [Lib.decDigits_length] at hj; exact hj))
    rw [Lib.decDigits_length] at h
    exact h
  obtain ⟨os, eo⟩ := Lib.fin_at w (.cells Lib.zeros24 224) dk k 0
  have HO := Lib.hid eo
  clear eo
  go_wp2
  go_ret
  refine ⟨rfl, ?_⟩
  rw [HO.out]
  exact fz_grow w k os

theorem fmtU_any (u : Nat) (hu64 : u < 18446744073709551616) (w : World) (ht : Tab w) :
    Calls Tryz.prog 133 #[.int .u64 u, .int .i64 10] w fun e w' => e = .returned (.string ⟨(Lib.decDigits u).toArray⟩) ∧ w.grownBy w' none := by
  have hi : Calls Tryz.prog 161 #[.int .u64 u, .int .i64 10] w fun e w' => e = .returned (.string ⟨(Lib.decDigits u).toArray⟩) ∧ w.grownBy w' none := by
    by_cases h : u < 100
    · exact (ifmtU_small u h w).mono (by rintro e w' ⟨rfl, rfl⟩; exact ⟨rfl, World.grownBy.refl _ _⟩)
    · exact ifmtU_big u (by omega) hu64 w ht
  go_enter Tryz.func133, Tryz.ntmps133
  go_wp2_with (go_at_call 161; refine hi.mono ?_; rintro e w' ⟨rfl, hg⟩)
  go_ret
  exact ⟨rfl, hg⟩

/-- a number's digits as show writes them -/
def digL (k n : Int) : List UInt8 := if k = 9 then Lib.decDigits (if 0 ≤ n then n.toNat else (n + 18446744073709551616).toNat) else Lib.itoa n
theorem digits_any (k n : Int) (h1 : -9223372036854775808 ≤ n) (h2 : n ≤ 9223372036854775807) (w : World) (ht : Tab w) :
    Calls Tryz.prog 90 #[.int .i64 k, .int .i64 n] w fun e w' => e = .returned (.string ⟨(digL k n).toArray⟩) ∧ w.grownBy w' none := by
  by_cases hk : k = 9
  · subst hk
    obtain ⟨u, hu⟩ : ∃ u : Nat, u = (if 0 ≤ n then n.toNat else (n + 18446744073709551616).toNat) := ⟨_, rfl⟩
    have hu64 : u < 18446744073709551616 := by rw [hu]; split <;> omega
    have hw : IntKind.u64.wrap n = (u : Int) := by rw [IntKind.wrap_u64, hu]; split <;> omega
    have hf := fmtU_any u hu64 w ht
    have HU := Lib.hid hu
    clear hu
    go_enter Tryz.func90, Tryz.ntmps90
    go_wp2_with (go_at_call 133; refine hf.mono ?_; rintro e w' ⟨rfl, hg⟩)
    go_ret
    refine ⟨?_, hg⟩
    unfold digL
    rw [if_pos rfl, ← HU.out]
    rfl
  · have hb : (k == 9) = false := by rw [beq_eq_false_iff_ne]; exact hk
    have hf := Tryz.strconv_Itoa n h1 h2 w ht
    go_enter Tryz.func90, Tryz.ntmps90
    go_wp2_with (go_at_call 96; refine hf.mono ?_; rintro e w' ⟨rfl, kk, os, rfl⟩)
    go_ret
    refine ⟨?_, fz_grow w kk os⟩
    unfold digL
    rw [if_neg hk]
    rfl

set_option maxHeartbeats 3200000 in
theorem kindText_any (k : Int) (h2 : 2 ≤ k) (h9 : k ≤ 9) (w : World) :
    Calls Tryz.prog 91 #[.int .i64 k] w fun e w' => e = .returned (.string ⟨(Lex.kindS k).toArray⟩) ∧ w.grownBy w' none := by
  rcases Lex.kinds_of k h2 h9 with rfl | rfl | rfl | rfl | rfl | rfl | rfl | rfl
  all_goals
    go_enter Tryz.func91, Tryz.ntmps91
    go_wp2
    go_ret
    exact ⟨rfl, World.grownBy_alloc w _ none⟩

end Go.Proofs.YtachmiajldeakaaGreatDoor
