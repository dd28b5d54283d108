/- The machine's values are numbers of 64 bits (plain). -/
import Derived.Test.YthcejnfnamhpfaaGreatExM
import Derived.Test.YthcejnfnamhpfaaGreatJnB
namespace Go.Proofs.YthcejnfnamhpfaaGreat.Ex
open Go.RowKit
open Bv (I64)

theorem i64_tmod {a : Int} (b : Int) (h : I64 a) : I64 (a.tmod b) := by
  unfold I64 at *
  rcases Int.le_total 0 a with h0 | h0
  · have h1 := Int.tmod_nonneg b h0
    have h2 : (a.tmod b).natAbs ≤ a.natAbs := by rw [Int.natAbs_tmod]; exact Nat.mod_le _ _
    omega
  · have h1 := Int.tmod_nonneg b (show 0 ≤ -a by omega)
    rw [Int.neg_tmod] at h1
    have h2 : (a.tmod b).natAbs ≤ a.natAbs := by rw [Int.natAbs_tmod]; exact Nat.mod_le _ _
    omega
theorem i64_one (b : Bool) : I64 (Bv.one b) := by cases b <;> simp [Bv.one, I64]
theorem i64_shr {a : Int} (m : Nat) (h : I64 a) : I64 (a / 2 ^ m) := by
  have hp : (0 : Int) < 2 ^ m := Int.pow_pos (by decide)
  have h1 : (1 : Int) ≤ 2 ^ m := hp
  unfold I64 at *
  obtain ⟨l, u⟩ := h
  constructor
  · refine Int.le_ediv_of_mul_le hp ?_
    have := Int.mul_le_mul_of_nonneg_left h1 (show (0 : Int) ≤ 9223372036854775808 by decide)
    omega
  · rcases Int.le_total 0 a with h0 | h0
    · exact Int.le_trans (Int.ediv_le_self _ h0) u
    · have : a / 2 ^ m ≤ 0 := Int.ediv_nonpos_of_nonpos_of_neg h0 hp
      omega
theorem i64_wrapi (x : Int) : I64 (IntKind.i64.wrap x) := by
  have h := Bv.i64_wrap64 x
  rw [IntKind.wrap_i64]
  first | exact h | (unfold wrap64 at h; exact h)
theorem i64_unN (o k a : Int) : I64 (Bv.unN o k a) := by
  unfold Bv.unN
  split
  · refine Bv.wrp_i64 _ _ ?_
    unfold Bv.unV
    split
    · exact Bv.i64_bits ..
    · exact Bv.i64_wrap64 _
  · simp [I64]
theorem i64_casN {f t a : Int} (h : I64 a) : I64 (Bv.casN f t a) := by
  unfold Bv.casN
  split
  · refine Bv.wrp_i64 _ _ ?_
    split
    · exact i64_one _
    · exact h
  · simp [I64]
theorem i64_vdiv (k a b : Int) : I64 (Bv.vdiv k a b) := by
  unfold Bv.vdiv
  split
  · simp [I64]
  · split <;> exact Bv.i64_wrap64 _
theorem i64_vmod {a : Int} (k b : Int) (h : I64 a) : I64 (Bv.vmod k a b) := by
  unfold Bv.vmod
  split
  · simp [I64]
  · split
    · exact Bv.i64_wrap64 _
    · exact i64_tmod b h
theorem i64_vshr {a : Int} (k b : Int) (h : I64 a) : I64 (Bv.vshr k a b) := by
  unfold Bv.vshr
  split
  · exact i64_wrapi _
  · exact i64_shr _ h
theorem i64_if {p : Prop} [Decidable p] {a b : Int} (ha : I64 a) (hb : I64 b) : I64 (if p then a else b) := by split <;> assumption
theorem i64_binN {o k a b : Int} (h : I64 a) : I64 (Bv.binN o k a b) := by
  unfold Bv.binN
  split
  · refine Bv.wrp_i64 _ _ ?_
    unfold Bv.vop
    exact i64_if (Bv.i64_wrap64 _) (i64_if (Bv.i64_wrap64 _) (i64_if (Bv.i64_wrap64 _) (i64_if (i64_vdiv ..) (i64_if (i64_vmod _ _ h) (i64_if (Bv.i64_bits ..) (i64_if (Bv.i64_bits ..) (i64_if (Bv.i64_bits ..) (i64_if (Bv.i64_bits ..)
      (i64_if (i64_wrapi _) (i64_if (i64_vshr _ _ h) (i64_if (i64_one _) (i64_if (i64_one _) (i64_if (i64_one _) (i64_if (i64_one _) (i64_if (i64_one _) (i64_one _))))))))))))))))
  · simp [I64]
theorem i64_top {s : List Int} (h : ∀ y ∈ s, I64 y) : I64 (top s) := by
  unfold top
  rw [List.getLastD_eq_getLast?]
  cases hl : s.getLast? with
  | none => simp [I64]
  | some y => exact h y (List.mem_of_getLast? hl)
theorem i64_drop {s : List Int} (h : ∀ y ∈ s, I64 y) : ∀ y ∈ s.dropLast, I64 y := fun y hy => h y (List.dropLast_subset _ hy)
theorem i64_snoc {s : List Int} {a : Int} (h : ∀ y ∈ s, I64 y) (ha : I64 a) : ∀ y ∈ s ++ [a], I64 y := fun y hy => by
  rcases List.mem_append.1 hy with hy | hy
  · exact h y hy
  · rw [List.mem_singleton.1 hy]; exact ha
theorem i64_getD {s : List Int} (h : ∀ y ∈ s, I64 y) (i : Nat) : I64 (s.getD i 0) := by
  rw [List.getD_eq_getElem?_getD]
  cases hl : s[i]? with
  | none => simp [I64]
  | some y => exact h y (List.mem_of_getElem? hl)
/-- an instruction leaves numbers of 64 bits -/
theorem deed_i64 {x : Cd.Ins} {val s : List Int} (hx : I64 x.n) (hv : ∀ y ∈ val, I64 y) (hs : ∀ y ∈ s, I64 y) : (∀ y ∈ (deed x val s).1, I64 y) ∧ ∀ y ∈ (deed x val s).2, I64 y := by
  unfold deed
  repeat' split
  all_goals refine ⟨?_, ?_⟩
  all_goals try exact hv
  all_goals try exact hs
  · exact i64_snoc hs hx
  · exact i64_snoc hs (i64_getD hv _)
  · intro y hy
    rcases List.mem_or_eq_of_mem_set hy with hy | rfl
    · exact hv y hy
    · exact i64_top hs
  · exact i64_drop hs
  · exact i64_snoc (i64_drop hs) (i64_unN ..)
  · exact i64_snoc (i64_drop (i64_drop hs)) (i64_binN (i64_top (i64_drop hs)))
  · exact i64_snoc (i64_drop hs) (i64_casN (i64_top hs))
  · exact i64_drop hs
theorem start_i64 {c : Cd.Code} {cells ins : List Int} (h1 : ∀ y ∈ cells, I64 y) (h2 : ∀ y ∈ ins, I64 y) : ∀ y ∈ start c cells ins, I64 y := fun y hy => by
  simp only [start, List.mem_append, List.mem_replicate] at hy
  rcases hy with hy | ⟨_, rfl⟩ | hy | ⟨_, rfl⟩
  · exact h2 y hy
  · simp [I64]
  · exact h1 y hy
  · simp [I64]
theorem fin_i64 {body : List Cd.Ins} (hb : ∀ x ∈ body, I64 x.n) : ∀ (f pc : Nat) (val s : List Int) (n : Nat), (∀ y ∈ val, I64 y) → (∀ y ∈ s, I64 y) → ∀ y ∈ (fin body f pc val s n).1, I64 y
  | 0, _, _, _, _, hv, _ => hv
  | f + 1, pc, val, s, n, hv, hs => by
    rw [fin]
    split
    · exact hv
    · rename_i x hx
      split
      · exact hv
      · have := deed_i64 (hb x (List.mem_of_getElem? hx)) hv hs
        exact fin_i64 hb f _ _ _ _ this.1 this.2
theorem cells_i64 {c : Cd.Code} {val : List Int} (h : ∀ y ∈ val, I64 y) : ∀ y ∈ cellsOf c val, I64 y := fun y hy => h y (List.mem_of_mem_drop (List.mem_of_mem_take hy))
end Go.Proofs.YthcejnfnamhpfaaGreat.Ex
