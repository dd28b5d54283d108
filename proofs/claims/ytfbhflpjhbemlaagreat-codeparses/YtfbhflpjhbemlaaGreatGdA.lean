/- Stage 19: bytes that are read as code are what Write tells (plain). -/
import Derived.Test.YtfbhflpjhbemlaaGreatJnM
namespace Go.Proofs.YtfbhflpjhbemlaaGreat
open Go.RowKit Go.Maps Go.WideMaps

namespace Cd
theorem rdN_sound : ∀ (k : Nat) (l : List UInt8) (ns : List Int) (r : List UInt8), rdN k l = some (ns, r) → ns.length = k ∧ (∀ n ∈ ns, I64 n) ∧ l = nums ns ++ r
  | 0, l, ns, r, h => by
    cases h
    exact ⟨rfl, fun n hn => (by cases hn), rfl⟩
  | k + 1, l, ns, r, h => by
    rw [rdN] at h
    cases h1 : rd1 l with
    | none => rw [h1] at h; cases h
    | some x =>
      obtain ⟨n, l2⟩ := x
      rw [h1] at h
      simp only at h
      cases h2 : rdN k l2 with
      | none => rw [h2] at h; cases h
      | some y =>
        obtain ⟨ms, l3⟩ := y
        rw [h2] at h
        cases h
        obtain ⟨e1, e2, e3⟩ := rdN_sound k l2 ms _ h2
        obtain ⟨f1, f2⟩ := rd1_sound h1
        refine ⟨by simp [e1], fun m hm => ?_, by rw [nums_cons, List.append_assoc, ← e3]; exact f2⟩
        rcases List.mem_cons.1 hm with rfl | hm
        · exact f1
        · exact e2 m hm
theorem rdI_sound : ∀ (k : Nat) (l : List UInt8) (bs : List Ins) (r : List UInt8), rdI k l = some (bs, r) → bs.length = k ∧ (∀ x ∈ bs, I64 x.op ∧ I64 x.n ∧ I64 x.k) ∧ l = nums (insL bs) ++ r
  | 0, l, ns, r, h => by
    cases h
    exact ⟨rfl, fun n hn => (by cases hn), rfl⟩
  | k + 1, l, ns, r, h => by
    rw [rdI] at h
    cases h1 : rdX l with
    | none => rw [h1] at h; cases h
    | some x =>
      obtain ⟨n, l2⟩ := x
      rw [h1] at h
      simp only at h
      cases h2 : rdI k l2 with
      | none => rw [h2] at h; cases h
      | some y =>
        obtain ⟨ms, l3⟩ := y
        rw [h2] at h
        cases h
        obtain ⟨e1, e2, e3⟩ := rdI_sound k l2 ms _ h2
        unfold rdX at h1
        split at h1
        · rename_i a b c r2 h3
          cases h1
          obtain ⟨_, g2, g3⟩ := rdN_sound 3 l _ _ h3
          refine ⟨by simp [e1], fun m hm => ?_, ?_⟩
          · rcases List.mem_cons.1 hm with rfl | hm
            · exact ⟨g2 _ (by simp), g2 _ (by simp), g2 _ (by simp)⟩
            · exact e2 m hm
          · have e : insL ((⟨a, b, c⟩ : Ins) :: ms) = [a, b, c] ++ insL ms := rfl
            rw [e, nums_append, List.append_assoc, ← e3]
            exact g3
        · cases h1
end Cd
theorem Rds.sound {l1 : List UInt8} {c : Cd.Code} (h : Rds l1 c) : Cd.write c = Cd.magic ++ l1 ∧ I64s c := by
  obtain ⟨⟨l2, l3, l4, l5, l6, r1, r2, r3, r4, r5, r6⟩, k8, ic, ik, b6⟩ := h
  obtain ⟨a1, b1⟩ := Cd.rd1_sound r1
  obtain ⟨_, a2, b2⟩ := Cd.rdN_sound _ _ _ _ r2
  obtain ⟨_, a3, b3⟩ := Cd.rdN_sound _ _ _ _ r3
  obtain ⟨_, a4, b4⟩ := Cd.rdN_sound _ _ _ _ r4
  obtain ⟨a5, b5⟩ := Cd.rd1_sound r5
  obtain ⟨_, a6, b6'⟩ := Cd.rdI_sound _ _ _ _ r6
  refine ⟨?_, a2 _ (by simp), a2 _ (by simp), a2 _ (by simp), a2 _ (by simp), a3, a4, a6, by unfold maxLen; omega, by unfold maxLen; omega, by unfold maxLen; omega⟩
  unfold Cd.write Cd.allL Cd.heads
  rw [b1, b2, b3, b4, b5, b6']
  simp [Cd.nums]
/-- bytes that are no code -/
def NoC (l : List UInt8) : Prop := ∀ c, I64s c → Cd.check c = 0 → Cd.write c ≠ l
theorem noC_cases {l : List UInt8} (h : NoC l) : (¬ ∃ l1, l = Cd.magic ++ l1) ∨ ∃ l1, l = Cd.magic ++ l1 ∧ ((∀ c, ¬ Rds l1 c) ∨ ∃ c, Rds l1 c ∧ I64s c ∧ Cd.check c ≠ 0) := by
  by_cases h1 : ∃ l1, l = Cd.magic ++ l1
  · obtain ⟨l1, e⟩ := h1
    refine .inr ⟨l1, e, ?_⟩
    by_cases h2 : ∃ c, Rds l1 c
    · obtain ⟨c, hc⟩ := h2
      have hs := hc.sound
      exact .inr ⟨c, hc, hs.2, fun h3 => h c hs.2 h3 (hs.1.trans e.symm)⟩
    · exact .inl fun c hc => h2 ⟨c, hc⟩
  · exact .inl h1
/-! the document's own reading -/
namespace Cd
/-- f bytes more at the most -/
def rn : Nat → Nat → Nat → List UInt8 → Int × List UInt8 × Bool
  | 0, _, _, l => (0, l, true)
  | _ + 1, _, _, [] => (0, [], true)
  | f + 1, i, z, c :: r => if c.toNat < 128 then (zag ((z + c.toNat % 128 * P7 i % 18446744073709551616) % 18446744073709551616), r, false) else rn f (i + 1) ((z + c.toNat % 128 * P7 i % 18446744073709551616) % 18446744073709551616) r
theorem rn_bytes : ∀ (f i z y : Nat) (r : List UInt8), f + i = 10 → z < P7 i → z + y * P7 i < 18446744073709551616 → (0 < i → 0 < y) → rn f i z (bytes y ++ r) = (zag (z + y * P7 i), r, false)
  | 0, i, z, y, r, hf, hz, hv, hy => by
    have hi : i = 10 := by omega
    subst hi
    have := hy (by decide)
    have h1 := Nat.le_mul_of_pos_left (P7 10) this
    rw [P7_10] at h1
    rw [P7_10] at hv
    omega
  | f + 1, i, z, y, r, hf, hz, hv, hy => by
    by_cases h1 : y < 128
    · have e : (UInt8.ofNat y).toNat = y := ofNat_toNat (by omega)
      rw [bytes_small h1, List.cons_append, List.nil_append, rn, e, if_pos h1, Nat.mod_eq_of_lt h1, Nat.mod_eq_of_lt (a := y * P7 i) (by omega), Nat.mod_eq_of_lt hv]
    · have e : (UInt8.ofNat (y % 128 + 128)).toNat = y % 128 + 128 := ofNat_toNat (by omega)
      have hq : y = y % 128 + 128 * (y / 128) := by omega
      have e3 : (y % 128 + 128) % 128 = y % 128 := by omega
      have e4 : y * P7 i = (y % 128) * P7 i + y / 128 * (128 * P7 i) := by
        conv => lhs; rw [hq]
        rw [Nat.add_mul, Nat.mul_comm 128 (y / 128), Nat.mul_assoc]
      have e2 : z + (y % 128) * P7 i + y / 128 * P7 (i + 1) = z + y * P7 i := by rw [P7_succ]; omega
      have hz2 : z + (y % 128) * P7 i < P7 (i + 1) := by
        rw [P7_succ]
        have : (y % 128) * P7 i ≤ 127 * P7 i := Nat.mul_le_mul_right _ (by omega)
        omega
      have e5 : (z + y % 128 * P7 i % 18446744073709551616) % 18446744073709551616 = z + y % 128 * P7 i := by
        rw [Nat.mod_eq_of_lt (a := y % 128 * P7 i) (by omega), Nat.mod_eq_of_lt (by omega)]
      rw [bytes_big h1, List.cons_append, rn, e, if_neg (by omega), e3, e5, rn_bytes f (i + 1) _ (y / 128) r (by omega) hz2 (by rw [e2]; exact hv) (fun _ => by omega), e2]
theorem rn_num {n : Int} (h : I64 n) (r : List UInt8) : rn 10 0 0 (num n ++ r) = (n, r, false) := by
  unfold num
  rw [rn_bytes 10 0 0 (zig n) r rfl (P7_pos 0) (by have := zig_lt h; simp [P7]; omega) (fun h => by omega)]
  simp [P7, zag_zig]
theorem rn_len : ∀ (f i z : Nat) (l : List UInt8), (rn f i z l).2.1.length ≤ l.length
  | 0, _, _, _ => Nat.le_refl _
  | _ + 1, _, _, [] => Nat.le_refl _
  | f + 1, i, z, c :: r => by
    rw [rn]
    split
    · simp
    · exact Nat.le_trans (rn_len f (i + 1) _ r) (by simp)
theorem rn_lt : ∀ (f i z : Nat) (l : List UInt8), (rn f i z l).2.2 = false → (rn f i z l).2.1.length < l.length
  | 0, _, _, _, h => by cases h
  | _ + 1, _, _, [], h => by cases h
  | f + 1, i, z, c :: r, h => by
    rw [rn] at h ⊢
    split
    · simp
    · rename_i hc
      rw [if_neg hc] at h
      exact Nat.lt_of_lt_of_le (rn_lt f (i + 1) _ r h) (by simp)
theorem rn_64 : ∀ (f i z : Nat) (l : List UInt8), I64 (rn f i z l).1
  | 0, _, _, _ => ⟨by show (-9223372036854775808 : Int) ≤ 0; omega, by show (0 : Int) ≤ 9223372036854775807; omega⟩
  | _ + 1, _, _, [] => ⟨by show (-9223372036854775808 : Int) ≤ 0; omega, by show (0 : Int) ≤ 9223372036854775807; omega⟩
  | f + 1, i, z, c :: r => by
    rw [rn]
    split
    · exact zag_64 (Nat.mod_lt _ (by decide))
    · exact rn_64 f (i + 1) _ r
/-- so many numbers, up to the first that is none (which is 0) -/
def rl : Nat → List UInt8 → List Int × List UInt8 × Bool
  | 0, l => ([], l, false)
  | k + 1, l => if (rn 10 0 0 l).2.2 = true then ([0], (rn 10 0 0 l).2.1, true) else ((rn 10 0 0 l).1 :: (rl k (rn 10 0 0 l).2.1).1, (rl k (rn 10 0 0 l).2.1).2)
theorem rl_nums : ∀ (ns : List Int) (r : List UInt8), (∀ n ∈ ns, I64 n) → rl ns.length (nums ns ++ r) = (ns, r, false)
  | [], r, _ => rfl
  | n :: ns, r, h => by
    rw [nums_cons, List.append_assoc, List.length_cons, rl, rn_num (h n (by simp))]
    simp only [Bool.false_eq_true, if_false]
    rw [rl_nums ns r (fun m hm => h m (by simp [hm]))]
end Cd
end Go.Proofs.YtfbhflpjhbemlaaGreat
