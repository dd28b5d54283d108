/- The plain mathematics of the machine's code as bytes (chapter 19): numbers, what is written, what is read; no program in sight. -/
import Derived.RowKit
namespace Go.Proofs.Ytlppifnepckpiaa.Cd
open Go.RowKit

structure Ins where
  op : Int
  n : Int
  k : Int
deriving DecidableEq
structure Code where
  kinds : List Int
  ins : Int
  outs : Int
  cells : Int
  init : List Int
  stack : Int
  body : List Ins
deriving DecidableEq

/-! numbers -/
def I64 (n : Int) : Prop := -9223372036854775808 ≤ n ∧ n ≤ 9223372036854775807
/-- the zigzag form -/
def zig (n : Int) : Nat := if 0 ≤ n then (2 * n).toNat else (-2 * n - 1).toNat
def zag (z : Nat) : Int := if z % 2 = 0 then (z / 2 : Nat) else -((z / 2 : Nat) : Int) - 1
theorem zag_zig (n : Int) : zag (zig n) = n := by
  unfold zag zig
  by_cases h : 0 ≤ n
  · rw [if_pos h, if_pos (by omega)]; omega
  · rw [if_neg h, if_neg (by omega)]; omega
theorem zig_lt {n : Int} (h : I64 n) : zig n < 18446744073709551616 := by
  unfold I64 at h
  unfold zig
  split <;> omega
/-- seven bits a byte, the lowest first -/
def bytes (z : Nat) : List UInt8 :=
  if h : z < 128 then [UInt8.ofNat z] else UInt8.ofNat (z % 128 + 128) :: bytes (z / 128)
termination_by z
decreasing_by omega
theorem bytes_small {z : Nat} (h : z < 128) : bytes z = [UInt8.ofNat z] := by rw [bytes, dif_pos h]
theorem bytes_big {z : Nat} (h : ¬ z < 128) : bytes z = UInt8.ofNat (z % 128 + 128) :: bytes (z / 128) := by rw [bytes, dif_neg h]
theorem bytes_len : ∀ (j z : Nat), z < 2 ^ (7 * (j + 1)) → (bytes z).length ≤ j + 1
  | 0, z, h => by rw [bytes_small (by simpa using h)]; simp
  | j + 1, z, h => by
    by_cases h1 : z < 128
    · rw [bytes_small h1]; simp
    · rw [bytes_big h1, List.length_cons]
      have := bytes_len j (z / 128) (by
        rw [show 7 * (j + 1 + 1) = 7 * (j + 1) + 7 by omega, Nat.pow_add] at h
        omega)
      omega
theorem bytes_ne (z : Nat) : bytes z ≠ [] := by
  by_cases h : z < 128
  · rw [bytes_small h]; simp
  · rw [bytes_big h]; simp
/-- a number's bytes -/
def num (n : Int) : List UInt8 := bytes (zig n)
theorem num_len {n : Int} (h : I64 n) : (num n).length ≤ 10 := bytes_len 9 _ (by have := zig_lt h; exact Nat.lt_of_lt_of_le this (by decide))
/-- reading: f bytes at the most -/
def rd : Nat → List UInt8 → Option (Nat × List UInt8)
  | 0, _ => none
  | _ + 1, [] => none
  | f + 1, c :: r => if c.toNat < 128 then some (c.toNat, r) else (rd f r).map fun x => (c.toNat - 128 + 128 * x.1, x.2)
theorem ofNat_toNat {z : Nat} (h : z < 256) : (UInt8.ofNat z).toNat = z := by simp; omega
theorem rd_bytes : ∀ (f z : Nat) (r : List UInt8), (bytes z).length ≤ f → rd f (bytes z ++ r) = some (z, r)
  | 0, z, r, h => absurd (List.eq_nil_of_length_eq_zero (by omega)) (bytes_ne z)
  | f + 1, z, r, h => by
    by_cases h1 : z < 128
    · rw [bytes_small h1, List.cons_append, List.nil_append, rd, ofNat_toNat (by omega), if_pos h1]
    · rw [bytes_big h1] at h ⊢
      rw [List.cons_append, rd, ofNat_toNat (by omega), if_neg (by omega), rd_bytes f (z / 128) r (by simp only [List.length_cons] at h; omega)]
      simp only [Option.map_some]
      congr 2
      omega
/-- a number off the head -/
def rdNum (l : List UInt8) : Option (Int × List UInt8) := (rd 10 l).map fun x => (zag x.1, x.2)
theorem rdNum_num {n : Int} (h : I64 n) (r : List UInt8) : rdNum (num n ++ r) = some (n, r) := by
  unfold rdNum num
  rw [rd_bytes 10 _ r (num_len h), Option.map_some, zag_zig]
def nums (l : List Int) : List UInt8 := (l.map num).flatten
theorem nums_cons (n : Int) (l : List Int) : nums (n :: l) = num n ++ nums l := rfl
theorem nums_append (l m : List Int) : nums (l ++ m) = nums l ++ nums m := by simp [nums]
/-- the numbers that bytes begin with -/
theorem nums_inj : ∀ (l m : List Int), l.length = m.length → (∀ n ∈ l, I64 n) → (∀ n ∈ m, I64 n) → ∀ r s, nums l ++ r = nums m ++ s → l = m ∧ r = s
  | [], [], _, _, _, _, _, h => ⟨rfl, h⟩
  | a :: l, b :: m, hl, ha, hb, r, s, h => by
    rw [nums_cons, nums_cons, List.append_assoc, List.append_assoc] at h
    have h1 := rdNum_num (ha a (by simp)) (nums l ++ r)
    rw [h, rdNum_num (hb b (by simp))] at h1
    have h2 := Option.some.inj h1
    have e1 : b = a := congrArg Prod.fst h2
    have e2 : nums m ++ s = nums l ++ r := congrArg Prod.snd h2
    obtain ⟨e3, e4⟩ := nums_inj l m (by simpa using hl) (fun n h => ha n (by simp [h])) (fun n h => hb n (by simp [h])) r s e2.symm
    exact ⟨by rw [e1, e3], e4⟩
  | [], _ :: _, h, _, _, _, _, _ => by simp at h
  | _ :: _, [], h, _, _, _, _, _ => by simp at h

/-! what is written -/
def insL (b : List Ins) : List Int := (b.map fun x => [x.op, x.n, x.k]).flatten
def magic : List UInt8 := [77, 84, 82, 49]
def heads (c : Code) : List Int := [(c.kinds.length : Int), c.ins, c.outs, c.cells, c.stack]
def allL (c : Code) : List Int := heads c ++ (c.kinds ++ (c.init ++ ((c.body.length : Int) :: insL c.body)))
def write (c : Code) : List UInt8 := magic ++ nums (allL c)
/-- all its numbers are numbers of 64 bits -/
def Fits (c : Code) : Prop := ∀ n ∈ allL c, I64 n
theorem insL_inj : ∀ (b d : List Ins), b.length = d.length → insL b = insL d → b = d
  | [], [], _, _ => rfl
  | x :: b, y :: d, hl, h => by
    simp only [insL, List.map_cons, List.flatten_cons, List.cons_append, List.nil_append, List.cons.injEq] at h
    obtain ⟨h1, h2, h3, h4⟩ := h
    have := insL_inj b d (by simpa using hl) h4
    cases x; cases y
    simp_all
  | [], _ :: _, h, _ => by simp at h
  | _ :: _, [], h, _ => by simp at h
theorem insL_len (b : List Ins) : (insL b).length = 3 * b.length := by
  induction b with
  | nil => rfl
  | cons x b ih =>
    have e : insL (x :: b) = [x.op, x.n, x.k] ++ insL b := rfl
    rw [e, List.length_append, ih, List.length_cons]
    simp
    omega
/-- what is written says what it was -/
theorem write_inj {c d : Code} (hc : Fits c) (hd : Fits d) (ic : (c.init.length : Int) = c.cells) (id : (d.init.length : Int) = d.cells) (h : write c = write d) : c = d := by
  unfold write at h
  have h0 := List.append_cancel_left h
  unfold allL at h0
  rw [nums_append (heads c), nums_append (heads d)] at h0
  have fc : ∀ n ∈ heads c, I64 n := fun n hn => hc n (by unfold allL; simp [hn])
  have fd : ∀ n ∈ heads d, I64 n := fun n hn => hd n (by unfold allL; simp [hn])
  obtain ⟨e1, e2⟩ := nums_inj (heads c) (heads d) rfl fc fd _ _ h0
  simp only [heads, List.cons.injEq] at e1
  obtain ⟨a1, a2, a3, a4, a5, -⟩ := e1
  rw [nums_append c.kinds, nums_append d.kinds] at e2
  obtain ⟨e3, e4⟩ := nums_inj c.kinds d.kinds (by omega) (fun n hn => hc n (by unfold allL; simp [hn])) (fun n hn => hd n (by unfold allL; simp [hn])) _ _ e2
  rw [nums_append c.init, nums_append d.init] at e4
  obtain ⟨e5, e6⟩ := nums_inj c.init d.init (by omega) (fun n hn => hc n (by unfold allL; simp [hn])) (fun n hn => hd n (by unfold allL; simp [hn])) _ _ e4
  rw [nums_cons, nums_cons] at e6
  have hbl : I64 (c.body.length : Int) := hc _ (by unfold allL; simp)
  have hdl : I64 (d.body.length : Int) := hd _ (by unfold allL; simp)
  have e7 := rdNum_num hbl (nums (insL c.body))
  rw [e6, rdNum_num hdl] at e7
  have e8 := Option.some.inj e7
  have e9 : (d.body.length : Int) = c.body.length := congrArg Prod.fst e8
  have e10 : nums (insL d.body) = nums (insL c.body) := congrArg Prod.snd e8
  obtain ⟨e11, -⟩ := nums_inj (insL d.body) (insL c.body) (by rw [insL_len, insL_len]; omega) (fun n hn => hd n (by unfold allL; simp [hn])) (fun n hn => hc n (by unfold allL; simp [hn])) [] [] (by rw [List.append_nil, List.append_nil]; exact e10)
  have e12 := insL_inj d.body c.body (by omega) e11
  cases c; cases d
  simp_all

end Go.Proofs.Ytlppifnepckpiaa.Cd
