/- The plain mathematics of bv's values (no program in sight): the width of a kind, the value that a number's lower bits are, and what each operation's number is before it is wrapped. -/
import Derived.RowKit
import Derived.Laws.BitsLemmas
import Derived.Laws.Closers25b
namespace Go.Proofs.Ytlppifnepckpiaa.Bv
open Go.RowKit

/-- how many bits a value of the kind has -/
def wid (k : Int) : Int :=
  if k = 5 ∨ k = 9 then 64 else if k = 4 ∨ k = 8 then 32 else if k = 3 ∨ k = 7 then 16 else if k = 2 ∨ k = 6 then 8 else if k = 1 then 1 else 0

/-- the value of the kind whose bits are n's lower ones -/
def wrp (k n : Int) : Int :=
  if k = 1 then n % 2 else if k = 2 then (n + 128) % 256 - 128 else if k = 3 then (n + 32768) % 65536 - 32768
  else if k = 4 then (n + 2147483648) % 4294967296 - 2147483648 else if k = 6 then n % 256 else if k = 7 then n % 65536
  else if k = 8 then n % 4294967296 else if k = 5 ∨ k = 9 then n else 0

/-- is n a value of the kind -/
def isv (k n : Int) : Bool := decide (0 < wid k) && (wrp k n == n)

theorem wid_pos (k : Int) : decide (0 < wid k) = decide (1 ≤ k ∧ k ≤ 9) := by
  unfold wid
  repeat' split
  all_goals (rw [decide_eq_decide]; omega)

theorem wrap_i8 (n : Int) : IntKind.i8.wrap n = (n + 128) % 256 - 128 := by
  simp only [IntKind.wrap, IntKind.bits, IntKind.signed]; simp; split <;> omega
theorem wrap_i16 (n : Int) : IntKind.i16.wrap n = (n + 32768) % 65536 - 32768 := by
  simp only [IntKind.wrap, IntKind.bits, IntKind.signed]; simp; split <;> omega
theorem wrap_u16 (n : Int) : IntKind.u16.wrap n = n % 65536 := by simp [IntKind.wrap, IntKind.bits, IntKind.signed]
theorem wrap_u64 (n : Int) : IntKind.u64.wrap n = n % 18446744073709551616 := by simp [IntKind.wrap, IntKind.bits, IntKind.signed]
theorem wrap8 (n : Int) : wrap64 (IntKind.i8.wrap n) = (n + 128) % 256 - 128 := by
  rw [wrap_i8]; unfold wrap64; omega
theorem wrap16 (n : Int) : wrap64 (IntKind.i16.wrap n) = (n + 32768) % 65536 - 32768 := by
  rw [wrap_i16]; unfold wrap64; omega
theorem wrap3264 (n : Int) : wrap64 (wrap32 n) = (n + 2147483648) % 4294967296 - 2147483648 := by
  unfold wrap64 wrap32; omega
theorem wrapu16 (n : Int) : wrap64 (IntKind.u16.wrap n) = n % 65536 := by
  rw [wrap_u16]; unfold wrap64; omega
theorem and1 (n : Int) : bits .and .i64 n 1 = n % 2 := by
  have h1 : (BitVec.ofInt 64 1).toNat = 2 ^ 1 - 1 := by decide
  have key : (BitVec.ofInt 64 n &&& BitVec.ofInt 64 1).toNat = (n % ((2 ^ 64 : Nat) : Int)).toNat % 2 ^ 1 := by
    rw [BitVec.toNat_and, BitVec.toNat_ofInt, h1, Nat.and_two_pow_sub_one_eq_mod]
  show IntKind.i64.wrap ((BitVec.ofInt 64 n &&& BitVec.ofInt 64 1).toNat : Nat) = n % 2
  rw [key, IntKind.wrap_i64]
  omega
/-- n is a number of 64 bits with a sign -/
def I64 (n : Int) : Prop := -9223372036854775808 ≤ n ∧ n ≤ 9223372036854775807

theorem u64_ne {b : Int} (h : I64 b) (hb : ¬ b = 0) : ¬ IntKind.u64.wrap b = 0 := by
  unfold I64 at h
  rw [wrap_u64]
  omega

def vshr (k a b : Int) : Int := if 6 ≤ k then IntKind.i64.wrap (IntKind.u64.wrap a / 2 ^ min (IntKind.u64.wrap b).toNat 64) else a / 2 ^ min (IntKind.u64.wrap b).toNat 64
def vshl (a b : Int) : Int := IntKind.i64.wrap (a * 2 ^ min (IntKind.u64.wrap b).toNat 64)

/-- of which kinds an operation is: 1 of Bool, 2 of numbers, 3 of all, else of none -/
def tks (o k : Int) : Bool := if o = 1 then k == 1 else if o = 2 then (k != 1) && decide (0 < wid k) else if o = 3 then decide (0 < wid k) else false

/-- are all of them values of the kind -/
def allv (k : Int) (xs : List Int) : Bool := xs.all (isv k)
/-- what is told: x, wrapped, if all of them are values of the kind; else 0 -/
def setv (k to x : Int) (xs : List Int) : Int := if allv k xs then wrp to x else 0

def two (t : Bool) (x y : Int) : Int := if t then x else y
def one (b : Bool) : Int := if b then 1 else 0

/-- is a below b, as values of the kind (k from 6 on: without a sign) -/
def lss (k a b : Int) : Bool := if 6 ≤ k then decide (IntKind.u64.wrap a < IntKind.u64.wrap b) else decide (a < b)

def vdiv (k a b : Int) : Int := if b = 0 then 0 else if 6 ≤ k then wrap64 (IntKind.u64.wrap ((IntKind.u64.wrap a).tdiv (IntKind.u64.wrap b))) else wrap64 (a.tdiv b)
def vmod (k a b : Int) : Int := if b = 0 then 0 else if 6 ≤ k then wrap64 ((IntKind.u64.wrap a).tmod (IntKind.u64.wrap b)) else a.tmod b

/-- of which kinds an operation on one value is -/
def ofU (op : Int) : Int := if op = 1 then 3 else if op = 2 then 2 else 0
/-- what an operation on one value answers, before it is wrapped -/
def unV (op a : Int) : Int := if op = 1 then bits .xor .i64 (-1) a else wrap64 (-a)
def unB (op kind a : Int) : Bool := tks (ofU op) kind && allv kind [a]
def unN (op kind a : Int) : Int := if unB op kind a then wrp kind (unV op a) else 0

/-- of which kinds an operation on two values is -/
def ofB (op : Int) : Int :=
  if op = 11 then 1 else if op = 8 ∨ op = 9 ∨ op = 10 ∨ op = 14 ∨ op = 15 then 3 else if 3 ≤ op ∧ op ≤ 19 then 2 else 0
/-- does it answer a Bool -/
def tsB (op : Int) : Bool := decide (14 ≤ op)
/-- what an operation on two values answers, before it is wrapped -/
def vop (op k a b : Int) : Int :=
  if op = 3 then wrap64 (a + b) else if op = 4 then wrap64 (a - b) else if op = 5 then wrap64 (a * b)
  else if op = 6 then vdiv k a b else if op = 7 then vmod k a b
  else if op = 8 then bits .and .i64 a b else if op = 9 then bits .or .i64 a b else if op = 10 then bits .xor .i64 a b
  else if op = 11 then bits .or .i64 (bits .xor .i64 (-1) a) b
  else if op = 12 then vshl a b else if op = 13 then vshr k a b
  else if op = 14 then one (a == b) else if op = 15 then one (a != b)
  else if op = 16 then one (lss k a b) else if op = 17 then one (!lss k b a)
  else if op = 18 then one (lss k b a) else one (!lss k a b)
def binB (op kind a b : Int) : Bool := tks (ofB op) kind && allv kind [a, b]
def toK (op kind : Int) : Int := if tsB op then 1 else kind
def binK (op kind a b : Int) : Int := if binB op kind a b then toK op kind else 0
def binN (op kind a b : Int) : Int := if binB op kind a b then wrp (toK op kind) (vop op kind a b) else 0

def casB (frm to a : Int) : Bool := decide (0 < wid to) && allv frm [a]
def casN (frm to a : Int) : Int := if casB frm to a then wrp to (if to = 1 then one (a != 0) else a) else 0
end Go.Proofs.Ytlppifnepckpiaa.Bv
