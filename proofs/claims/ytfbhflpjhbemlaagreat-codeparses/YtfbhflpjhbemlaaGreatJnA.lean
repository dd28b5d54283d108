/- Texts joined: BvM, BvA, BvV, BvS, BvU, BvB, BvN. -/
import Derived.RowKit
import Derived.Laws.BitsLemmas
import Derived.Laws.Closers25b
import Derived.Test.YtfbhflpjhbemlaaGreatChecked
import Derived.WalkKit
import Derived.WalkSpells
import Derived.WalkLawsBesides
import Derived.Deep.RegionWith
import Derived.Laws.EntriesVeiled
import Derived.Deep.WholeRow
/- The plain mathematics of bv's values (no program in sight): the width of a kind, the value that a number's lower bits are, and what each operation's number is before it is wrapped. -/
namespace Go.Proofs.YtfbhflpjhbemlaaGreat.Bv
open Go.RowKit

/-- how many bits a value of the kind has -/
def wid (k : Int) : Int :=
  if k = 5 ∨ k = 9 then 64 else if k = 4 ∨ k = 8 then 32 else if k = 3 ∨ k = 7 then 16 else if k = 2 ∨ k = 6 then 8 else if k = 1 then 1 else 0

/-- the value of the kind whose bits are n's lower ones -/
def wrp (k n : Int) : Int :=
  if k = 1 then n % 2 else if k = 2 then (n + 128) % 256 - 128 else if k = 3 then (n + 32768) % 65536 - 32768
  else if k = 4 then (n + 2147483648) % 4294967296 - 2147483648 else if k = 6 then n % 256 else if k = 7 then n % 65536
  else if k = 8 then n % 4294967296 else if k = 5 ∨ k = 9 then n else 0

/-- is n a value of the kind -/
def isv (k n : Int) : Bool := decide (0 < wid k) && (wrp k n == n)

theorem wid_pos (k : Int) : decide (0 < wid k) = decide (1 ≤ k ∧ k ≤ 9) := by
  unfold wid
  repeat' split
  all_goals (rw [decide_eq_decide]; omega)

theorem wrap_i8 (n : Int) : IntKind.i8.wrap n = (n + 128) % 256 - 128 := by
  simp only [IntKind.wrap, IntKind.bits, IntKind.signed]; simp; split <;> omega
theorem wrap_i16 (n : Int) : IntKind.i16.wrap n = (n + 32768) % 65536 - 32768 := by
  simp only [IntKind.wrap, IntKind.bits, IntKind.signed]; simp; split <;> omega
theorem wrap_u16 (n : Int) : IntKind.u16.wrap n = n % 65536 := by simp [IntKind.wrap, IntKind.bits, IntKind.signed]
theorem wrap_u64 (n : Int) : IntKind.u64.wrap n = n % 18446744073709551616 := by simp [IntKind.wrap, IntKind.bits, IntKind.signed]
theorem wrap8 (n : Int) : wrap64 (IntKind.i8.wrap n) = (n + 128) % 256 - 128 := by
  rw [wrap_i8]; unfold wrap64; omega
theorem wrap16 (n : Int) : wrap64 (IntKind.i16.wrap n) = (n + 32768) % 65536 - 32768 := by
  rw [wrap_i16]; unfold wrap64; omega
theorem wrap3264 (n : Int) : wrap64 (wrap32 n) = (n + 2147483648) % 4294967296 - 2147483648 := by
  unfold wrap64 wrap32; omega
theorem wrapu16 (n : Int) : wrap64 (IntKind.u16.wrap n) = n % 65536 := by
  rw [wrap_u16]; unfold wrap64; omega
theorem and1 (n : Int) : bits .and .i64 n 1 = n % 2 := by
  have h1 : (BitVec.ofInt 64 1).toNat = 2 ^ 1 - 1 := by decide
  have key : (BitVec.ofInt 64 n &&& BitVec.ofInt 64 1).toNat = (n % ((2 ^ 64 : Nat) : Int)).toNat % 2 ^ 1 := by
    rw [BitVec.toNat_and, BitVec.toNat_ofInt, h1, Nat.and_two_pow_sub_one_eq_mod]
  show IntKind.i64.wrap ((BitVec.ofInt 64 n &&& BitVec.ofInt 64 1).toNat : Nat) = n % 2
  rw [key, IntKind.wrap_i64]
  omega
/-- n is a number of 64 bits with a sign -/
def I64 (n : Int) : Prop := -9223372036854775808 ≤ n ∧ n ≤ 9223372036854775807

theorem u64_ne {b : Int} (h : I64 b) (hb : ¬ b = 0) : ¬ IntKind.u64.wrap b = 0 := by
  unfold I64 at h
  rw [wrap_u64]
  omega

def vshr (k a b : Int) : Int := if 6 ≤ k then IntKind.i64.wrap (IntKind.u64.wrap a / 2 ^ min (IntKind.u64.wrap b).toNat 64) else a / 2 ^ min (IntKind.u64.wrap b).toNat 64
def vshl (a b : Int) : Int := IntKind.i64.wrap (a * 2 ^ min (IntKind.u64.wrap b).toNat 64)

/-- of which kinds an operation is: 1 of Bool, 2 of numbers, 3 of all, else of none -/
def tks (o k : Int) : Bool := if o = 1 then k == 1 else if o = 2 then (k != 1) && decide (0 < wid k) else if o = 3 then decide (0 < wid k) else false

/-- are all of them values of the kind -/
def allv (k : Int) (xs : List Int) : Bool := xs.all (isv k)
/-- what is told: x, wrapped, if all of them are values of the kind; else 0 -/
def setv (k to x : Int) (xs : List Int) : Int := if allv k xs then wrp to x else 0

def two (t : Bool) (x y : Int) : Int := if t then x else y
def one (b : Bool) : Int := if b then 1 else 0

/-- is a below b, as values of the kind (k from 6 on: without a sign) -/
def lss (k a b : Int) : Bool := if 6 ≤ k then decide (IntKind.u64.wrap a < IntKind.u64.wrap b) else decide (a < b)

def vdiv (k a b : Int) : Int := if b = 0 then 0 else if 6 ≤ k then wrap64 (IntKind.u64.wrap ((IntKind.u64.wrap a).tdiv (IntKind.u64.wrap b))) else wrap64 (a.tdiv b)
def vmod (k a b : Int) : Int := if b = 0 then 0 else if 6 ≤ k then wrap64 ((IntKind.u64.wrap a).tmod (IntKind.u64.wrap b)) else a.tmod b

/-- of which kinds an operation on one value is -/
def ofU (op : Int) : Int := if op = 1 then 3 else if op = 2 then 2 else 0
/-- what an operation on one value answers, before it is wrapped -/
def unV (op a : Int) : Int := if op = 1 then bits .xor .i64 (-1) a else wrap64 (-a)
def unB (op kind a : Int) : Bool := tks (ofU op) kind && allv kind [a]
def unN (op kind a : Int) : Int := if unB op kind a then wrp kind (unV op a) else 0

/-- of which kinds an operation on two values is -/
def ofB (op : Int) : Int :=
  if op = 11 then 1 else if op = 8 ∨ op = 9 ∨ op = 10 ∨ op = 14 ∨ op = 15 then 3 else if 3 ≤ op ∧ op ≤ 19 then 2 else 0
/-- does it answer a Bool -/
def tsB (op : Int) : Bool := decide (14 ≤ op)
/-- what an operation on two values answers, before it is wrapped -/
def vop (op k a b : Int) : Int :=
  if op = 3 then wrap64 (a + b) else if op = 4 then wrap64 (a - b) else if op = 5 then wrap64 (a * b)
  else if op = 6 then vdiv k a b else if op = 7 then vmod k a b
  else if op = 8 then bits .and .i64 a b else if op = 9 then bits .or .i64 a b else if op = 10 then bits .xor .i64 a b
  else if op = 11 then bits .or .i64 (bits .xor .i64 (-1) a) b
  else if op = 12 then vshl a b else if op = 13 then vshr k a b
  else if op = 14 then one (a == b) else if op = 15 then one (a != b)
  else if op = 16 then one (lss k a b) else if op = 17 then one (!lss k b a)
  else if op = 18 then one (lss k b a) else one (!lss k a b)
def binB (op kind a b : Int) : Bool := tks (ofB op) kind && allv kind [a, b]
def toK (op kind : Int) : Int := if tsB op then 1 else kind
def binK (op kind a b : Int) : Int := if binB op kind a b then toK op kind else 0
def binN (op kind a b : Int) : Int := if binB op kind a b then wrp (toK op kind) (vop op kind a b) else 0

def casB (frm to a : Int) : Bool := decide (0 < wid to) && allv frm [a]
def casN (frm to a : Int) : Int := if casB frm to a then wrp to (if to = 1 then one (a != 0) else a) else 0
end Go.Proofs.YtfbhflpjhbemlaaGreat.Bv

/- The walks of bv's plain functions Width, Wrap, Is, takes, bit: what each call answers, whatever the arguments; the world stays as it was. -/
namespace Go.Proofs.YtfbhflpjhbemlaaGreat
open Go.RowKit

theorem ret_int {k : IntKind} {a b : Int} (h : a = b) : Ending.returned (.int k a) = .returned (.int k b) := by rw [h]
theorem ret_bool {a b : Bool} (h : a = b) : Ending.returned (.bool a) = .returned (.bool b) := by rw [h]

set_option maxHeartbeats 400000 in
theorem width_any (k : Int) (w : World) :
    Calls Tryz.prog 59 #[.int .i64 k] w fun e w' => e = .returned (.int .i64 (Bv.wid k)) ∧ w' = w := by
  go_enter Tryz.func59, Tryz.ntmps59
  go_wp2
  all_goals go_ret
  all_goals refine ⟨ret_int ?_, rfl⟩
  all_goals (unfold Bv.wid; simp_all)

set_option maxHeartbeats 400000 in
theorem wrap_any (k n : Int) (w : World) :
    Calls Tryz.prog 60 #[.int .i64 k, .int .i64 n] w fun e w' => e = .returned (.int .i64 (Bv.wrp k n)) ∧ w' = w := by
  have c1 := Bv.and1 n
  have c2 := Bv.wrap8 n
  have c3 := Bv.wrap16 n
  have c4 := Bv.wrap3264 n
  have c7 := Bv.wrapu16 n
  have C : Hid (bits .and .i64 n 1 = n % 2 ∧ wrap64 (IntKind.i8.wrap n) = (n + 128) % 256 - 128 ∧ wrap64 (IntKind.i16.wrap n) = (n + 32768) % 65536 - 32768 ∧ wrap64 (wrap32 n) = (n + 2147483648) % 4294967296 - 2147483648 ∧ wrap64 (IntKind.u16.wrap n) = n % 65536) := ⟨c1, c2, c3, c4, c7⟩
  clear c1 c2 c3 c4 c7
  go_enter Tryz.func60, Tryz.ntmps60
  go_wp2
  all_goals go_ret
  all_goals refine ⟨ret_int ?_, rfl⟩
  all_goals (obtain ⟨c1, c2, c3, c4, c7⟩ := C.out; unfold Bv.wrp; simp_all)

set_option maxHeartbeats 400000 in
theorem is_any (k n : Int) (w : World) :
    Calls Tryz.prog 44 #[.int .i64 k, .int .i64 n] w fun e w' => e = .returned (.bool (Bv.isv k n)) ∧ w' = w := by
  by_cases hk : 0 < Bv.wid k
  · go_enter Tryz.func44, Tryz.ntmps44
    go_wp2_with (first | (go_at_call 59; refine (width_any _ _).mono ?_; rintro e w' ⟨rfl, rfl⟩) | (go_at_call 60; refine (wrap_any _ _ _).mono ?_; rintro e w' ⟨rfl, rfl⟩))
    all_goals go_ret
    all_goals exact ⟨ret_bool (by simp [Bv.isv, hk]), rfl⟩
  · go_enter Tryz.func44, Tryz.ntmps44
    go_wp2_with (first | (go_at_call 59; refine (width_any _ _).mono ?_; rintro e w' ⟨rfl, rfl⟩) | (go_at_call 60; refine (wrap_any _ _ _).mono ?_; rintro e w' ⟨rfl, rfl⟩))
    all_goals go_ret
    all_goals exact ⟨ret_bool (by have h : ¬ 0 < Bv.wid k := by omega
                                  simp [Bv.isv, h]), rfl⟩

set_option maxHeartbeats 400000 in
theorem takes_any (o k : Int) (w : World) :
    Calls Tryz.prog 80 #[.int .i64 o, .int .i64 k] w fun e w' => e = .returned (.bool (Bv.tks o k)) ∧ w' = w := by
  rcases Bool.eq_false_or_eq_true (k != 1) with hk | hk
  all_goals
    go_enter Tryz.func80, Tryz.ntmps80
    go_wp2_with (first | (go_at_call 59; refine (width_any _ _).mono ?_; rintro e w' ⟨rfl, rfl⟩))
    all_goals go_ret
    all_goals refine ⟨ret_bool ?_, rfl⟩
    all_goals (simp_all [Bv.tks])
end Go.Proofs.YtfbhflpjhbemlaaGreat

/- The walks of the operations of bv's values: what each method answers (all but the shifts); of the memory that was there nothing turns. -/
namespace Go.Proofs.YtfbhflpjhbemlaaGreat
open Go.RowKit

theorem bel1 (w : World) (o : Obj) : Below w.heap.size w (w.alloc o) := (Below.refl _ _).alloc (Nat.le_refl _) _
theorem bel2 (w : World) (o p : Obj) : Below w.heap.size w ((w.alloc o).alloc p) := (bel1 w o).alloc (by simp) _
theorem bel3 (w : World) (o p q : Obj) : Below w.heap.size w (((w.alloc o).alloc p).alloc q) := (bel2 w o p).alloc (by simp; omega) _
theorem bel4 (w : World) (o p q r : Obj) : Below w.heap.size w ((((w.alloc o).alloc p).alloc q).alloc r) := (bel3 w o p q).alloc (by simp; omega) _
theorem bel5 (w : World) (o p q r s : Obj) : Below w.heap.size w (((((w.alloc o).alloc p).alloc q).alloc r).alloc s) := (bel4 w o p q r).alloc (by simp; omega) _

set_option maxHeartbeats 400000 in
theorem v_not (k a : Int) (w : World) :
    Calls Tryz.prog 86 #[.agg #[.int .i64 k, .int .i64 a]] w fun e w' => e = .returned (.int .i64 (bits .xor .i64 (-1) a)) ∧ Below w.heap.size w w' := by
  go_enter Tryz.func86, Tryz.ntmps86
  go_wp2
  all_goals go_ret
  all_goals exact ⟨rfl, (Below.refl _ _).alloc (Nat.le_refl _) _⟩

set_option maxHeartbeats 400000 in
theorem v_neg (k a : Int) (w : World) :
    Calls Tryz.prog 87 #[.agg #[.int .i64 k, .int .i64 a]] w fun e w' => e = .returned (.int .i64 (wrap64 (-a))) ∧ Below w.heap.size w w' := by
  go_enter Tryz.func87, Tryz.ntmps87
  go_wp2
  all_goals go_ret
  all_goals exact ⟨rfl, (Below.refl _ _).alloc (Nat.le_refl _) _⟩

set_option maxHeartbeats 400000 in
theorem v_add (k a l b : Int) (w : World) :
    Calls Tryz.prog 88 #[.agg #[.int .i64 k, .int .i64 a], .agg #[.int .i64 l, .int .i64 b]] w fun e w' => e = .returned (.int .i64 (wrap64 (a + b))) ∧ Below w.heap.size w w' := by
  go_enter Tryz.func88, Tryz.ntmps88
  go_wp2
  all_goals go_ret
  all_goals refine ⟨ret_int ?_, (by first | exact bel2 _ _ _ | exact bel3 _ _ _ _ | exact bel4 _ _ _ _ _ | exact bel5 _ _ _ _ _ _)⟩
  all_goals first | rfl

set_option maxHeartbeats 400000 in
theorem v_sub (k a l b : Int) (w : World) :
    Calls Tryz.prog 89 #[.agg #[.int .i64 k, .int .i64 a], .agg #[.int .i64 l, .int .i64 b]] w fun e w' => e = .returned (.int .i64 (wrap64 (a - b))) ∧ Below w.heap.size w w' := by
  go_enter Tryz.func89, Tryz.ntmps89
  go_wp2
  all_goals go_ret
  all_goals refine ⟨ret_int ?_, (by first | exact bel2 _ _ _ | exact bel3 _ _ _ _ | exact bel4 _ _ _ _ _ | exact bel5 _ _ _ _ _ _)⟩
  all_goals first | rfl

set_option maxHeartbeats 400000 in
theorem v_mul (k a l b : Int) (w : World) :
    Calls Tryz.prog 90 #[.agg #[.int .i64 k, .int .i64 a], .agg #[.int .i64 l, .int .i64 b]] w fun e w' => e = .returned (.int .i64 (wrap64 (a * b))) ∧ Below w.heap.size w w' := by
  go_enter Tryz.func90, Tryz.ntmps90
  go_wp2
  all_goals go_ret
  all_goals refine ⟨ret_int ?_, (by first | exact bel2 _ _ _ | exact bel3 _ _ _ _ | exact bel4 _ _ _ _ _ | exact bel5 _ _ _ _ _ _)⟩
  all_goals first | rfl

set_option maxHeartbeats 400000 in
theorem v_and (k a l b : Int) (w : World) :
    Calls Tryz.prog 93 #[.agg #[.int .i64 k, .int .i64 a], .agg #[.int .i64 l, .int .i64 b]] w fun e w' => e = .returned (.int .i64 (bits .and .i64 a b)) ∧ Below w.heap.size w w' := by
  go_enter Tryz.func93, Tryz.ntmps93
  go_wp2
  all_goals go_ret
  all_goals refine ⟨ret_int ?_, (by first | exact bel2 _ _ _ | exact bel3 _ _ _ _ | exact bel4 _ _ _ _ _ | exact bel5 _ _ _ _ _ _)⟩
  all_goals first | rfl

set_option maxHeartbeats 400000 in
theorem v_or (k a l b : Int) (w : World) :
    Calls Tryz.prog 94 #[.agg #[.int .i64 k, .int .i64 a], .agg #[.int .i64 l, .int .i64 b]] w fun e w' => e = .returned (.int .i64 (bits .or .i64 a b)) ∧ Below w.heap.size w w' := by
  go_enter Tryz.func94, Tryz.ntmps94
  go_wp2
  all_goals go_ret
  all_goals refine ⟨ret_int ?_, (by first | exact bel2 _ _ _ | exact bel3 _ _ _ _ | exact bel4 _ _ _ _ _ | exact bel5 _ _ _ _ _ _)⟩
  all_goals first | rfl

set_option maxHeartbeats 400000 in
theorem v_xor (k a l b : Int) (w : World) :
    Calls Tryz.prog 95 #[.agg #[.int .i64 k, .int .i64 a], .agg #[.int .i64 l, .int .i64 b]] w fun e w' => e = .returned (.int .i64 (bits .xor .i64 a b)) ∧ Below w.heap.size w w' := by
  go_enter Tryz.func95, Tryz.ntmps95
  go_wp2
  all_goals go_ret
  all_goals refine ⟨ret_int ?_, (by first | exact bel2 _ _ _ | exact bel3 _ _ _ _ | exact bel4 _ _ _ _ _ | exact bel5 _ _ _ _ _ _)⟩
  all_goals first | rfl

set_option maxHeartbeats 400000 in
theorem v_imp (k a l b : Int) (w : World) :
    Calls Tryz.prog 96 #[.agg #[.int .i64 k, .int .i64 a], .agg #[.int .i64 l, .int .i64 b]] w fun e w' => e = .returned (.int .i64 (bits .or .i64 (bits .xor .i64 (-1) a) b)) ∧ Below w.heap.size w w' := by
  go_enter Tryz.func96, Tryz.ntmps96
  go_wp2
  all_goals go_ret
  all_goals refine ⟨ret_int ?_, (by first | exact bel2 _ _ _ | exact bel3 _ _ _ _ | exact bel4 _ _ _ _ _ | exact bel5 _ _ _ _ _ _)⟩
  all_goals first | rfl

set_option maxHeartbeats 400000 in
theorem v_eq (k a l b : Int) (w : World) :
    Calls Tryz.prog 99 #[.agg #[.int .i64 k, .int .i64 a], .agg #[.int .i64 l, .int .i64 b]] w fun e w' => e = .returned (.int .i64 (Bv.one (a == b))) ∧ Below w.heap.size w w' := by
  go_enter Tryz.func99, Tryz.ntmps99
  go_wp2
  all_goals go_ret
  all_goals refine ⟨ret_int ?_, (by first | exact bel2 _ _ _ | exact bel3 _ _ _ _ | exact bel4 _ _ _ _ _ | exact bel5 _ _ _ _ _ _)⟩
  all_goals first | (simp_all [Bv.one]; done)

set_option maxHeartbeats 400000 in
theorem v_ne (k a l b : Int) (w : World) :
    Calls Tryz.prog 100 #[.agg #[.int .i64 k, .int .i64 a], .agg #[.int .i64 l, .int .i64 b]] w fun e w' => e = .returned (.int .i64 (Bv.one (a != b))) ∧ Below w.heap.size w w' := by
  go_enter Tryz.func100, Tryz.ntmps100
  go_wp2
  all_goals go_ret
  all_goals refine ⟨ret_int ?_, (by first | exact bel2 _ _ _ | exact bel3 _ _ _ _ | exact bel4 _ _ _ _ _ | exact bel5 _ _ _ _ _ _)⟩
  all_goals first | (simp_all [Bv.one]; done)

set_option maxHeartbeats 400000 in
theorem v_lt (k a l b : Int) (w : World) :
    Calls Tryz.prog 101 #[.agg #[.int .i64 k, .int .i64 a], .agg #[.int .i64 l, .int .i64 b]] w fun e w' => e = .returned (.int .i64 (Bv.one (Bv.lss k a b))) ∧ Below w.heap.size w w' := by
  go_enter Tryz.func101, Tryz.ntmps101
  go_wp2
  all_goals go_ret
  all_goals refine ⟨ret_int ?_, (by first | exact bel2 _ _ _ | exact bel3 _ _ _ _ | exact bel4 _ _ _ _ _ | exact bel5 _ _ _ _ _ _)⟩
  all_goals first | ((unfold Bv.one Bv.lss; repeat' split) <;> first | rfl | (exfalso; simp_all; omega) | (exfalso; simp_all; done))

set_option maxHeartbeats 400000 in
theorem v_le (k a l b : Int) (w : World) :
    Calls Tryz.prog 102 #[.agg #[.int .i64 k, .int .i64 a], .agg #[.int .i64 l, .int .i64 b]] w fun e w' => e = .returned (.int .i64 (Bv.one (!Bv.lss l b a))) ∧ Below w.heap.size w w' := by
  go_enter Tryz.func102, Tryz.ntmps102
  go_wp2
  all_goals go_ret
  all_goals refine ⟨ret_int ?_, (by first | exact bel2 _ _ _ | exact bel3 _ _ _ _ | exact bel4 _ _ _ _ _ | exact bel5 _ _ _ _ _ _)⟩
  all_goals first | ((unfold Bv.one Bv.lss; repeat' split) <;> first | rfl | (exfalso; simp_all; omega) | (exfalso; simp_all; done))

set_option maxHeartbeats 400000 in
theorem v_gt (k a l b : Int) (w : World) :
    Calls Tryz.prog 103 #[.agg #[.int .i64 k, .int .i64 a], .agg #[.int .i64 l, .int .i64 b]] w fun e w' => e = .returned (.int .i64 (Bv.one (Bv.lss l b a))) ∧ Below w.heap.size w w' := by
  go_enter Tryz.func103, Tryz.ntmps103
  go_wp2
  all_goals go_ret
  all_goals refine ⟨ret_int ?_, (by first | exact bel2 _ _ _ | exact bel3 _ _ _ _ | exact bel4 _ _ _ _ _ | exact bel5 _ _ _ _ _ _)⟩
  all_goals first | ((unfold Bv.one Bv.lss; repeat' split) <;> first | rfl | (exfalso; simp_all; omega) | (exfalso; simp_all; done))

set_option maxHeartbeats 400000 in
theorem v_ge (k a l b : Int) (w : World) :
    Calls Tryz.prog 104 #[.agg #[.int .i64 k, .int .i64 a], .agg #[.int .i64 l, .int .i64 b]] w fun e w' => e = .returned (.int .i64 (Bv.one (!Bv.lss k a b))) ∧ Below w.heap.size w w' := by
  go_enter Tryz.func104, Tryz.ntmps104
  go_wp2
  all_goals go_ret
  all_goals refine ⟨ret_int ?_, (by first | exact bel2 _ _ _ | exact bel3 _ _ _ _ | exact bel4 _ _ _ _ _ | exact bel5 _ _ _ _ _ _)⟩
  all_goals first | ((unfold Bv.one Bv.lss; repeat' split) <;> first | rfl | (exfalso; simp_all; omega) | (exfalso; simp_all; done))

set_option maxHeartbeats 400000 in
theorem v_div (k a l b : Int) (h64 : Bv.I64 b) (w : World) :
    Calls Tryz.prog 91 #[.agg #[.int .i64 k, .int .i64 a], .agg #[.int .i64 l, .int .i64 b]] w fun e w' => e = .returned (.int .i64 (Bv.vdiv k a b)) ∧ Below w.heap.size w w' := by
  by_cases hb : b = 0
  · subst hb
    go_enter Tryz.func91, Tryz.ntmps91
    go_wp2
    all_goals go_ret
    all_goals exact ⟨ret_int (by simp [Bv.vdiv]), bel2 _ _ _⟩
  · have hb0 : (b == 0) = false := by simpa using hb
    by_cases hk : 6 ≤ k
    · have hu := Bv.u64_ne h64 hb
      · go_enter Tryz.func91, Tryz.ntmps91
        go_wp2
        all_goals go_ret
        all_goals exact ⟨ret_int (by simp [Bv.vdiv, hb, hk]), bel3 _ _ _ _⟩
    · go_enter Tryz.func91, Tryz.ntmps91
      go_wp2
      all_goals go_ret
      all_goals exact ⟨ret_int (by have h : ¬ 6 ≤ k := by omega
                                   simp [Bv.vdiv, hb, h]), bel3 _ _ _ _⟩

set_option maxHeartbeats 400000 in
theorem v_mod (k a l b : Int) (h64 : Bv.I64 b) (w : World) :
    Calls Tryz.prog 92 #[.agg #[.int .i64 k, .int .i64 a], .agg #[.int .i64 l, .int .i64 b]] w fun e w' => e = .returned (.int .i64 (Bv.vmod k a b)) ∧ Below w.heap.size w w' := by
  by_cases hb : b = 0
  · subst hb
    go_enter Tryz.func92, Tryz.ntmps92
    go_wp2
    all_goals go_ret
    all_goals exact ⟨ret_int (by simp [Bv.vmod]), bel2 _ _ _⟩
  · have hb0 : (b == 0) = false := by simpa using hb
    by_cases hk : 6 ≤ k
    · have hu := Bv.u64_ne h64 hb
      · go_enter Tryz.func92, Tryz.ntmps92
        go_wp2
        all_goals go_ret
        all_goals exact ⟨ret_int (by simp [Bv.vmod, hb, hk]), bel3 _ _ _ _⟩
    · go_enter Tryz.func92, Tryz.ntmps92
      go_wp2
      all_goals go_ret
      all_goals exact ⟨ret_int (by have h : ¬ 6 ≤ k := by omega
                                   simp [Bv.vmod, hb, h]), bel3 _ _ _ _⟩

set_option maxHeartbeats 400000 in
theorem places_any (k b : Int) (w : World) :
    Calls Tryz.prog 106 #[.agg #[.int .i64 k, .int .i64 b]] w fun e w' => e = .returned (.int .u64 (IntKind.u64.wrap b)) ∧ w' = w.alloc (.cells #[.int .i64 k, .int .i64 b] 117) := by
  go_enter Tryz.func106, Tryz.ntmps106
  go_wp2
  go_ret
  exact ⟨rfl, rfl⟩

set_option maxHeartbeats 400000 in
theorem v_shl (k a l b : Int) (w : World) :
    Calls Tryz.prog 97 #[.agg #[.int .i64 k, .int .i64 a], .agg #[.int .i64 l, .int .i64 b]] w fun e w' => e = .returned (.int .i64 (Bv.vshl a b)) ∧ Below w.heap.size w w' := by
  go_enter Tryz.func97, Tryz.ntmps97
  go_wp2
  go_region_with (go_at_call 106; refine (places_any _ _ _).mono ?_; rintro e w' ⟨rfl, rfl⟩)
  all_goals go_wp2
  all_goals go_ret
  all_goals exact ⟨rfl, (bel3 _ _ _ _).drew⟩

set_option maxHeartbeats 400000 in
theorem v_shr (k a l b : Int) (w : World) :
    Calls Tryz.prog 98 #[.agg #[.int .i64 k, .int .i64 a], .agg #[.int .i64 l, .int .i64 b]] w fun e w' => e = .returned (.int .i64 (Bv.vshr k a b)) ∧ Below w.heap.size w w' := by
  by_cases hk : 6 ≤ k
  · have hd : Bv.vshr k a b = IntKind.i64.wrap (IntKind.u64.wrap a / 2 ^ min (IntKind.u64.wrap b).toNat 64) := by simp [Bv.vshr, hk]
    rw [hd]
    clear hd
    go_enter Tryz.func98, Tryz.ntmps98
    go_wp2
    go_region_with (go_at_call 106; refine (places_any _ _ _).mono ?_; rintro e w' ⟨rfl, rfl⟩)
    all_goals go_wp2
    all_goals go_ret
    all_goals exact ⟨rfl, (bel4 _ _ _ _ _).drew⟩
  · have hd : Bv.vshr k a b = a / 2 ^ min (IntKind.u64.wrap b).toNat 64 := by simp [Bv.vshr, hk]
    rw [hd]
    clear hd
    go_enter Tryz.func98, Tryz.ntmps98
    go_wp2
    go_region_with (go_at_call 106; refine (places_any _ _ _).mono ?_; rintro e w' ⟨rfl, rfl⟩)
    all_goals go_wp2
    all_goals go_ret
    all_goals exact ⟨rfl, (bel4 _ _ _ _ _).drew⟩
end Go.Proofs.YtfbhflpjhbemlaaGreat

/- The walks of bv's tasks and of settle: an operation is run on its values once these are known to be values of their kind, and what it answers is wrapped; of the memory that was there nothing turns. -/
namespace Go.Proofs.YtfbhflpjhbemlaaGreat
open Go.RowKit

/-- what a call of the function number f is: it is entered (it has a body) -/
theorem enters {f : FuncId} {fn : Func} {c : Code} (hf : Tryz.prog.funcs[f]? = some fn) (hname : (fn.name == "runtime.NumGoroutine") = false) (hb : fn.body = some c) (args : Array Value) (w : World) :
    (callFunc f args).run Tryz.prog w = .ok (.enter f args) w := by
  have hn : ¬ fn.name = "runtime.NumGoroutine" := by simpa using hname
  simp [callFunc, hf, hn, hb]

set_option maxHeartbeats 400000 in
theorem run2_any (f : Nat) (k a l b x : Int) (w : World) (hcf : ∀ args w, (callFunc f args).run Tryz.prog w = .ok (.enter f args) w)
    (hf : ∀ w, Calls Tryz.prog f #[.agg #[.int .i64 k, .int .i64 a], .agg #[.int .i64 l, .int .i64 b]] w fun e w' => e = .returned (.int .i64 x) ∧ Below w.heap.size w w') :
    Calls Tryz.prog 84 #[.agg #[.func (.func f) #[] #[], .int .i64 k, .int .i64 a, .int .i64 l, .int .i64 b]] w fun e w' => e = .returned (.int .i64 x) ∧ Below w.heap.size w w' := by
  have H : Hid (∀ w, Calls Tryz.prog f #[.agg #[.int .i64 k, .int .i64 a], .agg #[.int .i64 l, .int .i64 b]] w fun e w' => e = .returned (.int .i64 x) ∧ Below w.heap.size w w') := hf
  clear hf
  go_enter Tryz.func84, Tryz.ntmps84
  go_wp2
  refine (H.out _).mono ?_
  rintro e w' ⟨rfl, hb⟩
  go_wp2
  go_ret
  exact ⟨rfl, (bel1 w _).trans (hb.mono (by simp))⟩

set_option maxHeartbeats 400000 in
theorem run1_any (f : Nat) (k a x : Int) (w : World) (hcf : ∀ args w, (callFunc f args).run Tryz.prog w = .ok (.enter f args) w)
    (hf : ∀ w, Calls Tryz.prog f #[.agg #[.int .i64 k, .int .i64 a]] w fun e w' => e = .returned (.int .i64 x) ∧ Below w.heap.size w w') :
    Calls Tryz.prog 82 #[.agg #[.func (.func f) #[] #[], .int .i64 k, .int .i64 a]] w fun e w' => e = .returned (.int .i64 x) ∧ Below w.heap.size w w' := by
  have H : Hid (∀ w, Calls Tryz.prog f #[.agg #[.int .i64 k, .int .i64 a]] w fun e w' => e = .returned (.int .i64 x) ∧ Below w.heap.size w w') := hf
  clear hf
  go_enter Tryz.func82, Tryz.ntmps82
  go_wp2
  refine (H.out _).mono ?_
  rintro e w' ⟨rfl, hb⟩
  go_wp2
  go_ret
  exact ⟨rfl, (bel1 w _).trans (hb.mono (by simp))⟩

theorem all_take {p : Int → Bool} {xs : List Int} {k : Nat} (h : (xs.take k).all p = true) (hk : k < xs.length) (hp : p xs[k] = true) : (xs.take (k + 1)).all p = true := by
  rw [List.take_succ_eq_append_getElem hk, List.all_append, h]
  simp [hp]

set_option maxHeartbeats 400000 in
theorem settle_any (kind to x : Int) (xs : List Int) (g : Nat) (v : Value) (w : World) (blk : Nat) (hlt : blk < w.heap.size)
    (hc : ∀ j y, xs[j]? = some y → w.cell? ⟨blk, j, none⟩ = some (.int .i64 y)) (hl : xs.length ≤ 2)
    (hcf : ∀ args w, (callFunc g args).run Tryz.prog w = .ok (.enter g args) w)
    (hwork : ∀ w, Calls Tryz.prog g #[v] w fun e w' => e = .returned (.int .i64 x) ∧ Below w.heap.size w w') :
    Calls Tryz.prog 81 #[.int .i64 kind, .int .i64 to, .func (.func g) #[v] #[], .slice (some ⟨blk, 0, none⟩) xs.length xs.length] w
      fun e w' => e = .returned (.tuple #[.int .i64 (Bv.setv kind to x xs), .bool (Bv.allv kind xs)]) ∧ Below w.heap.size w w' := by
  have H : Hid (∀ w, Calls Tryz.prog g #[v] w fun e w' => e = .returned (.int .i64 x) ∧ Below w.heap.size w w') := hwork
  have HC : Hid (∀ j y, xs[j]? = some y → w.cell? ⟨blk, j, none⟩ = some (.int .i64 y)) := hc
  clear hwork hc
  go_enter Tryz.func81, Tryz.ntmps81
  go_wp2
  go_loop [14] (fun i => ∃ k : Nat, k ≤ xs.length ∧ i = .int .i64 k ∧ (xs.take k).all (Bv.isv kind) = true) (fun i => xs.length - (intOf i).toNat)
  case atStart => exact ⟨0, Nat.zero_le _, rfl, rfl⟩
  case round =>
    obtain ⟨k, hk, rfl, ha⟩ := hrel
    have HA : Hid ((xs.take k).all (Bv.isv kind) = true) := ha
    clear ha
    by_cases hlt2 : k < xs.length
    · have hcell := HC.out k xs[k] (List.getElem?_eq_getElem hlt2)
      generalize hy : xs[k] = y at hcell
      have HY : Hid (xs[k] = y) := hy
      clear hy
      rcases Bool.eq_false_or_eq_true (Bv.isv kind y) with hv | hv
      · go_wp2_with (go_at_call 44; refine (is_any _ _ _).mono ?_; rintro e w' ⟨rfl, rfl⟩)
        exact ⟨⟨k + 1, by omega, by go_num, all_take HA.out hlt2 (by rw [HY.out]; exact hv)⟩, by simp [intOf]; omega⟩
      · have hf : Bv.allv kind xs = false := by
          unfold Bv.allv
          rw [List.all_eq_false]
          exact ⟨xs[k], List.getElem_mem hlt2, by rw [HY.out, hv]; decide⟩
        have hs : Bv.setv kind to x xs = 0 := by simp [Bv.setv, hf]
        go_wp2_with (go_at_call 44; refine (is_any _ _ _).mono ?_; rintro e w' ⟨rfl, rfl⟩)
        go_ret2
        exact ⟨by rw [hs, hf]; rfl, Below.refl _ _⟩
    · have ht : Bv.allv kind xs = true := by
        have h := HA.out
        rw [List.take_of_length_le (by omega)] at h
        exact h
      have hs : Bv.setv kind to x xs = Bv.wrp to x := by simp [Bv.setv, ht]
      have HS : Hid (Bv.setv kind to x xs = Bv.wrp to x) := hs
      have HT : Hid (Bv.allv kind xs = true) := ht
      clear hs ht
      go_wp2_with fail
      refine (H.out _).mono ?_
      rintro e w1 ⟨rfl, hb⟩
      go_wp2_with (go_at_call 60; refine (wrap_any _ _ _).mono ?_; rintro e w' ⟨rfl, rfl⟩)
      go_ret2
      exact ⟨by rw [HS.out, HT.out]; rfl, hb⟩
end Go.Proofs.YtfbhflpjhbemlaaGreat

/- The walks of bv.Un and bv.Cast: what each call answers, whatever the arguments; of the memory that was there nothing turns. -/
namespace Go.Proofs.YtfbhflpjhbemlaaGreat
open Go.RowKit

theorem settle1 (kind to x a : Int) (g : Nat) (v : Value) (w : World) (blk : Nat) (hlt : blk < w.heap.size)
    (h0 : w.cell? ⟨blk, 0, none⟩ = some (.int .i64 a))
    (hcf : ∀ args w, (callFunc g args).run Tryz.prog w = .ok (.enter g args) w)
    (hwork : ∀ w, Calls Tryz.prog g #[v] w fun e w' => e = .returned (.int .i64 x) ∧ Below w.heap.size w w') :
    Calls Tryz.prog 81 #[.int .i64 kind, .int .i64 to, .func (.func g) #[v] #[], .slice (some ⟨blk, 0, none⟩) 1 1] w
      fun e w' => e = .returned (.tuple #[.int .i64 (Bv.setv kind to x [a]), .bool (Bv.allv kind [a])]) ∧ Below w.heap.size w w' :=
  settle_any kind to x [a] g v w blk hlt (by
    intro j y h
    match j with
    | 0 => simp at h; subst h; exact h0
    | j + 1 => simp at h) (by simp) hcf hwork

theorem settle2 (kind to x a b : Int) (g : Nat) (v : Value) (w : World) (blk : Nat) (hlt : blk < w.heap.size)
    (h0 : w.cell? ⟨blk, 0, none⟩ = some (.int .i64 a)) (h1 : w.cell? ⟨blk, 1, none⟩ = some (.int .i64 b))
    (hcf : ∀ args w, (callFunc g args).run Tryz.prog w = .ok (.enter g args) w)
    (hwork : ∀ w, Calls Tryz.prog g #[v] w fun e w' => e = .returned (.int .i64 x) ∧ Below w.heap.size w w') :
    Calls Tryz.prog 81 #[.int .i64 kind, .int .i64 to, .func (.func g) #[v] #[], .slice (some ⟨blk, 0, none⟩) 2 2] w
      fun e w' => e = .returned (.tuple #[.int .i64 (Bv.setv kind to x [a, b]), .bool (Bv.allv kind [a, b])]) ∧ Below w.heap.size w w' :=
  settle_any kind to x [a, b] g v w blk hlt (by
    intro j y h
    match j with
    | 0 => simp at h; subst h; exact h0
    | 1 => simp at h; subst h; exact h1
    | j + 2 => simp at h) (by simp) hcf hwork

theorem enters_run1 (args : Array Value) (w : World) : (callFunc 82 args).run Tryz.prog w = .ok (.enter 82 args) w := enters Tryz.func82 (by kernel_rfl) rfl args w

theorem enters_run2 (args : Array Value) (w : World) : (callFunc 84 args).run Tryz.prog w = .ok (.enter 84 args) w := enters Tryz.func84 (by kernel_rfl) rfl args w

theorem enters_not (args : Array Value) (w : World) : (callFunc 86 args).run Tryz.prog w = .ok (.enter 86 args) w := enters Tryz.func86 (by kernel_rfl) rfl args w

theorem enters_neg (args : Array Value) (w : World) : (callFunc 87 args).run Tryz.prog w = .ok (.enter 87 args) w := enters Tryz.func87 (by kernel_rfl) rfl args w

theorem bel_more {w w1 w2 : World} {o p : Obj} (h1 : Below w.heap.size w w1) (h2 : Below ((w1.alloc o).alloc p).heap.size ((w1.alloc o).alloc p) w2) : Below w.heap.size w w2 :=
  (h1.trans ((bel2 w1 o p).mono h1.size)).trans (h2.mono (by have := h1.size; simp; omega))

/-- the row of an operation on one value -/
def rowU (op : Int) : Array Value := if op = 1 then #[.int .i64 3, .func (.func 86) #[] #[]] else if op = 2 then #[.int .i64 2, .func (.func 87) #[] #[]] else #[.int .i64 0, .nilFunc]

set_option maxHeartbeats 1000000 in
theorem unaryOf_any (op : Int) (w : World) :
    Calls Tryz.prog 79 #[.int .i64 op] w fun e w' => e = .returned (.agg (rowU op)) ∧ Below w.heap.size w w' := by
  have hcases : op < 0 ∨ 3 ≤ op ∨ op = 0 ∨ op = 1 ∨ op = 2 := by omega
  rcases hcases with h | h | h | h | h
  · have hr : rowU op = #[.int .i64 0, .nilFunc] := by unfold rowU; rw [if_neg (by omega), if_neg (by omega)]
    go_enter Tryz.func79, Tryz.ntmps79
    go_wp2
    exact bodyPost_ret (v := .agg (rowU op)) (by rw [hr]; simp [results, Tryz.results79, go_sem]) rfl ⟨rfl, bel2 _ _ _⟩
  · have hr : rowU op = #[.int .i64 0, .nilFunc] := by unfold rowU; rw [if_neg (by omega), if_neg (by omega)]
    go_enter Tryz.func79, Tryz.ntmps79
    go_wp2
    exact bodyPost_ret (v := .agg (rowU op)) (by rw [hr]; simp [results, Tryz.results79, go_sem]) rfl ⟨rfl, bel2 _ _ _⟩
  all_goals
    subst h
    go_enter Tryz.func79, Tryz.ntmps79
    go_wp2
    exact bodyPost_ret (v := .agg (rowU _)) (by simp [results, Tryz.results79, go_sem, rowU]) rfl ⟨rfl, bel2 _ _ _⟩

set_option maxHeartbeats 400000 in
theorem un_nil (op kind a : Int) (w : World) (hr : rowU op = #[.int .i64 0, .nilFunc]) :
    Calls Tryz.prog 65 #[.int .i64 op, .int .i64 kind, .int .i64 a] w fun e w' => e = .returned (.tuple #[.int .i64 0, .bool false]) ∧ Below w.heap.size w w' := by
  have HR : Hid (rowU op = #[.int .i64 0, .nilFunc]) := hr
  clear hr
  have ht : Bv.tks 0 kind = false := by simp [Bv.tks]
  go_enter Tryz.func65, Tryz.ntmps65
  go_wp2_with fail
  refine (unaryOf_any _ _).mono ?_
  rintro e w1 ⟨rfl, hb⟩
  rw [HR.out]
  go_wp2_with (go_at_call 80; refine (takes_any _ _ _).mono ?_; rintro e w' ⟨rfl, rfl⟩)
  go_ret2
  exact ⟨rfl, hb.alloc hb.size _⟩

set_option maxHeartbeats 400000 in
theorem un_no (op kind a o : Int) (f : Nat) (w : World) (hr : rowU op = #[.int .i64 o, .func (.func f) #[] #[]]) (ht : Bv.tks o kind = false) :
    Calls Tryz.prog 65 #[.int .i64 op, .int .i64 kind, .int .i64 a] w fun e w' => e = .returned (.tuple #[.int .i64 0, .bool false]) ∧ Below w.heap.size w w' := by
  have HR : Hid (rowU op = #[.int .i64 o, .func (.func f) #[] #[]]) := hr
  clear hr
  go_enter Tryz.func65, Tryz.ntmps65
  go_wp2_with fail
  refine (unaryOf_any _ _).mono ?_
  rintro e w1 ⟨rfl, hb⟩
  rw [HR.out]
  go_wp2_with (go_at_call 80; refine (takes_any _ _ _).mono ?_; rintro e w' ⟨rfl, rfl⟩)
  go_ret2
  exact ⟨rfl, hb.alloc hb.size _⟩

set_option maxHeartbeats 400000 in
theorem un_yes (op kind a o x : Int) (f : Nat) (w : World) (hr : rowU op = #[.int .i64 o, .func (.func f) #[] #[]]) (ht : Bv.tks o kind = true)
    (hcf : ∀ args w, (callFunc f args).run Tryz.prog w = .ok (.enter f args) w)
    (hf : ∀ w, Calls Tryz.prog f #[.agg #[.int .i64 kind, .int .i64 a]] w fun e w' => e = .returned (.int .i64 x) ∧ Below w.heap.size w w') :
    Calls Tryz.prog 65 #[.int .i64 op, .int .i64 kind, .int .i64 a] w fun e w' => e = .returned (.tuple #[.int .i64 (Bv.setv kind kind x [a]), .bool (Bv.allv kind [a])]) ∧ Below w.heap.size w w' := by
  have HR : Hid (rowU op = #[.int .i64 o, .func (.func f) #[] #[]]) := hr
  have HF : Hid (∀ w, Calls Tryz.prog f #[.agg #[.int .i64 kind, .int .i64 a]] w fun e w' => e = .returned (.int .i64 x) ∧ Below w.heap.size w w') := hf
  have HCF : Hid (∀ args w, (callFunc f args).run Tryz.prog w = .ok (.enter f args) w) := hcf
  clear hr hf hcf
  go_enter Tryz.func65, Tryz.ntmps65
  go_wp2_with fail
  refine (unaryOf_any _ _).mono ?_
  rintro e w1 ⟨rfl, hb⟩
  rw [HR.out]
  go_wp2_with (go_at_call 80; refine (takes_any _ _ _).mono ?_; rintro e w' ⟨rfl, rfl⟩)
  refine (settle1 kind kind x a 82 _ _ _ ?_ ?_ enters_run1 ?_).mono ?_
  · simp
  · simp
  · exact fun w => run1_any f kind a x w HCF.out HF.out
  rintro e w2 ⟨rfl, hb2⟩
  have hB := bel_more hb hb2
  clear hb hb2
  go_wp2
  go_ret2
  exact ⟨rfl, hB⟩

theorem un_any (op kind a : Int) (w : World) :
    Calls Tryz.prog 65 #[.int .i64 op, .int .i64 kind, .int .i64 a] w fun e w' => e = .returned (.tuple #[.int .i64 (Bv.unN op kind a), .bool (Bv.unB op kind a)]) ∧ Below w.heap.size w w' := by
  by_cases h1 : op = 1
  · subst h1
    have ho : Bv.ofU 1 = 3 := rfl
    cases ht : Bv.tks 3 kind with
    | false =>
      have e : Bv.unB 1 kind a = false := by simp [Bv.unB, ho, ht]
      have e' : Bv.unN 1 kind a = 0 := by simp [Bv.unN, e]
      rw [e, e']
      exact un_no 1 kind a 3 _ w rfl ht
    | true =>
      have e : Bv.unB 1 kind a = Bv.allv kind [a] := by simp [Bv.unB, ho, ht]
      have e' : Bv.unN 1 kind a = Bv.setv kind kind (bits .xor .i64 (-1) a) [a] := by simp [Bv.unN, e, Bv.setv, Bv.unV]
      rw [e, e']
      exact un_yes 1 kind a 3 _ _ w rfl ht enters_not (fun w => v_not kind a w)
  · by_cases h2 : op = 2
    · subst h2
      have ho : Bv.ofU 2 = 2 := rfl
      cases ht : Bv.tks 2 kind with
      | false =>
        have e : Bv.unB 2 kind a = false := by simp [Bv.unB, ho, ht]
        have e' : Bv.unN 2 kind a = 0 := by simp [Bv.unN, e]
        rw [e, e']
        exact un_no 2 kind a 2 _ w rfl ht
      | true =>
        have e : Bv.unB 2 kind a = Bv.allv kind [a] := by simp [Bv.unB, ho, ht]
        have e' : Bv.unN 2 kind a = Bv.setv kind kind (wrap64 (-a)) [a] := by simp [Bv.unN, e, Bv.setv, Bv.unV]
        rw [e, e']
        exact un_yes 2 kind a 2 _ _ w rfl ht enters_neg (fun w => v_neg kind a w)
    · have ho : Bv.ofU op = 0 := by simp [Bv.ofU, h1, h2]
      have e : Bv.unB op kind a = false := by simp [Bv.unB, ho, Bv.tks]
      have e' : Bv.unN op kind a = 0 := by simp [Bv.unN, e]
      rw [e, e']
      exact un_nil op kind a w (by simp [rowU, h1, h2])

end Go.Proofs.YtfbhflpjhbemlaaGreat

/- The walk of bv.binaryOf: the row of each operation on two values, or the zero row. -/
namespace Go.Proofs.YtfbhflpjhbemlaaGreat
open Go.RowKit

/-- A whole array stored into the block that was made last, at the operation. -/
theorem wpList_store_new {P : Program} {w1 : World} {o1 : Obj} {ops : Array Oper} {rest : List Oper} {d : Option Tmp} {p v : Operand} {t ty : TypeId} {s : String} {af : Array Edge} {a : Act} {Q : Exit → Act → World → Prop} {c : Array Value}
    (c' : Array Value) (hp : a.eval p = .pointer (some ⟨w1.heap.size + 1, 0, none⟩)) (hv : a.eval v = .agg c') (hi : (P.info? t).map (·.size) = some c'.size) (ho : c.size = c'.size) (h1 : c'.all (·.oneCell') = true)
    (hK : wpList P ops Q rest (a.put d undef) ((w1.alloc o1).alloc (.cells c' t))) :
    wpList P ops Q ({ dst := d, op := Op.store t p v, type := ty, pos := s, after := af, guard := none } :: rest) a ((w1.alloc o1).alloc (.cells c t)) := by
  refine wpList_plain rfl fun K hK' => ?_
  unfold Oper.wp
  have hs : (w1.alloc o1).heap.size = w1.heap.size + 1 := by simp
  have hrun := run_storeAt_new (P := P) (w1.alloc o1) t c c' hi ho h1
  rw [hs] at hrun
  simp [execOp, hp, hv, hrun, Result.andThen]
  exact hK' _ _ hK

/-- At a store: the walk is held there ('Hid'), so that a law can be offered. -/
theorem hold_store {P : Program} {ops : Array Oper} {rest : List Oper} {p v : Operand} {t ty : TypeId} {s : String} {af : Array Edge} {g : Option (Nat × Bool)} {a : Act} {w : World} {Q : Exit → Act → World → Prop}
    (hK : Hid (wpList P ops Q ({ dst := none, op := Op.store t p v, type := ty, pos := s, after := af, guard := g } :: rest) a w)) :
    wpList P ops Q ({ dst := none, op := Op.store t p v, type := ty, pos := s, after := af, guard := g } :: rest) a w := hK

/-- the row of an operation on two values -/
def rowB (op : Int) : Array Value :=
  if op = 3 then #[.int .i64 2, .bool false, .func (.func 88) #[] #[]] else
  if op = 4 then #[.int .i64 2, .bool false, .func (.func 89) #[] #[]] else
  if op = 5 then #[.int .i64 2, .bool false, .func (.func 90) #[] #[]] else
  if op = 6 then #[.int .i64 2, .bool false, .func (.func 91) #[] #[]] else
  if op = 7 then #[.int .i64 2, .bool false, .func (.func 92) #[] #[]] else
  if op = 8 then #[.int .i64 3, .bool false, .func (.func 93) #[] #[]] else
  if op = 9 then #[.int .i64 3, .bool false, .func (.func 94) #[] #[]] else
  if op = 10 then #[.int .i64 3, .bool false, .func (.func 95) #[] #[]] else
  if op = 11 then #[.int .i64 1, .bool false, .func (.func 96) #[] #[]] else
  if op = 12 then #[.int .i64 2, .bool false, .func (.func 97) #[] #[]] else
  if op = 13 then #[.int .i64 2, .bool false, .func (.func 98) #[] #[]] else
  if op = 14 then #[.int .i64 3, .bool true, .func (.func 99) #[] #[]] else
  if op = 15 then #[.int .i64 3, .bool true, .func (.func 100) #[] #[]] else
  if op = 16 then #[.int .i64 2, .bool true, .func (.func 101) #[] #[]] else
  if op = 17 then #[.int .i64 2, .bool true, .func (.func 102) #[] #[]] else
  if op = 18 then #[.int .i64 2, .bool true, .func (.func 103) #[] #[]] else
  if op = 19 then #[.int .i64 2, .bool true, .func (.func 104) #[] #[]] else
  #[.int .i64 0, .bool false, .nilFunc]

theorem rowB_out (op : Int) (h : op < 0 ∨ 20 ≤ op) : rowB op = #[.int .i64 0, .bool false, .nilFunc] := by
  unfold rowB
  repeat (rw [if_neg (by omega)])

set_option maxHeartbeats 4000000 in
theorem binaryOf_any (op : Int) (w : World) :
    Calls Tryz.prog 83 #[.int .i64 op] w fun e w' => e = .returned (.agg (rowB op)) ∧ Below w.heap.size w w' := by
  go_enter Tryz.func83, Tryz.ntmps83
  go_wp2_with (with_reducible refine hold_store ?_)
  refine wpList_store_new _ ?hp rfl ?hi ?ho ?h1 ?hK
  case hp => simp [Act.eval]
  case hi => kernel_rfl
  case ho => rfl
  case h1 => kernel_rfl
  have hcases : op < 0 ∨ 20 ≤ op ∨ op = 0 ∨ op = 1 ∨ op = 2 ∨ op = 3 ∨ op = 4 ∨ op = 5 ∨ op = 6 ∨ op = 7 ∨ op = 8 ∨ op = 9 ∨ op = 10 ∨ op = 11 ∨ op = 12 ∨ op = 13 ∨ op = 14 ∨ op = 15 ∨ op = 16 ∨ op = 17 ∨ op = 18 ∨ op = 19 := by omega
  rcases hcases with h | h | h | h | h | h | h | h | h | h | h | h | h | h | h | h | h | h | h | h | h | h
  · have hr : rowB op = #[.int .i64 0, .bool false, .nilFunc] := rowB_out op (Or.inl h)
    go_wp2
    exact bodyPost_ret (v := .agg (rowB op)) (by rw [hr]; simp [results, Tryz.results83, go_sem]) rfl ⟨rfl, bel2 _ _ _⟩
  · have hr : rowB op = #[.int .i64 0, .bool false, .nilFunc] := rowB_out op (Or.inr h)
    go_wp2
    exact bodyPost_ret (v := .agg (rowB op)) (by rw [hr]; simp [results, Tryz.results83, go_sem]) rfl ⟨rfl, bel2 _ _ _⟩
  all_goals
    subst h
    go_wp2
    refine bodyPost_ret (v := .agg (rowB _)) (by simp [results, Tryz.results83, go_sem, rowB]) rfl ⟨rfl, bel2 _ _ _⟩
end Go.Proofs.YtfbhflpjhbemlaaGreat

/- The walk of bv.Bin: what each call answers, whatever the operation, the kind and the two numbers of 64 bits; of the memory that was there nothing turns. -/
namespace Go.Proofs.YtfbhflpjhbemlaaGreat
open Go.RowKit

theorem enters_add (args : Array Value) (w : World) : (callFunc 88 args).run Tryz.prog w = .ok (.enter 88 args) w := enters Tryz.func88 (by kernel_rfl) rfl args w

theorem enters_sub (args : Array Value) (w : World) : (callFunc 89 args).run Tryz.prog w = .ok (.enter 89 args) w := enters Tryz.func89 (by kernel_rfl) rfl args w

theorem enters_mul (args : Array Value) (w : World) : (callFunc 90 args).run Tryz.prog w = .ok (.enter 90 args) w := enters Tryz.func90 (by kernel_rfl) rfl args w

theorem enters_div (args : Array Value) (w : World) : (callFunc 91 args).run Tryz.prog w = .ok (.enter 91 args) w := enters Tryz.func91 (by kernel_rfl) rfl args w

theorem enters_mod (args : Array Value) (w : World) : (callFunc 92 args).run Tryz.prog w = .ok (.enter 92 args) w := enters Tryz.func92 (by kernel_rfl) rfl args w

theorem enters_and (args : Array Value) (w : World) : (callFunc 93 args).run Tryz.prog w = .ok (.enter 93 args) w := enters Tryz.func93 (by kernel_rfl) rfl args w

theorem enters_or (args : Array Value) (w : World) : (callFunc 94 args).run Tryz.prog w = .ok (.enter 94 args) w := enters Tryz.func94 (by kernel_rfl) rfl args w

theorem enters_xor (args : Array Value) (w : World) : (callFunc 95 args).run Tryz.prog w = .ok (.enter 95 args) w := enters Tryz.func95 (by kernel_rfl) rfl args w

theorem enters_imp (args : Array Value) (w : World) : (callFunc 96 args).run Tryz.prog w = .ok (.enter 96 args) w := enters Tryz.func96 (by kernel_rfl) rfl args w

theorem enters_shl (args : Array Value) (w : World) : (callFunc 97 args).run Tryz.prog w = .ok (.enter 97 args) w := enters Tryz.func97 (by kernel_rfl) rfl args w

theorem enters_shr (args : Array Value) (w : World) : (callFunc 98 args).run Tryz.prog w = .ok (.enter 98 args) w := enters Tryz.func98 (by kernel_rfl) rfl args w

theorem enters_eq (args : Array Value) (w : World) : (callFunc 99 args).run Tryz.prog w = .ok (.enter 99 args) w := enters Tryz.func99 (by kernel_rfl) rfl args w

theorem enters_ne (args : Array Value) (w : World) : (callFunc 100 args).run Tryz.prog w = .ok (.enter 100 args) w := enters Tryz.func100 (by kernel_rfl) rfl args w

theorem enters_lt (args : Array Value) (w : World) : (callFunc 101 args).run Tryz.prog w = .ok (.enter 101 args) w := enters Tryz.func101 (by kernel_rfl) rfl args w

theorem enters_le (args : Array Value) (w : World) : (callFunc 102 args).run Tryz.prog w = .ok (.enter 102 args) w := enters Tryz.func102 (by kernel_rfl) rfl args w

theorem enters_gt (args : Array Value) (w : World) : (callFunc 103 args).run Tryz.prog w = .ok (.enter 103 args) w := enters Tryz.func103 (by kernel_rfl) rfl args w

theorem enters_ge (args : Array Value) (w : World) : (callFunc 104 args).run Tryz.prog w = .ok (.enter 104 args) w := enters Tryz.func104 (by kernel_rfl) rfl args w

set_option maxHeartbeats 400000 in
theorem bin_nil (op kind a b : Int) (w : World) (hr : rowB op = #[.int .i64 0, .bool false, .nilFunc]) :
    Calls Tryz.prog 67 #[.int .i64 op, .int .i64 kind, .int .i64 a, .int .i64 b] w fun e w' => e = .returned (.tuple #[.int .i64 0, .int .i64 0, .bool false]) ∧ Below w.heap.size w w' := by
  have HR : Hid (rowB op = #[.int .i64 0, .bool false, .nilFunc]) := hr
  clear hr
  have ht : Bv.tks 0 kind = false := by simp [Bv.tks]
  go_enter Tryz.func67, Tryz.ntmps67
  go_wp2_with fail
  refine (binaryOf_any _ _).mono ?_
  rintro e w1 ⟨rfl, hb⟩
  rw [HR.out]
  go_wp2_with (go_at_call 80; refine (takes_any _ _ _).mono ?_; rintro e w' ⟨rfl, rfl⟩)
  go_ret3
  exact ⟨rfl, hb.alloc hb.size _⟩

set_option maxHeartbeats 400000 in
theorem bin_no (op kind a b o : Int) (t : Bool) (f : Nat) (w : World) (hr : rowB op = #[.int .i64 o, .bool t, .func (.func f) #[] #[]]) (ht : Bv.tks o kind = false) :
    Calls Tryz.prog 67 #[.int .i64 op, .int .i64 kind, .int .i64 a, .int .i64 b] w fun e w' => e = .returned (.tuple #[.int .i64 0, .int .i64 0, .bool false]) ∧ Below w.heap.size w w' := by
  have HR : Hid (rowB op = #[.int .i64 o, .bool t, .func (.func f) #[] #[]]) := hr
  clear hr
  go_enter Tryz.func67, Tryz.ntmps67
  go_wp2_with fail
  refine (binaryOf_any _ _).mono ?_
  rintro e w1 ⟨rfl, hb⟩
  rw [HR.out]
  go_wp2_with (go_at_call 80; refine (takes_any _ _ _).mono ?_; rintro e w' ⟨rfl, rfl⟩)
  go_ret3
  exact ⟨rfl, hb.alloc hb.size _⟩

set_option maxHeartbeats 800000 in
theorem bin_yes (op kind a b o x : Int) (t : Bool) (f : Nat) (w : World) (hr : rowB op = #[.int .i64 o, .bool t, .func (.func f) #[] #[]]) (ht : Bv.tks o kind = true)
    (hcf : ∀ args w, (callFunc f args).run Tryz.prog w = .ok (.enter f args) w)
    (hf : ∀ w, Calls Tryz.prog f #[.agg #[.int .i64 kind, .int .i64 a], .agg #[.int .i64 kind, .int .i64 b]] w fun e w' => e = .returned (.int .i64 x) ∧ Below w.heap.size w w') :
    Calls Tryz.prog 67 #[.int .i64 op, .int .i64 kind, .int .i64 a, .int .i64 b] w
      fun e w' => e = .returned (.tuple #[.int .i64 (Bv.setv kind (Bv.two t 1 kind) x [a, b]), .int .i64 (Bv.two (Bv.allv kind [a, b]) (Bv.two t 1 kind) 0), .bool (Bv.allv kind [a, b])]) ∧ Below w.heap.size w w' := by
  have HR : Hid (rowB op = #[.int .i64 o, .bool t, .func (.func f) #[] #[]]) := hr
  have HF : Hid (∀ w, Calls Tryz.prog f #[.agg #[.int .i64 kind, .int .i64 a], .agg #[.int .i64 kind, .int .i64 b]] w fun e w' => e = .returned (.int .i64 x) ∧ Below w.heap.size w w') := hf
  have HCF : Hid (∀ args w, (callFunc f args).run Tryz.prog w = .ok (.enter f args) w) := hcf
  clear hr hf hcf
  rcases Bool.eq_false_or_eq_true (Bv.allv kind [a, b]) with hall | hall
  all_goals rcases Bool.eq_false_or_eq_true t with htt | htt
  all_goals subst htt
  all_goals
    go_enter Tryz.func67, Tryz.ntmps67
    go_wp2_with fail
    refine (binaryOf_any _ _).mono ?_
    rintro e w1 ⟨rfl, hb⟩
    rw [HR.out]
    go_wp2_with (go_at_call 80; refine (takes_any _ _ _).mono ?_; rintro e w' ⟨rfl, rfl⟩)
    refine (settle2 kind _ x a b 84 _ _ _ ?_ ?_ ?_ enters_run2 ?_).mono ?_
    · simp
    · simp
    · simp
    · exact fun w => run2_any f kind a kind b x w HCF.out HF.out
    rintro e w2 ⟨rfl, hb2⟩
    have hB := bel_more hb hb2
    clear hb hb2
    go_wp2
    go_ret3
    exact ⟨by simp [Bv.two, Bv.setv, hall], hB⟩

theorem bin_of (op kind a b o x : Int) (t : Bool) (f : Nat) (w : World) (hr : rowB op = #[.int .i64 o, .bool t, .func (.func f) #[] #[]])
    (ho : Bv.ofB op = o) (hts : Bv.tsB op = t) (hv : Bv.vop op kind a b = x)
    (hcf : ∀ args w, (callFunc f args).run Tryz.prog w = .ok (.enter f args) w)
    (hf : ∀ w, Calls Tryz.prog f #[.agg #[.int .i64 kind, .int .i64 a], .agg #[.int .i64 kind, .int .i64 b]] w fun e w' => e = .returned (.int .i64 x) ∧ Below w.heap.size w w') :
    Calls Tryz.prog 67 #[.int .i64 op, .int .i64 kind, .int .i64 a, .int .i64 b] w
      fun e w' => e = .returned (.tuple #[.int .i64 (Bv.binN op kind a b), .int .i64 (Bv.binK op kind a b), .bool (Bv.binB op kind a b)]) ∧ Below w.heap.size w w' := by
  cases ht : Bv.tks o kind with
  | false =>
    have e : Bv.binB op kind a b = false := by simp [Bv.binB, ho, ht]
    have e1 : Bv.binN op kind a b = 0 := by simp [Bv.binN, e]
    have e2 : Bv.binK op kind a b = 0 := by simp [Bv.binK, e]
    rw [e, e1, e2]
    exact bin_no op kind a b o t f w hr ht
  | true =>
    have e : Bv.binB op kind a b = Bv.allv kind [a, b] := by simp [Bv.binB, ho, ht]
    have e1 : Bv.binN op kind a b = Bv.setv kind (Bv.two t 1 kind) x [a, b] := by simp [Bv.binN, e, Bv.setv, Bv.toK, hts, hv, Bv.two]
    have e2 : Bv.binK op kind a b = Bv.two (Bv.allv kind [a, b]) (Bv.two t 1 kind) 0 := by simp [Bv.binK, e, Bv.toK, hts, Bv.two]
    rw [e, e1, e2]
    exact bin_yes op kind a b o x t f w hr ht hcf hf

theorem bin_any (op kind a b : Int) (h64 : Bv.I64 b) (w : World) :
    Calls Tryz.prog 67 #[.int .i64 op, .int .i64 kind, .int .i64 a, .int .i64 b] w
      fun e w' => e = .returned (.tuple #[.int .i64 (Bv.binN op kind a b), .int .i64 (Bv.binK op kind a b), .bool (Bv.binB op kind a b)]) ∧ Below w.heap.size w w' := by
  by_cases hout : op < 3 ∨ 20 ≤ op
  · have ho : Bv.ofB op = 0 := by unfold Bv.ofB; rw [if_neg (by omega), if_neg (by omega), if_neg (by omega)]
    have e : Bv.binB op kind a b = false := by simp [Bv.binB, ho, Bv.tks]
    have e1 : Bv.binN op kind a b = 0 := by simp [Bv.binN, e]
    have e2 : Bv.binK op kind a b = 0 := by simp [Bv.binK, e]
    rw [e, e1, e2]
    exact bin_nil op kind a b w (by unfold rowB; repeat (rw [if_neg (by omega)]))
  · have hc : op = 3 ∨ op = 4 ∨ op = 5 ∨ op = 6 ∨ op = 7 ∨ op = 8 ∨ op = 9 ∨ op = 10 ∨ op = 11 ∨ op = 12 ∨ op = 13 ∨ op = 14 ∨ op = 15 ∨ op = 16 ∨ op = 17 ∨ op = 18 ∨ op = 19 := by omega
    rcases hc with h | h | h | h | h | h | h | h | h | h | h | h | h | h | h | h | h
    all_goals subst h
    · exact bin_of 3 kind a b 2 _ false _ w (by simp [rowB]) rfl rfl (by simp [Bv.vop]) enters_add (fun w => v_add kind a kind b w)
    · exact bin_of 4 kind a b 2 _ false _ w (by simp [rowB]) rfl rfl (by simp [Bv.vop]) enters_sub (fun w => v_sub kind a kind b w)
    · exact bin_of 5 kind a b 2 _ false _ w (by simp [rowB]) rfl rfl (by simp [Bv.vop]) enters_mul (fun w => v_mul kind a kind b w)
    · exact bin_of 6 kind a b 2 _ false _ w (by simp [rowB]) rfl rfl (by simp [Bv.vop]) enters_div (fun w => v_div kind a kind b h64 w)
    · exact bin_of 7 kind a b 2 _ false _ w (by simp [rowB]) rfl rfl (by simp [Bv.vop]) enters_mod (fun w => v_mod kind a kind b h64 w)
    · exact bin_of 8 kind a b 3 _ false _ w (by simp [rowB]) rfl rfl (by simp [Bv.vop]) enters_and (fun w => v_and kind a kind b w)
    · exact bin_of 9 kind a b 3 _ false _ w (by simp [rowB]) rfl rfl (by simp [Bv.vop]) enters_or (fun w => v_or kind a kind b w)
    · exact bin_of 10 kind a b 3 _ false _ w (by simp [rowB]) rfl rfl (by simp [Bv.vop]) enters_xor (fun w => v_xor kind a kind b w)
    · exact bin_of 11 kind a b 1 _ false _ w (by simp [rowB]) rfl rfl (by simp [Bv.vop]) enters_imp (fun w => v_imp kind a kind b w)
    · exact bin_of 12 kind a b 2 _ false _ w (by simp [rowB]) rfl rfl (by simp [Bv.vop]) enters_shl (fun w => v_shl kind a kind b w)
    · exact bin_of 13 kind a b 2 _ false _ w (by simp [rowB]) rfl rfl (by simp [Bv.vop]) enters_shr (fun w => v_shr kind a kind b w)
    · exact bin_of 14 kind a b 3 _ true _ w (by simp [rowB]) rfl rfl (by simp [Bv.vop]) enters_eq (fun w => v_eq kind a kind b w)
    · exact bin_of 15 kind a b 3 _ true _ w (by simp [rowB]) rfl rfl (by simp [Bv.vop]) enters_ne (fun w => v_ne kind a kind b w)
    · exact bin_of 16 kind a b 2 _ true _ w (by simp [rowB]) rfl rfl (by simp [Bv.vop]) enters_lt (fun w => v_lt kind a kind b w)
    · exact bin_of 17 kind a b 2 _ true _ w (by simp [rowB]) rfl rfl (by simp [Bv.vop]) enters_le (fun w => v_le kind a kind b w)
    · exact bin_of 18 kind a b 2 _ true _ w (by simp [rowB]) rfl rfl (by simp [Bv.vop]) enters_gt (fun w => v_gt kind a kind b w)
    · exact bin_of 19 kind a b 2 _ true _ w (by simp [rowB]) rfl rfl (by simp [Bv.vop]) enters_ge (fun w => v_ge kind a kind b w)
end Go.Proofs.YtfbhflpjhbemlaaGreat
