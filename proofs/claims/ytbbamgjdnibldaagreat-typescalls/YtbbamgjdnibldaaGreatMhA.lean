/- My texts Shelf BvM BvA LexM LexA LexB LexC LexD LexW LexN LexO LexE LexF LexG LexH LexI LexJ LexR LexL LexK LexP LexS LexQ LexT LexU LexV LexVa LexVb, joined. -/
import Derived.Test.YtbbamgjdnibldaaGreatProg
import Derived.RowKit
import Derived.Laws.BitsLemmas
import Derived.Laws.Closers25b
import Derived.Test.YtbbamgjdnibldaaGreatChecked
import Derived.WalkKit
import Derived.WalkSpells
import Derived.WalkLawsBesides
import Derived.Deep.Light
import Derived.Deep.QuietTactic
import Derived.BigQuiet
import Derived.RegionTactic
import Derived.Maps.Own
import Derived.Maps.OwnSet
import Derived.Maps.AppendAt
import Derived.Maps.Range
import Derived.Maps.RangeWalk
import Derived.Lib.Hide
import Derived.Maps.OwnOps
import Derived.Deep.RegionWith
import Derived.Deep.Onto
import Derived.Test.YtbbamgjdnibldaaGreatRows
import Derived.Stop.LaidErr
import Derived.Stop.Joined
import Derived.LaidMore
import Derived.Lay
import Derived.ProofKit
import Derived.Deep.AppendLies
import Derived.OwnWalk
import Derived.Laws.IdiomStrings
set_option linter.unusedVariables false
set_option linter.unusedSimpArgs false
set_option linter.unnecessarySimpa false
set_option linter.unusedSectionVars false
set_option maxHeartbeats 12800000
set_option maxRecDepth 20000
namespace Go.Proofs.YtbbamgjdnibldaaGreat
open Go.RowKit
theorem ld {p : Prop} (h : p) : Hid p := Lib.hid h
theorem ga (w : World) (o : Obj) (r : Option Nat) : w.grownBy (w.alloc o) r := World.grownBy_alloc w o r
end Go.Proofs.YtbbamgjdnibldaaGreat
namespace Go.Proofs.YtbbamgjdnibldaaGreat.Bv
open Go.RowKit
def wid (k : Int) : Int :=
 if k = 5 ∨ k = 9 then 64 else if k = 4 ∨ k = 8 then 32 else if k = 3 ∨ k = 7 then 16 else if k = 2 ∨ k = 6 then 8 else if k = 1 then 1 else 0
def wrp (k n : Int) : Int :=
 if k = 1 then n % 2 else if k = 2 then (n + 128) % 256 - 128 else if k = 3 then (n + 32768) % 65536 - 32768
 else if k = 4 then (n + 2147483648) % 4294967296 - 2147483648 else if k = 6 then n % 256 else if k = 7 then n % 65536
 else if k = 8 then n % 4294967296 else if k = 5 ∨ k = 9 then n else 0
def isv (k n : Int) : Bool := decide (0 < wid k) && (wrp k n == n)
theorem wrap_i8 (n : Int) : IntKind.i8.wrap n = (n + 128) % 256 - 128 := by
 simp only [IntKind.wrap, IntKind.bits, IntKind.signed]; simp; split <;> omega
theorem wrap_i16 (n : Int) : IntKind.i16.wrap n = (n + 32768) % 65536 - 32768 := by
 simp only [IntKind.wrap, IntKind.bits, IntKind.signed]; simp; split <;> omega
theorem wrap_u16 (n : Int) : IntKind.u16.wrap n = n % 65536 := by simp [IntKind.wrap, IntKind.bits, IntKind.signed]
theorem wrap_u64 (n : Int) : IntKind.u64.wrap n = n % 18446744073709551616 := by simp [IntKind.wrap, IntKind.bits, IntKind.signed]
theorem wrap8 (n : Int) : wrap64 (IntKind.i8.wrap n) = (n + 128) % 256 - 128 := by
 rw [wrap_i8]; unfold wrap64; omega
theorem wrap16 (n : Int) : wrap64 (IntKind.i16.wrap n) = (n + 32768) % 65536 - 32768 := by
 rw [wrap_i16]; unfold wrap64; omega
theorem wrap3264 (n : Int) : wrap64 (wrap32 n) = (n + 2147483648) % 4294967296 - 2147483648 := by
 unfold wrap64 wrap32; omega
theorem wrapu16 (n : Int) : wrap64 (IntKind.u16.wrap n) = n % 65536 := by
 rw [wrap_u16]; unfold wrap64; omega
theorem and1 (n : Int) : bits .and .i64 n 1 = n % 2 := by
 have h1 : (BitVec.ofInt 64 1).toNat = 2 ^ 1 - 1 := by decide
 have key : (BitVec.ofInt 64 n &&& BitVec.ofInt 64 1).toNat = (n % ((2 ^ 64 : Nat) : Int)).toNat % 2 ^ 1 := by
  rw [BitVec.toNat_and, BitVec.toNat_ofInt, h1, Nat.and_two_pow_sub_one_eq_mod]
 show IntKind.i64.wrap ((BitVec.ofInt 64 n &&& BitVec.ofInt 64 1).toNat : Nat) = n % 2
 rw [key, IntKind.wrap_i64]
 omega
def I64 (n : Int) : Prop := -9223372036854775808 ≤ n ∧ n ≤ 9223372036854775807
theorem u64_ne {b : Int} (h : I64 b) (hb : ¬ b = 0) : ¬ IntKind.u64.wrap b = 0 := by
 unfold I64 at h
 rw [wrap_u64]
 omega
def vshr (k a b : Int) : Int := if 6 ≤ k then IntKind.i64.wrap (IntKind.u64.wrap a / 2 ^ min (IntKind.u64.wrap b).toNat 64) else a / 2 ^ min (IntKind.u64.wrap b).toNat 64
def vshl (a b : Int) : Int := IntKind.i64.wrap (a * 2 ^ min (IntKind.u64.wrap b).toNat 64)
def tks (o k : Int) : Bool := if o = 1 then k == 1 else if o = 2 then (k != 1) && decide (0 < wid k) else if o = 3 then decide (0 < wid k) else false
def allv (k : Int) (xs : List Int) : Bool := xs.all (isv k)
def setv (k to x : Int) (xs : List Int) : Int := if allv k xs then wrp to x else 0
def two (t : Bool) (x y : Int) : Int := if t then x else y
def one (b : Bool) : Int := if b then 1 else 0
def lss (k a b : Int) : Bool := if 6 ≤ k then decide (IntKind.u64.wrap a < IntKind.u64.wrap b) else decide (a < b)
def vdiv (k a b : Int) : Int := if b = 0 then 0 else if 6 ≤ k then wrap64 (IntKind.u64.wrap ((IntKind.u64.wrap a).tdiv (IntKind.u64.wrap b))) else wrap64 (a.tdiv b)
def vmod (k a b : Int) : Int := if b = 0 then 0 else if 6 ≤ k then wrap64 ((IntKind.u64.wrap a).tmod (IntKind.u64.wrap b)) else a.tmod b
def ofU (op : Int) : Int := if op = 1 then 3 else if op = 2 then 2 else 0
def unV (op a : Int) : Int := if op = 1 then bits .xor .i64 (-1) a else wrap64 (-a)
def unB (op kind a : Int) : Bool := tks (ofU op) kind && allv kind [a]
def unN (op kind a : Int) : Int := if unB op kind a then wrp kind (unV op a) else 0
def ofB (op : Int) : Int :=
 if op = 11 then 1 else if op = 8 ∨ op = 9 ∨ op = 10 ∨ op = 14 ∨ op = 15 then 3 else if 3 ≤ op ∧ op ≤ 19 then 2 else 0
def tsB (op : Int) : Bool := decide (14 ≤ op)
def vop (op k a b : Int) : Int :=
 if op = 3 then wrap64 (a + b) else if op = 4 then wrap64 (a - b) else if op = 5 then wrap64 (a * b)
 else if op = 6 then vdiv k a b else if op = 7 then vmod k a b
 else if op = 8 then bits .and .i64 a b else if op = 9 then bits .or .i64 a b else if op = 10 then bits .xor .i64 a b
 else if op = 11 then bits .or .i64 (bits .xor .i64 (-1) a) b
 else if op = 12 then vshl a b else if op = 13 then vshr k a b
 else if op = 14 then one (a == b) else if op = 15 then one (a != b)
 else if op = 16 then one (lss k a b) else if op = 17 then one (!lss k b a)
 else if op = 18 then one (lss k b a) else one (!lss k a b)
def binB (op kind a b : Int) : Bool := tks (ofB op) kind && allv kind [a, b]
def toK (op kind : Int) : Int := if tsB op then 1 else kind
def binK (op kind a b : Int) : Int := if binB op kind a b then toK op kind else 0
def binN (op kind a b : Int) : Int := if binB op kind a b then wrp (toK op kind) (vop op kind a b) else 0
end Go.Proofs.YtbbamgjdnibldaaGreat.Bv
namespace Go.Proofs.YtbbamgjdnibldaaGreat
open Go.RowKit
theorem ret_int {k : IntKind} {a b : Int} (h : a = b) : Ending.returned (.int k a) = .returned (.int k b) := by rw [h]
theorem ret_bool {a b : Bool} (h : a = b) : Ending.returned (.bool a) = .returned (.bool b) := by rw [h]
theorem width_any (k : Int) (w : World) :
  Calls Tryz.prog 138 #[.int .i64 k] w fun e w' => e = .returned (.int .i64 (Bv.wid k)) ∧ w' = w := by
 go_enter Tryz.func138, Tryz.ntmps138
 go_wp2
 all_goals go_ret
 all_goals refine ⟨ret_int ?_, rfl⟩
 all_goals (unfold Bv.wid; simp_all)
theorem wrap_any (k n : Int) (w : World) :
  Calls Tryz.prog 140 #[.int .i64 k, .int .i64 n] w fun e w' => e = .returned (.int .i64 (Bv.wrp k n)) ∧ w' = w := by
 have c1 := Bv.and1 n
 have c2 := Bv.wrap8 n
 have c3 := Bv.wrap16 n
 have c4 := Bv.wrap3264 n
 have c7 := Bv.wrapu16 n
 have C : Hid (bits .and .i64 n 1 = n % 2 ∧ wrap64 (IntKind.i8.wrap n) = (n + 128) % 256 - 128 ∧ wrap64 (IntKind.i16.wrap n) = (n + 32768) % 65536 - 32768 ∧ wrap64 (wrap32 n) = (n + 2147483648) % 4294967296 - 2147483648 ∧ wrap64 (IntKind.u16.wrap n) = n % 65536) := ⟨c1, c2, c3, c4, c7⟩
 clear c1 c2 c3 c4 c7
 go_enter Tryz.func140, Tryz.ntmps140
 go_wp2
 all_goals go_ret
 all_goals refine ⟨ret_int ?_, rfl⟩
 all_goals (obtain ⟨c1, c2, c3, c4, c7⟩ := C.out; unfold Bv.wrp; simp_all)
theorem is_any (k n : Int) (w : World) :
    Calls Tryz.prog 139 #[.int .i64 k, .int .i64 n] w fun e w' => e = .returned (.bool (Bv.isv k n)) ∧ w' = w := by
  by_cases hk : 0 < Bv.wid k
  · go_enter Tryz.func139, Tryz.ntmps139
    go_wp2_with (first | (go_at_call 138; refine (width_any _ _).mono ?_; rintro e w' ⟨rfl, rfl⟩) | (go_at_call 140; refine (wrap_any _ _ _).mono ?_; rintro e w' ⟨rfl, rfl⟩))
    all_goals go_ret
    all_goals exact ⟨ret_bool (by simp [Bv.isv, hk]), rfl⟩
  · go_enter Tryz.func139, Tryz.ntmps139
    go_wp2_with (first | (go_at_call 138; refine (width_any _ _).mono ?_; rintro e w' ⟨rfl, rfl⟩) | (go_at_call 140; refine (wrap_any _ _ _).mono ?_; rintro e w' ⟨rfl, rfl⟩))
    all_goals go_ret
    all_goals exact ⟨ret_bool (by have h : ¬ 0 < Bv.wid k := by omega
                                  simp [Bv.isv, h]), rfl⟩
theorem takes_any (o k : Int) (w : World) :
  Calls Tryz.prog 107 #[.int .i64 o, .int .i64 k] w fun e w' => e = .returned (.bool (Bv.tks o k)) ∧ w' = w := by
 rcases Bool.eq_false_or_eq_true (k != 1) with hk | hk
 all_goals
  go_enter Tryz.func107, Tryz.ntmps107
  go_wp2_with (first | (go_at_call 138; refine (width_any _ _).mono ?_; rintro e w' ⟨rfl, rfl⟩))
  all_goals go_ret
  all_goals refine ⟨ret_bool ?_, rfl⟩
  all_goals (simp_all [Bv.tks])
end Go.Proofs.YtbbamgjdnibldaaGreat
namespace Go.Proofs.YtbbamgjdnibldaaGreat.Lex
open Go.RowKit
def blank (c : UInt8) : Bool := c.toNat == 32 || c.toNat == 9 || c.toNat == 10 || c.toNat == 13
def digit (c : UInt8) : Bool := decide (48 ≤ c.toNat) && decide (c.toNat ≤ 57)
def word (c : UInt8) : Bool := c.toNat == 95 || digit c || (decide (97 ≤ c.toNat) && decide (c.toNat ≤ 122)) || (decide (65 ≤ c.toNat) && decide (c.toNat ≤ 90))
def inLine (c : UInt8) : Bool := c.toNat != 10
def spn (p : UInt8 → Bool) (l : List UInt8) : Nat := (l.takeWhile p).length
def skp : Bool → List UInt8 → Nat
 | _, [] => 0
 | true, c :: r => if c.toNat = 10 then skp false r + 1 else skp true r + 1
 | false, c :: r => if blank c then skp false r + 1 else if c.toNat = 45 ∧ r.head?.map (·.toNat) = some 45 then skp true r + 1 else 0
def tbl : List (List UInt8 × Int) :=
 ([97, 110, 100], 0) ::
 ([97, 117, 116, 111, 109, 97, 116, 111, 110], 0) ::
 ([98, 111, 111, 108], 1) ::
 ([99, 97, 115, 116], 0) ::
 ([99, 111, 110, 116, 105, 110, 117, 101], 0) ::
 ([100, 111], 0) ::
 ([101, 108, 115, 101], 0) ::
 ([101, 110, 100], 0) ::
 ([102, 97, 108, 115, 101], 0) ::
 ([102, 98, 121], 0) ::
 ([102, 111, 108, 100], 0) ::
 ([105, 49, 54], 3) ::
 ([105, 51, 50], 4) ::
 ([105, 54, 52], 5) ::
 ([105, 56], 2) ::
 ([105, 102], 0) ::
 ([108, 101, 116], 0) ::
 ([109, 97, 112], 0) ::
 ([109, 101, 114, 103, 101], 0) ::
 ([109, 111, 100], 0) ::
 ([110, 111, 100, 101], 0) ::
 ([110, 111, 116], 0) ::
 ([111, 110], 0) ::
 ([111, 114], 0) ::
 ([112, 114, 101], 0) ::
 ([114, 101, 112], 0) ::
 ([114, 101, 115, 101, 116], 0) ::
 ([114, 101, 116, 117, 114, 110, 115], 0) ::
 ([115, 116, 97, 116, 101], 0) ::
 ([116, 101, 108], 0) ::
 ([116, 104, 101, 110], 0) ::
 ([116, 105, 99, 107], 0) ::
 ([116, 114, 117, 101], 0) ::
 ([117, 49, 54], 7) ::
 ([117, 51, 50], 8) ::
 ([117, 54, 52], 9) ::
 ([117, 56], 6) ::
 ([117, 110, 108, 101, 115, 115], 0) ::
 ([117, 110, 116, 105, 108], 0) ::
 ([118, 97, 114], 0) ::
 ([119, 104, 101, 110], 0) ::
 ([120, 111, 114], 0) :: []
def look (l : List UInt8) : Option Int := (tbl.find? (fun p => p.1 == l)).map (·.2)
def kindOf (l : List UInt8) : Int := (look l).getD 0
def numVal (l : List UInt8) : Nat := l.foldl (fun a c => a * 10 + (c.toNat - 48)) 0
def top (k : Int) : Int :=
 if k = 2 then 128 else if k = 3 then 32768 else if k = 4 then 2147483648 else if k = 5 then 9223372036854775808
 else if k = 6 then 255 else if k = 7 then 65535 else if k = 8 then 4294967295 else 18446744073709551615
def plainOk (d : List UInt8) : Bool := decide (d.length ≤ 9)
def kindOk (k : Int) (d : List UInt8) : Bool := decide (d.length ≤ 20) && (decide (2 ≤ k) && decide ((numVal d : Int) ≤ top k))
def signW (c d : Nat) : Nat :=
 if (c = 60 ∧ (d = 60 ∨ d = 61 ∨ d = 62)) ∨ (c = 62 ∧ (d = 61 ∨ d = 62)) ∨ ((c = 45 ∨ c = 61) ∧ d = 62) then 2
 else if c = 60 ∨ c = 62 ∨ c = 45 ∨ c = 61 ∨ c = 40 ∨ c = 41 ∨ c = 91 ∨ c = 93 ∨ c = 44 ∨ c = 59 ∨ c = 58 ∨ c = 43 ∨ c = 42 ∨ c = 47 ∨ c = 38 ∨ c = 124 ∨ c = 94 then 1 else 0
def pk (l : List UInt8) (i : Nat) : Nat := (l[i]?.map (·.toNat)).getD 0
inductive Tok where
 | tok (kind n t : Int) (len : Nat)
 | bad (e : Int)
def numTok (l : List UInt8) : Tok :=
 let a := spn digit l
 let d := l.take a
 let b := spn word (l.drop a)
 let e := (l.drop a).take b
 if b = 0 then (if plainOk d then .tok 2 (numVal d) 0 a else .bad 11)
 else if kindOk (kindOf e) d then .tok 2 (Bv.wrp (kindOf e) (wrap64 (numVal d))) (kindOf e) (a + b) else .bad 11
def nameTok (l : List UInt8) : Tok :=
 let b := spn word l
 if (look (l.take b)).isSome then .tok 3 0 0 b else if 40 < b then .bad 2 else .tok 1 0 0 b
def signTok (l : List UInt8) : Tok :=
 let k := signW (pk l 0) (pk l 1)
 if k = 0 then .bad 10 else .tok 4 0 0 k
def tokAt (l : List UInt8) : Tok :=
 match l with
 | [] => .tok 5 0 0 0
 | c :: _ => if digit c then numTok l else if word c then nameTok l else signTok l
structure Tk where
 kind : Int
 text : List UInt8
 n : Int
 t : Int
 at_ : Nat
deriving DecidableEq
inductive Res where
 | ok (l : List Tk)
 | err (at_ : Nat) (e : Int)
deriving DecidableEq
def Res.pre (x : Tk) : Res → Res
 | .ok l => .ok (x :: l)
 | .err a e => .err a e
def toks : Nat → List UInt8 → Nat → Nat → Res
 | 0, _, at_, _ => .err at_ 0
 | f + 1, l, at_, room =>
  match tokAt (l.drop (skp false l)) with
  | .bad e => .err (at_ + skp false l) e
  | .tok kd n t len =>
   if room = 0 then .err (at_ + skp false l) 2
   else if kd = 5 then .ok [⟨5, [], 0, 0, at_ + skp false l⟩]
   else (toks f ((l.drop (skp false l)).drop len) (at_ + skp false l + len) (room - 1)).pre ⟨kd, (l.drop (skp false l)).take len, n, t, at_ + skp false l⟩
def tokens (l : List UInt8) : Res := if 65536 < l.length then .err 0 2 else toks (l.length + 1) l 0 20000
theorem spn_le (p : UInt8 → Bool) (l : List UInt8) : spn p l ≤ l.length := by
 unfold spn; exact (List.takeWhile_sublist p).length_le
theorem spn_end (p : UInt8 → Bool) {l : List UInt8} {j : Nat} (h : l.length ≤ j) : spn p (l.drop j) = 0 := by
 rw [List.drop_eq_nil_of_le h]; rfl
theorem spn_step {p : UInt8 → Bool} {l : List UInt8} {j : Nat} (h : j < l.length) (hp : p l[j] = true) : spn p (l.drop j) = spn p (l.drop (j + 1)) + 1 := by
 unfold spn; rw [List.drop_eq_getElem_cons h, List.takeWhile_cons, if_pos hp, List.length_cons]
theorem spn_stop {p : UInt8 → Bool} {l : List UInt8} {j : Nat} (h : j < l.length) (hp : p l[j] = false) : spn p (l.drop j) = 0 := by
 unfold spn; rw [List.drop_eq_getElem_cons h, List.takeWhile_cons, if_neg (by simp [hp])]; rfl
theorem skp_line : ∀ l : List UInt8, skp true l = spn inLine l + skp false (l.drop (spn inLine l))
 | [] => rfl
 | c :: r => by
  by_cases h : c.toNat = 10
  ·have hi : inLine c = false := by simp [inLine, h]
   have hb : blank c = true := by simp [blank, h]
   simp [skp, h, spn, hi, hb]
  ·have hi : inLine c = true := by simp [inLine, h]
   have ih := skp_line r
   have e : spn inLine (c :: r) = spn inLine r + 1 := by simp [spn, hi]
   rw [e]
   simp only [skp, h, if_false, List.drop_succ_cons]
   omega
theorem skp_blank {l : List UInt8} {j : Nat} (h : j < l.length) (hb : blank l[j] = true) : skp false (l.drop j) = skp false (l.drop (j + 1)) + 1 := by
 rw [List.drop_eq_getElem_cons h]; simp [skp, hb]
theorem pk_eq {l : List UInt8} {j : Nat} (h : j < l.length) : pk l j = l[j].toNat := by simp [pk, h]
theorem pk_ge {l : List UInt8} {j : Nat} (h : l.length ≤ j) : pk l j = 0 := by simp [pk, h]
theorem pk_drop (l : List UInt8) (i j : Nat) : pk (l.drop i) j = pk l (i + j) := by simp [pk]
theorem head_pk (l : List UInt8) (j : Nat) : (l.drop j).head?.map (·.toNat) = some 45 ↔ pk l j = 45 := by
 rw [List.head?_drop]
 unfold pk
 cases l[j]? <;> simp
theorem skp_comment {l : List UInt8} {j : Nat} (h : j < l.length) (hb : blank l[j] = false) (h1 : pk l j = 45) (h2 : pk l (j + 1) = 45) : skp false (l.drop j) = spn inLine (l.drop j) + skp false (l.drop (j + spn inLine (l.drop j))) := by
 have e : skp false (l.drop j) = skp true (l.drop j) := by
  rw [pk_eq h] at h1
  have h3 := (head_pk l (j + 1)).2 h2
  rw [List.drop_eq_getElem_cons h]
  unfold skp; rw [if_neg (by simp [hb]), if_pos ⟨h1, h3⟩, if_neg (by omega)]
 rw [e, skp_line, List.drop_drop]
theorem skp_stop {l : List UInt8} {j : Nat} (h : j < l.length) (hb : blank l[j] = false) (h1 : ¬ (pk l j = 45 ∧ pk l (j + 1) = 45)) : skp false (l.drop j) = 0 := by
 rw [pk_eq h, ← head_pk] at h1
 rw [List.drop_eq_getElem_cons h]
 unfold skp; rw [if_neg (by simp [hb]), if_neg h1]
theorem skp_end {l : List UInt8} {j : Nat} (h : l.length ≤ j) : skp false (l.drop j) = 0 := by
 rw [List.drop_eq_nil_of_le h]; rfl
theorem spn_inLine_pos {l : List UInt8} {j : Nat} (h : j < l.length) (h1 : pk l j = 45) : 0 < spn inLine (l.drop j) := by
 rw [pk_eq h] at h1
 rw [spn_step h (by simp [inLine, h1])]
 omega
end Go.Proofs.YtbbamgjdnibldaaGreat.Lex
namespace Go.Proofs.YtbbamgjdnibldaaGreat
open Go.RowKit
theorem ret_t {b : Bool} (h : b = true) : Ending.returned (.bool true) = .returned (.bool b) := by rw [h]
theorem ret_f {b : Bool} (h : ¬ b = true) : Ending.returned (.bool false) = .returned (.bool b) := by rw [Bool.not_eq_true] at h; rw [h]
theorem ret_d {b : Bool} {p : Prop} [Decidable p] (h : b = true ↔ p) : Ending.returned (.bool (decide p)) = .returned (.bool b) := by
 have e : b = decide p := by rw [Bool.eq_iff_iff]; rw [h]; exact (decide_eq_true_iff ..).symm
 rw [e]
theorem ret_e {b : Bool} {x y : Int} (h : b = true ↔ x = y) : Ending.returned (.bool (x == y)) = .returned (.bool b) := by
 have e : b = (x == y) := by rw [Bool.eq_iff_iff]; rw [h]; exact beq_iff_eq.symm
 rw [e]
theorem ret_g {a b : Bool} (h : b = true ↔ a = true) : Ending.returned (.bool a) = .returned (.bool b) := by
 have e : b = a := by rw [Bool.eq_iff_iff]; exact h
 rw [e]
theorem blank_iff (c : UInt8) : Lex.blank c = true ↔ c.toNat = 32 ∨ c.toNat = 9 ∨ c.toNat = 10 ∨ c.toNat = 13 := by simp [Lex.blank, or_assoc]
theorem digit_iff (c : UInt8) : Lex.digit c = true ↔ 48 ≤ c.toNat ∧ c.toNat ≤ 57 := by simp [Lex.digit]
theorem word_iff (c : UInt8) : Lex.word c = true ↔ c.toNat = 95 ∨ (48 ≤ c.toNat ∧ c.toNat ≤ 57) ∨ (97 ≤ c.toNat ∧ c.toNat ≤ 122) ∨ (65 ≤ c.toNat ∧ c.toNat ≤ 90) := by simp [Lex.word, Lex.digit, or_assoc]
section
variable {w : World} {b : Nat} {s : ByteArray} {i m : Nat}
end
theorem grown_set (w : World) (a : Addr) (u : Value) : w.grownBy (w.setCell a u) (some a.block) :=
 ⟨rfl, rfl, rfl, by simp [World.setCell], fun k _ hk => Below.heap_setCell w a u k (fun e => hk (by rw [e]))⟩
theorem gset {w wx : World} {row : Option Nat} (h : w.grownBy wx row) {a : Addr} (ha : w.heap.size ≤ a.block ∨ row = some a.block) (u : Value) : w.grownBy (wx.setCell a u) row :=
 h.andThen (grown_set wx a u) (fun j e => by cases e; exact ha)
theorem gdrewN {w wx : World} {row : Option Nat} (h : w.grownBy wx row) (k : Nat) : w.grownBy (wx.drewN k) row := ⟨h.os, h.tape, h.output, h.size, h.block⟩
theorem galloc {w wx : World} {row : Option Nat} (h : w.grownBy wx row) (o : Obj) : w.grownBy (wx.alloc o) row := h.andThen (ga wx o none) (fun j e => by cases e)
theorem byte_at (s : ByteArray) (i : Nat) (h : i < s.size) : s[i].toNat = Lex.pk s.data.toList i := by
 rw [Lex.pk_eq (by simpa using h)]
 rfl
theorem idx_str (s : ByteArray) (n : Nat) (h : n < s.size) (z : Int) (hz : z = (n : Int)) (wx : World) :
  (Instr.index 9 (.string s) (.int .i64 z)).run Tryz.prog wx = .ok (.int .u8 (Lex.pk s.data.toList n : Int)) wx := by
 subst hz
 have e := run_index_string (P := Tryz.prog) wx 9 s .i64 (n : Int) Tryz.underlying9
 rw [e, dif_pos (by omega)]
 simp only [Int.toNat_natCast]
 rw [byte_at s n h]
theorem slc_str (s : ByteArray) (i j : Nat) (h1 : i ≤ j) (h2 : j ≤ s.size) (wx : World) :
  (Instr.slice 9 (.string s) (some (.int .i64 (i : Int))) (some (.int .i64 (j : Int))) none).run Tryz.prog wx = .ok (.string (s.extract i j)) wx := by
 have e := run_slice_string (P := Tryz.prog) wx 9 s .i64 .i64 (i : Int) (j : Int) Tryz.underlying9 (by omega) (by omega) (by omega)
 simpa only [Int.toNat_natCast] using e
theorem signW_two (c d : Nat) (h : Lex.signW c d = 2) : ¬ d = 0 := by
 unfold Lex.signW at h
 split at h
 ·omega
 ·split at h <;> omega
namespace Lex
def digits (l : List UInt8) : Prop := ∀ c ∈ l, 48 ≤ c.toNat ∧ c.toNat ≤ 57
def fv (a : Nat) (l : List UInt8) : Nat := l.foldl (fun a c => a * 10 + (c.toNat - 48)) a
theorem fv_cons (a : Nat) (c : UInt8) (r : List UInt8) : fv a (c :: r) = fv (a * 10 + (c.toNat - 48)) r := by simp only [fv, List.foldl_cons]
theorem fv_nil (a : Nat) : fv a [] = a := rfl
theorem numVal_eq (l : List UInt8) : numVal l = fv 0 l := rfl
theorem fv_ge : ∀ (l : List UInt8) (a : Nat), a ≤ fv a l
 | [], a => Nat.le_refl _
 | c :: r, a => by rw [fv_cons]; have := fv_ge r (a * 10 + (c.toNat - 48)); omega
theorem fv_lt : ∀ (l : List UInt8) (a : Nat), digits l → fv a l < (a + 1) * 10 ^ l.length
 | [], a, _ => by simp [fv_nil]
 | c :: r, a, h => by
  rw [fv_cons, List.length_cons, Nat.pow_succ]
  have h1 := fv_lt r (a * 10 + (c.toNat - 48)) (fun x hx => h x (by simp [hx]))
  have h2 := h c (by simp)
  have h3 : a * 10 + (c.toNat - 48) + 1 ≤ (a + 1) * 10 := by omega
  have h4 := Nat.mul_le_mul_right (10 ^ r.length) h3
  have e : (a + 1) * (10 ^ r.length * 10) = (a + 1) * 10 * 10 ^ r.length := by rw [Nat.mul_comm (10 ^ r.length) 10, Nat.mul_assoc]
  omega
theorem numVal_lt (l : List UInt8) (h : digits l) : numVal l < 10 ^ l.length := by
 have := fv_lt l 0 h
 rw [numVal_eq]; omega
end Lex
theorem grown_of_below {w w' : World} (h : Below w.heap.size w w') : w.grownBy w' none := ⟨h.os, h.tape, h.output, h.size, fun k hk _ => h.block k hk⟩
def tk0 : Obj := .cells #[.int .i64 0, .string ⟨#[]⟩, .int .i64 0, .int .i64 0, .int .i64 0, .int .i64 0] 108
def Six (w : World) (b : Nat) : Prop := ∃ x0 x1 x2 x3 x4 x5, w.heap[b]? = some (.cells #[x0, x1, x2, x3, x4, x5] 108 (0, 0))
theorem Six.of {w w1 : World} {row : Option Nat} (hg : (w.alloc tk0).grownBy w1 row) (hr : row ≠ some w.heap.size) : Six w1 w.heap.size :=
 ⟨_, _, _, _, _, _, (hg.block w.heap.size (by simp) (fun e => hr e.symm)).trans (heap_alloc_new w tk0)⟩
theorem Six.c {w : World} {b : Nat} (h : Six w b) : (∃ x, w.cell? ⟨b, 0, none⟩ = some x) ∧ (∃ x, w.cell? ⟨b, 1, none⟩ = some x) ∧ (∃ x, w.cell? ⟨b, 2, none⟩ = some x) ∧ (∃ x, w.cell? ⟨b, 3, none⟩ = some x) ∧ (∃ x, w.cell? ⟨b, 4, none⟩ = some x) ∧ (∃ x, w.cell? ⟨b, 5, none⟩ = some x) := by
 obtain ⟨x0, x1, x2, x3, x4, x5, h⟩ := h
 exact ⟨⟨_, cell_of_row w b 0 _ _ _ h⟩, ⟨_, cell_of_row w b 1 _ _ _ h⟩, ⟨_, cell_of_row w b 2 _ _ _ h⟩, ⟨_, cell_of_row w b 3 _ _ _ h⟩, ⟨_, cell_of_row w b 4 _ _ _ h⟩, ⟨_, cell_of_row w b 5 _ _ _ h⟩⟩
theorem Six.f {w : World} {b : Nat} (h : Six w b) (j : Nat) : w.frozen? ⟨b, j, none⟩ = false := by
 obtain ⟨x0, x1, x2, x3, x4, x5, h⟩ := h
 simp [World.frozen?, h]
open Go.RowKit Go.Maps Go.WideMaps
theorem ext_list (s : ByteArray) (i j : Nat) : (s.extract i (i + j)).data.toList = (s.data.toList.drop i).take j := by
 simp [ByteArray.data_extract]
def Tkb (w : World) (b : Nat) (v0 v1 v2 v3 v4 v5 : Value) : Prop := w.heap[b]? = some (.cells #[v0, v1, v2, v3, v4, v5] 108 (0, 0))
theorem Tkb.kept {w w' : World} {b : Nat} {v0 v1 v2 v3 v4 v5 : Value} {row : Option Nat} (h : Tkb w b v0 v1 v2 v3 v4 v5) (hg : w.grownBy w' row) (hne : some b ≠ row) : Tkb w' b v0 v1 v2 v3 v4 v5 :=
 (hg.block b (Array.getElem?_eq_some_iff.1 h).1 hne).trans h
theorem Tkb.six {w : World} {b : Nat} {v0 v1 v2 v3 v4 v5 : Value} (h : Tkb w b v0 v1 v2 v3 v4 v5) : Six w b := ⟨_, _, _, _, _, _, h⟩
theorem Tkb.c {w : World} {b : Nat} {v0 v1 v2 v3 v4 v5 : Value} (h : Tkb w b v0 v1 v2 v3 v4 v5) : w.cell? ⟨b, 0, none⟩ = some v0 ∧ w.cell? ⟨b, 1, none⟩ = some v1 ∧ w.cell? ⟨b, 2, none⟩ = some v2 ∧ w.cell? ⟨b, 3, none⟩ = some v3 ∧ w.cell? ⟨b, 4, none⟩ = some v4 ∧ w.cell? ⟨b, 5, none⟩ = some v5 :=
 ⟨cell_of_row w b 0 _ _ _ h, cell_of_row w b 1 _ _ _ h, cell_of_row w b 2 _ _ _ h, cell_of_row w b 3 _ _ _ h, cell_of_row w b 4 _ _ _ h, cell_of_row w b 5 _ _ _ h⟩
theorem Tkb.new (w : World) (v0 v1 v2 v3 v4 v5 : Value) : Tkb (w.alloc (.cells #[v0, v1, v2, v3, v4, v5] 108)) w.heap.size v0 v1 v2 v3 v4 v5 := heap_alloc_new w _
theorem tokAt_bad {l : List UInt8} {er : Int} (h : Lex.tokAt l = .bad er) : (er != 0) = true := by
 have key : er = 11 ∨ er = 2 ∨ er = 10 := by
  unfold Lex.tokAt at h
  split at h
  ·cases h
  ·split at h
   ·unfold Lex.numTok at h
    dsimp only at h
    repeat' split at h
    all_goals (first | cases h; done | (injection h with h; omega))
   ·split at h
    ·unfold Lex.nameTok at h
     dsimp only at h
     repeat' split at h
     all_goals (first | cases h; done | (injection h with h; omega))
    ·unfold Lex.signTok at h
     dsimp only at h
     repeat' split at h
     all_goals (first | cases h; done | (injection h with h; omega))
 rw [bne_iff_ne]
 omega
namespace Lex
def cells (x : Tk) : List Value := [.int .i64 x.kind, .string ⟨x.text.toArray⟩, .int .i64 x.n, .int .i64 x.t, .int .i64 0, .int .i64 (x.at_ : Int)]
def row (l : List Tk) : List Value := l.flatMap cells
theorem row_snoc (l : List Tk) (x : Tk) : row (l ++ [x]) = row l ++ cells x := by simp [row]
def preL (acc : List Tk) (r : Res) : Res := acc.foldr Res.pre r
theorem preL_snoc (acc : List Tk) (x : Tk) (r : Res) : preL (acc ++ [x]) r = preL acc (r.pre x) := by simp [preL]
theorem preL_err (acc : List Tk) (a : Nat) (e : Int) : preL acc (.err a e) = .err a e := by
 induction acc with
 | nil => rfl
 | cons x r ih => simp only [preL, List.foldr_cons] at ih ⊢; rw [ih]; rfl
theorem preL_ok (acc l : List Tk) : preL acc (.ok l) = .ok (acc ++ l) := by
 induction acc with
 | nil => rfl
 | cons x r ih => simp only [preL, List.foldr_cons] at ih ⊢; rw [ih]; rfl
theorem spn_pos {p : UInt8 → Bool} {c : UInt8} {r : List UInt8} (h : p c = true) : 0 < spn p (c :: r) := by
 unfold spn; rw [List.takeWhile_cons, if_pos h]; simp
theorem tokAt_tok {l : List UInt8} {kd n t : Int} {len : Nat} (h : tokAt l = .tok kd n t len) : (l = [] ∧ kd = 5 ∧ n = 0 ∧ t = 0 ∧ len = 0) ∨ (l ≠ [] ∧ ¬ kd = 5 ∧ 0 < len) := by
 unfold tokAt at h
 split at h
 ·injection h with h1 h2 h3 h4
  exact .inl ⟨rfl, h1.symm, h2.symm, h3.symm, h4.symm⟩
 ·rename_i c r
  refine .inr ⟨by simp, ?_⟩
  split at h
  ·rename_i hd
   have hp := spn_pos (r := r) hd
   unfold numTok at h
   dsimp only at h
   repeat' split at h
   all_goals first | (cases h; done) | (injection h with h1 h2 h3 h4; omega)
  ·split at h
   ·rename_i hd
    have hp := spn_pos (r := r) hd
    unfold nameTok at h
    dsimp only at h
    repeat' split at h
    all_goals first | (cases h; done) | (injection h with h1 h2 h3 h4; omega)
   ·unfold signTok at h
    dsimp only at h
    split at h
    ·cases h
    ·injection h with h1 h2 h3 h4; omega
theorem toks_fuel : ∀ (f g : Nat) (l : List UInt8) (a room : Nat), l.length < f → l.length < g → toks f l a room = toks g l a room
 | 0, _, _, _, _, h, _ => by omega
 | _ + 1, 0, _, _, _, _, h => by omega
 | f + 1, g + 1, l, a, room, hf, hg => by
  rw [toks, toks]
  cases htk : tokAt (l.drop (skp false l)) with
  | bad e => rfl
  | tok kd n t len =>
   dsimp only
   by_cases h0 : room = 0
   ·rw [if_pos h0, if_pos h0]
   ·rw [if_neg h0, if_neg h0]
    by_cases h5 : kd = 5
    ·rw [if_pos h5, if_pos h5]
    ·rw [if_neg h5, if_neg h5]
     rcases tokAt_tok htk with hh | ⟨hne, _, hlen⟩
     ·exact absurd hh.2.1 h5
     ·have h2 : 0 < (l.drop (skp false l)).length := by
       cases h3 : l.drop (skp false l) with
       | nil => exact absurd h3 hne
       | cons c r => simp
      have h3 : ((l.drop (skp false l)).drop len).length < l.length := by
       simp only [List.length_drop] at h2 ⊢; omega
      rw [toks_fuel f g _ _ _ (by omega) (by omega)]
def tail (l : List UInt8) (i room : Nat) : Res := toks (l.length + 1) (l.drop i) i room
theorem tail_bad {l : List UInt8} {i room : Nat} {er : Int} (h : tokAt (l.drop (i + skp false (l.drop i))) = .bad er) : tail l i room = .err (i + skp false (l.drop i)) er := by
 unfold tail
 rw [toks, List.drop_drop, h]
theorem tail_full {l : List UInt8} {i : Nat} {kd n t : Int} {len : Nat} (h : tokAt (l.drop (i + skp false (l.drop i))) = .tok kd n t len) : tail l i 0 = .err (i + skp false (l.drop i)) 2 := by
 unfold tail
 rw [toks, List.drop_drop, h]
 rfl
theorem tail_end {l : List UInt8} {i room : Nat} {n t : Int} {len : Nat} (h : tokAt (l.drop (i + skp false (l.drop i))) = .tok 5 n t len) (hr : ¬ room = 0) : tail l i room = .ok [⟨5, [], 0, 0, i + skp false (l.drop i)⟩] := by
 unfold tail
 rw [toks, List.drop_drop, h]
 dsimp only
 rw [if_neg hr, if_pos rfl]
theorem tail_tok {l : List UInt8} {i room : Nat} {kd n t : Int} {len : Nat} (h : tokAt (l.drop (i + skp false (l.drop i))) = .tok kd n t len) (hr : ¬ room = 0) (h5 : ¬ kd = 5) :
  tail l i room = (tail l (i + skp false (l.drop i) + len) (room - 1)).pre ⟨kd, (l.drop (i + skp false (l.drop i))).take len, n, t, i + skp false (l.drop i)⟩ := by
 unfold tail
 rw [toks, List.drop_drop, h]
 dsimp only
 rw [if_neg hr, if_neg h5, List.drop_drop]
 congr 1
 have hlen := (tokAt_tok h).resolve_left (fun hh => h5 hh.2.1)
 have h2 : 0 < (l.drop (i + skp false (l.drop i))).length := by
  cases h3 : l.drop (i + skp false (l.drop i)) with
  | nil => exact absurd h3 hlen.1
  | cons c r => simp
 exact toks_fuel _ _ _ _ _ (by simp only [List.length_drop] at h2 ⊢; omega) (by simp only [List.length_drop]; omega)
end Lex
theorem ext_mk (s : ByteArray) (i j : Nat) : s.extract i (i + j) = ⟨((s.data.toList.drop i).take j).toArray⟩ := by
 rw [← ext_list]
theorem infoT : (Tryz.prog.info? 108).map (fun i => (i.zero, i.size, i.bytes)) = some (some (.agg #[.int .i64 0, .string ⟨#[]⟩, .int .i64 0, .int .i64 0, .int .i64 0, .int .i64 0]), 6, 56) := by kernel_rfl
theorem cell_six_new (w : World) (v0 v1 v2 v3 v4 v5 : Value) (t : TypeId) : ∀ j u, [v0, v1, v2, v3, v4, v5][j]? = some u → (w.alloc (.cells #[v0, v1, v2, v3, v4, v5] t)).cell? ((⟨w.heap.size, 0, none⟩ : Addr).add j) = some u := by
 intro j u hu
 have hadd : (⟨w.heap.size, 0, none⟩ : Addr).add j = ⟨w.heap.size, j, none⟩ := by unfold Addr.add; split <;> simp_all
 rw [hadd, cell_of_row _ _ j _ _ _ (heap_alloc_new w _)]
 simpa using hu
def tkPost (w : World) (r : Lex.Res) (e : Ending) (w' : World) : Prop :=
 match r with
 | .err a er => e = .returned (.tuple #[.slice none 0 0, .int .i64 (a : Int), .int .i64 er]) ∧ ¬ er = 0
 | .ok ts => ∃ v, e = .returned (.tuple #[v, .int .i64 0, .int .i64 0]) ∧ w'.ownsRow w.heap.size 108 6 v ts.length (Lex.row ts)
theorem six_one (a c d f g : Int) (x : ByteArray) : ∀ u ∈ [Value.int .i64 a, .string x, .int .i64 c, .int .i64 d, .int .i64 f, .int .i64 g], u.oneCell' = true := by
 intro u hu
 simp only [List.mem_cons, List.not_mem_nil, or_false] at hu
 rcases hu with rfl | rfl | rfl | rfl | rfl | rfl <;> rfl
theorem cell_six_new2 (w : World) (o : Obj) (v0 v1 v2 v3 v4 v5 : Value) (t : TypeId) : ∀ j u, [v0, v1, v2, v3, v4, v5][j]? = some u → ((w.alloc o).alloc (.cells #[v0, v1, v2, v3, v4, v5] t)).cell? ((⟨w.heap.size + 1, 0, none⟩ : Addr).add j) = some u := by
 have h := cell_six_new (w.alloc o) v0 v1 v2 v3 v4 v5 t
 rw [World.size_alloc] at h
 exact h
theorem len_own {w : World} {base : Nat} {v : Value} {n : Nat} {xs : List Value} (h : w.ownsRow base 108 6 v n xs) (ty : TypeId) (wx : World) :
  (Builtin.len_ #[76] ty #[v]).run Tryz.prog wx = .ok (.int .i64 (n : Int)) wx := by
 rcases h.2 with ⟨rfl, rfl⟩ | ⟨g, cap, cur, rfl, _⟩
 ·simp [Builtin.len_, run_underlying Tryz.underlying76, goInt, Result.andThen]
 ·simp [Builtin.len_, run_underlying Tryz.underlying76, goInt, Result.andThen]
theorem infoP {t : TypeId} {z : Value} {a b : Nat} (h : (Tryz.prog.info? t).map (fun i => (i.zero, i.size, i.bytes)) = some (some z, a, b)) : ∃ i, Tryz.prog.info? t = some i ∧ i.zero = some z ∧ i.size = a ∧ i.bytes = b := by
 cases hi : Tryz.prog.info? t with
 | none => rw [hi] at h; cases h
 | some i => rw [hi] at h; simp at h; exact ⟨i, rfl, h.1, h.2.1, h.2.2⟩
def tkRel (B : Nat) (r : Lex.Res) (v : Value) (a er : Int) (w' : World) : Prop :=
 match r with
 | .err p x => v = .slice none 0 0 ∧ a = (p : Int) ∧ er = x ∧ ¬ x = 0
 | .ok ts => a = 0 ∧ er = 0 ∧ w'.ownsRow B 108 6 v ts.length (Lex.row ts)
theorem tkPost_form {w : World} {r : Lex.Res} {e : Ending} {w' : World} (h : tkPost w r e w') : ∃ v a er, e = .returned (.tuple #[v, .int .i64 a, .int .i64 er]) ∧ tkRel w.heap.size r v a er w' := by
 cases r with
 | err p x => exact ⟨_, _, _, h.1, rfl, rfl, rfl, h.2⟩
 | ok ts => obtain ⟨v, h1, h2⟩ := h; exact ⟨v, 0, 0, h1, rfl, rfl, h2⟩
theorem rwidth_any (k : Int) (w : World) :
  Calls Tryz.prog 129 #[.int .i64 k] w fun e w' => e = .returned (.int .i64 (Bv.wid k)) ∧ w' = w := by
 go_enter Tryz.func129, Tryz.ntmps129
 go_wp2
 all_goals go_ret
 all_goals refine ⟨ret_int ?_, rfl⟩
 all_goals (unfold Bv.wid; simp_all)
theorem rsigned_any (k : Int) (w : World) :
  Calls Tryz.prog 130 #[.int .i64 k] w fun e w' => e = .returned (.bool (decide (2 ≤ k ∧ k ≤ 5))) ∧ w' = w := by
 by_cases h1 : 2 ≤ k
 ·by_cases h2 : k ≤ 5
  ·go_enter Tryz.func130, Tryz.ntmps130
   go_wp2
   all_goals go_ret
   all_goals exact ⟨ret_bool (by simp [h1, h2]), rfl⟩
  ·go_enter Tryz.func130, Tryz.ntmps130
   go_wp2
   all_goals go_ret
   all_goals exact ⟨ret_bool (by simp; omega), rfl⟩
 ·go_enter Tryz.func130, Tryz.ntmps130
  go_wp2
  all_goals go_ret
  all_goals exact ⟨ret_bool (by simp; omega), rfl⟩
theorem pow_le (k : Nat) (h : k ≤ 62) : (0 : Int) ≤ 2 ^ k ∧ (2 : Int) ^ k ≤ 4611686018427387904 := by
 have e : (2 : Int) ^ k = ((2 ^ k : Nat) : Int) := by simp
 have h2 : 2 ^ k ≤ 2 ^ 62 := Nat.pow_le_pow_right (by decide) h
 have h3 : (2 : Nat) ^ 62 = 4611686018427387904 := by decide
 rw [e]
 rw [h3] at h2
 generalize (2 ^ k : Nat) = m at h2 ⊢
 omega
theorem pow_step (k : Nat) (h : k < 62) : wrap64 (2 * (2 : Int) ^ k) = 2 ^ (k + 1) := by
 have h1 := pow_le k (by omega)
 have h2 := pow_le (k + 1) (by omega)
 have h3 : (2 : Int) ^ (k + 1) = 2 * 2 ^ k := by rw [Int.pow_succ, Int.mul_comm]
 unfold wrap64
 omega
theorem rpower_any (n : Nat) (hn : n ≤ 62) (w : World) :
  Calls Tryz.prog 161 #[.int .i64 n] w fun e w' => e = .returned (.int .i64 (2 ^ n)) ∧ w' = w := by
 go_enter Tryz.func161, Tryz.ntmps161
 go_wp2
 go_loop [3, 4] (fun p i => ∃ k : Nat, ∃ q : Int, k ≤ n ∧ i = .int .i64 k ∧ p = .int .i64 q ∧ Hid (q = 2 ^ k)) (fun _ i => n - (intOf i).toNat)
 case atStart => exact ⟨0, 1, Nat.zero_le _, rfl, rfl, rfl⟩
 case round =>
  obtain ⟨k, q, hk, rfl, rfl, HQ⟩ := hrel
  by_cases hlt : k < n
  ·go_wp2
   all_goals
    go_round
    case rel => exact ⟨k + 1, _, by omega, by go_num, rfl, by have e := HQ.out; subst e; exact pow_step k (by omega)⟩
    case measure => simp [intOf]; omega
  ·go_wp2
   go_ret
   have e : k = n := by omega
   exact ⟨ret_int (by rw [HQ.out, e]), rfl⟩
theorem rpower1 (w : World) : Calls Tryz.prog 161 #[.int .i64 1] w fun e w' => e = .returned (.int .i64 2) ∧ w' = w :=
 rpower_any 1 (by decide) w
theorem rpower8 (w : World) : Calls Tryz.prog 161 #[.int .i64 8] w fun e w' => e = .returned (.int .i64 256) ∧ w' = w :=
 rpower_any 8 (by decide) w
theorem rpower16 (w : World) : Calls Tryz.prog 161 #[.int .i64 16] w fun e w' => e = .returned (.int .i64 65536) ∧ w' = w :=
 rpower_any 16 (by decide) w
theorem rpower32 (w : World) : Calls Tryz.prog 161 #[.int .i64 32] w fun e w' => e = .returned (.int .i64 4294967296) ∧ w' = w :=
 rpower_any 32 (by decide) w
theorem wrap_pos (n p : Int) (hp : 0 < p) (h : 0 ≤ n.tmod p) : n.tmod p = n % p := by
 have h1 := Int.tmod_def n p
 have h2 := Int.tmod_lt_of_pos n hp
 have h3 : n.tmod p = n + p * (-(n.tdiv p)) := by rw [h1, Int.mul_neg]; rfl
 have h4 : n.tmod p % p = n % p := by rw [h3, Int.add_mul_emod_self_left]
 rw [Int.emod_eq_of_lt h h2] at h4
 exact h4
theorem wrap_neg (n p : Int) (hp : 0 < p) (h : n.tmod p < 0) : n.tmod p + p = n % p := by
 have h1 := Int.tmod_def n p
 have h2 : -p < n.tmod p := by
  have := Int.lt_tmod_of_pos n hp
  exact this
 have h3 : n.tmod p + p = n + p * (-(n.tdiv p) + 1) := by rw [h1, Int.mul_add, Int.mul_neg, Int.mul_one, ← Int.add_assoc]; rfl
 have h4 : (n.tmod p + p) % p = n % p := by rw [h3, Int.add_mul_emod_self_left]
 rw [Int.emod_eq_of_lt (by omega) (by omega)] at h4
 exact h4
theorem rwrap_1 (n : Int) (w : World) :
  Calls Tryz.prog 131 #[.int .i64 1, .int .i64 n] w fun e w' => e = .returned (.int .i64 (Bv.wrp 1 n)) ∧ w' = w := by
 have hw : Bv.wid 1 = 1 := rfl
 have hp := wrap_pos n 2 (by decide)
 have hn := wrap_neg n 2 (by decide)
 have hl := Int.tmod_lt_of_pos n (b := 2) (by decide)
 have hg : -2 < n.tmod 2 := Int.lt_tmod_of_pos n (by decide)
 have hr : Bv.wrp 1 n = n % 2 := by simp [Bv.wrp]
 have H : Hid ((0 ≤ n.tmod 2 → n.tmod 2 = n % 2) ∧ (n.tmod 2 < 0 → n.tmod 2 + 2 = n % 2) ∧ Bv.wrp 1 n = n % 2) := ⟨hp, hn, hr⟩
 clear hp hn hr
 go_enter Tryz.func131, Tryz.ntmps131
 go_wp2_with (first | (go_at_call 129; refine (rwidth_any _ _).mono ?_; rintro e w' ⟨rfl, rfl⟩) | (go_at_call 130; refine (rsigned_any _ _).mono ?_; rintro e w' ⟨rfl, rfl⟩) | (go_at_call 161; refine (rpower1 _).mono ?_; rintro e w' ⟨rfl, rfl⟩))
 all_goals go_ret
 all_goals refine ⟨ret_int ?_, rfl⟩
 all_goals (obtain ⟨hp, hn, hr⟩ := H.out; rw [hr]; clear H; omega)
theorem rwrap_2 (n : Int) (w : World) :
  Calls Tryz.prog 131 #[.int .i64 2, .int .i64 n] w fun e w' => e = .returned (.int .i64 (Bv.wrp 2 n)) ∧ w' = w := by
 have hw : Bv.wid 2 = 8 := rfl
 have hp := wrap_pos n 256 (by decide)
 have hn := wrap_neg n 256 (by decide)
 have hl := Int.tmod_lt_of_pos n (b := 256) (by decide)
 have hg : -256 < n.tmod 256 := Int.lt_tmod_of_pos n (by decide)
 have hr : Bv.wrp 2 n = (n + 128) % 256 - 128 := by simp [Bv.wrp]
 have H : Hid ((0 ≤ n.tmod 256 → n.tmod 256 = n % 256) ∧ (n.tmod 256 < 0 → n.tmod 256 + 256 = n % 256) ∧ Bv.wrp 2 n = (n + 128) % 256 - 128) := ⟨hp, hn, hr⟩
 clear hp hn hr
 go_enter Tryz.func131, Tryz.ntmps131
 go_wp2_with (first | (go_at_call 129; refine (rwidth_any _ _).mono ?_; rintro e w' ⟨rfl, rfl⟩) | (go_at_call 130; refine (rsigned_any _ _).mono ?_; rintro e w' ⟨rfl, rfl⟩) | (go_at_call 161; refine (rpower8 _).mono ?_; rintro e w' ⟨rfl, rfl⟩))
 all_goals go_ret
 all_goals refine ⟨ret_int ?_, rfl⟩
 all_goals (obtain ⟨hp, hn, hr⟩ := H.out; rw [hr]; clear H; omega)
theorem rwrap_3 (n : Int) (w : World) :
  Calls Tryz.prog 131 #[.int .i64 3, .int .i64 n] w fun e w' => e = .returned (.int .i64 (Bv.wrp 3 n)) ∧ w' = w := by
 have hw : Bv.wid 3 = 16 := rfl
 have hp := wrap_pos n 65536 (by decide)
 have hn := wrap_neg n 65536 (by decide)
 have hl := Int.tmod_lt_of_pos n (b := 65536) (by decide)
 have hg : -65536 < n.tmod 65536 := Int.lt_tmod_of_pos n (by decide)
 have hr : Bv.wrp 3 n = (n + 32768) % 65536 - 32768 := by simp [Bv.wrp]
 have H : Hid ((0 ≤ n.tmod 65536 → n.tmod 65536 = n % 65536) ∧ (n.tmod 65536 < 0 → n.tmod 65536 + 65536 = n % 65536) ∧ Bv.wrp 3 n = (n + 32768) % 65536 - 32768) := ⟨hp, hn, hr⟩
 clear hp hn hr
 go_enter Tryz.func131, Tryz.ntmps131
 go_wp2_with (first | (go_at_call 129; refine (rwidth_any _ _).mono ?_; rintro e w' ⟨rfl, rfl⟩) | (go_at_call 130; refine (rsigned_any _ _).mono ?_; rintro e w' ⟨rfl, rfl⟩) | (go_at_call 161; refine (rpower16 _).mono ?_; rintro e w' ⟨rfl, rfl⟩))
 all_goals go_ret
 all_goals refine ⟨ret_int ?_, rfl⟩
 all_goals (obtain ⟨hp, hn, hr⟩ := H.out; rw [hr]; clear H; omega)
theorem rwrap_4 (n : Int) (w : World) :
  Calls Tryz.prog 131 #[.int .i64 4, .int .i64 n] w fun e w' => e = .returned (.int .i64 (Bv.wrp 4 n)) ∧ w' = w := by
 have hw : Bv.wid 4 = 32 := rfl
 have hp := wrap_pos n 4294967296 (by decide)
 have hn := wrap_neg n 4294967296 (by decide)
 have hl := Int.tmod_lt_of_pos n (b := 4294967296) (by decide)
 have hg : -4294967296 < n.tmod 4294967296 := Int.lt_tmod_of_pos n (by decide)
 have hr : Bv.wrp 4 n = (n + 2147483648) % 4294967296 - 2147483648 := by simp [Bv.wrp]
 have H : Hid ((0 ≤ n.tmod 4294967296 → n.tmod 4294967296 = n % 4294967296) ∧ (n.tmod 4294967296 < 0 → n.tmod 4294967296 + 4294967296 = n % 4294967296) ∧ Bv.wrp 4 n = (n + 2147483648) % 4294967296 - 2147483648) := ⟨hp, hn, hr⟩
 clear hp hn hr
 go_enter Tryz.func131, Tryz.ntmps131
 go_wp2_with (first | (go_at_call 129; refine (rwidth_any _ _).mono ?_; rintro e w' ⟨rfl, rfl⟩) | (go_at_call 130; refine (rsigned_any _ _).mono ?_; rintro e w' ⟨rfl, rfl⟩) | (go_at_call 161; refine (rpower32 _).mono ?_; rintro e w' ⟨rfl, rfl⟩))
 all_goals go_ret
 all_goals refine ⟨ret_int ?_, rfl⟩
 all_goals (obtain ⟨hp, hn, hr⟩ := H.out; rw [hr]; clear H; omega)
theorem rwrap_6 (n : Int) (w : World) :
  Calls Tryz.prog 131 #[.int .i64 6, .int .i64 n] w fun e w' => e = .returned (.int .i64 (Bv.wrp 6 n)) ∧ w' = w := by
 have hw : Bv.wid 6 = 8 := rfl
 have hp := wrap_pos n 256 (by decide)
 have hn := wrap_neg n 256 (by decide)
 have hl := Int.tmod_lt_of_pos n (b := 256) (by decide)
 have hg : -256 < n.tmod 256 := Int.lt_tmod_of_pos n (by decide)
 have hr : Bv.wrp 6 n = n % 256 := by simp [Bv.wrp]
 have H : Hid ((0 ≤ n.tmod 256 → n.tmod 256 = n % 256) ∧ (n.tmod 256 < 0 → n.tmod 256 + 256 = n % 256) ∧ Bv.wrp 6 n = n % 256) := ⟨hp, hn, hr⟩
 clear hp hn hr
 go_enter Tryz.func131, Tryz.ntmps131
 go_wp2_with (first | (go_at_call 129; refine (rwidth_any _ _).mono ?_; rintro e w' ⟨rfl, rfl⟩) | (go_at_call 130; refine (rsigned_any _ _).mono ?_; rintro e w' ⟨rfl, rfl⟩) | (go_at_call 161; refine (rpower8 _).mono ?_; rintro e w' ⟨rfl, rfl⟩))
 all_goals go_ret
 all_goals refine ⟨ret_int ?_, rfl⟩
 all_goals (obtain ⟨hp, hn, hr⟩ := H.out; rw [hr]; clear H; omega)
theorem rwrap_7 (n : Int) (w : World) :
  Calls Tryz.prog 131 #[.int .i64 7, .int .i64 n] w fun e w' => e = .returned (.int .i64 (Bv.wrp 7 n)) ∧ w' = w := by
 have hw : Bv.wid 7 = 16 := rfl
 have hp := wrap_pos n 65536 (by decide)
 have hn := wrap_neg n 65536 (by decide)
 have hl := Int.tmod_lt_of_pos n (b := 65536) (by decide)
 have hg : -65536 < n.tmod 65536 := Int.lt_tmod_of_pos n (by decide)
 have hr : Bv.wrp 7 n = n % 65536 := by simp [Bv.wrp]
 have H : Hid ((0 ≤ n.tmod 65536 → n.tmod 65536 = n % 65536) ∧ (n.tmod 65536 < 0 → n.tmod 65536 + 65536 = n % 65536) ∧ Bv.wrp 7 n = n % 65536) := ⟨hp, hn, hr⟩
 clear hp hn hr
 go_enter Tryz.func131, Tryz.ntmps131
 go_wp2_with (first | (go_at_call 129; refine (rwidth_any _ _).mono ?_; rintro e w' ⟨rfl, rfl⟩) | (go_at_call 130; refine (rsigned_any _ _).mono ?_; rintro e w' ⟨rfl, rfl⟩) | (go_at_call 161; refine (rpower16 _).mono ?_; rintro e w' ⟨rfl, rfl⟩))
 all_goals go_ret
 all_goals refine ⟨ret_int ?_, rfl⟩
 all_goals (obtain ⟨hp, hn, hr⟩ := H.out; rw [hr]; clear H; omega)
theorem rwrap_8 (n : Int) (w : World) :
  Calls Tryz.prog 131 #[.int .i64 8, .int .i64 n] w fun e w' => e = .returned (.int .i64 (Bv.wrp 8 n)) ∧ w' = w := by
 have hw : Bv.wid 8 = 32 := rfl
 have hp := wrap_pos n 4294967296 (by decide)
 have hn := wrap_neg n 4294967296 (by decide)
 have hl := Int.tmod_lt_of_pos n (b := 4294967296) (by decide)
 have hg : -4294967296 < n.tmod 4294967296 := Int.lt_tmod_of_pos n (by decide)
 have hr : Bv.wrp 8 n = n % 4294967296 := by simp [Bv.wrp]
 have H : Hid ((0 ≤ n.tmod 4294967296 → n.tmod 4294967296 = n % 4294967296) ∧ (n.tmod 4294967296 < 0 → n.tmod 4294967296 + 4294967296 = n % 4294967296) ∧ Bv.wrp 8 n = n % 4294967296) := ⟨hp, hn, hr⟩
 clear hp hn hr
 go_enter Tryz.func131, Tryz.ntmps131
 go_wp2_with (first | (go_at_call 129; refine (rwidth_any _ _).mono ?_; rintro e w' ⟨rfl, rfl⟩) | (go_at_call 130; refine (rsigned_any _ _).mono ?_; rintro e w' ⟨rfl, rfl⟩) | (go_at_call 161; refine (rpower32 _).mono ?_; rintro e w' ⟨rfl, rfl⟩))
 all_goals go_ret
 all_goals refine ⟨ret_int ?_, rfl⟩
 all_goals (obtain ⟨hp, hn, hr⟩ := H.out; rw [hr]; clear H; omega)
theorem rwrap_64 (k n : Int) (hk : k = 5 ∨ k = 9) (w : World) :
  Calls Tryz.prog 131 #[.int .i64 k, .int .i64 n] w fun e w' => e = .returned (.int .i64 (Bv.wrp k n)) ∧ w' = w := by
 have hr : Bv.wrp k n = n := by rcases hk with rfl | rfl <;> simp [Bv.wrp]
 rw [hr]
 have hw : Bv.wid k = 64 := by simp [Bv.wid, hk]
 clear hr hk
 go_enter Tryz.func131, Tryz.ntmps131
 go_wp2_with (first | (go_at_call 129; refine (rwidth_any _ _).mono ?_; rintro e w' ⟨rfl, rfl⟩))
 all_goals go_ret
 all_goals exact ⟨rfl, rfl⟩
theorem rwrap_none (k n : Int) (hk : k < 1 ∨ 9 < k) (w : World) :
  Calls Tryz.prog 131 #[.int .i64 k, .int .i64 n] w fun e w' => e = .returned (.int .i64 (Bv.wrp k n)) ∧ w' = w := by
 have hr : Bv.wrp k n = 0 := by unfold Bv.wrp; repeat (rw [if_neg (by omega)])
 rw [hr]
 have hw : Bv.wid k = 0 := by unfold Bv.wid; repeat (rw [if_neg (by omega)])
 clear hr hk
 go_enter Tryz.func131, Tryz.ntmps131
 go_wp2_with (first | (go_at_call 129; refine (rwidth_any _ _).mono ?_; rintro e w' ⟨rfl, rfl⟩))
 all_goals go_ret
 all_goals exact ⟨rfl, rfl⟩
theorem rwrap_any (k n : Int) (w : World) :
  Calls Tryz.prog 131 #[.int .i64 k, .int .i64 n] w fun e w' => e = .returned (.int .i64 (Bv.wrp k n)) ∧ w' = w := by
 by_cases hout : k < 1 ∨ 9 < k
 ·exact rwrap_none k n hout w
 ·have hc : k = 1 ∨ k = 2 ∨ k = 3 ∨ k = 4 ∨ (k = 5 ∨ k = 9) ∨ k = 6 ∨ k = 7 ∨ k = 8 := by omega
  rcases hc with h | h | h | h | h | h | h | h
  ·subst h; exact rwrap_1 n w
  ·subst h; exact rwrap_2 n w
  ·subst h; exact rwrap_3 n w
  ·subst h; exact rwrap_4 n w
  ·exact rwrap_64 k n h w
  ·subst h; exact rwrap_6 n w
  ·subst h; exact rwrap_7 n w
  ·subst h; exact rwrap_8 n w
namespace Lex
end Lex
theorem hold_not {P : Program} {ops : Array Oper} {Q : Exit → Act → World → Prop} {d : Option Tmp} {t ty : TypeId} {x : Operand} {ps : String} {af : Array Edge} {g : Option (Nat × Bool)} {rest : List Oper} {a : Act} {w : World}
 (h : Hid (wpList P ops Q ({ dst := d, op := Op.unOp UnOp.not t x, type := ty, pos := ps, after := af, guard := g } :: rest) a w)) : wpList P ops Q ({ dst := d, op := Op.unOp UnOp.not t x, type := ty, pos := ps, after := af, guard := g } :: rest) a w := h
theorem row_strings (w : World) (l : List (List UInt8)) (t : TypeId) (j : Nat) (h : j < l.length) :
  (w.alloc (.cells (l.map (fun k => Value.string ⟨k.toArray⟩)).toArray t)).cell? ⟨w.heap.size, j, none⟩ = some (.string ⟨(l.getD j []).toArray⟩) := by
 rw [cell_of_row _ _ j _ _ _ (heap_alloc_new w _)]
 simp [List.getD, h]
theorem hold_gen {P : Program} {ops : Array Oper} {Q : Exit → Act → World → Prop} {l : List Oper} {a : Act} {W0 : World} (F : World → Prop) (hF : F W0) (h : ∀ W, F W → wpList P ops Q l a W) : Hid (wpList P ops Q l a W0) := h W0 hF
namespace Lex
def plain (c : UInt8) : Bool := c.toNat != 10 && c.toNat != 45
theorem signW_two (c d : Nat) : signW c d ≤ 2 := by
 unfold signW
 split
 ·omega
 ·split <;> omega
theorem tokAt_len {l : List UInt8} {kd n t : Int} {len : Nat} (h : tokAt l = .tok kd n t len) : len ≤ l.length := by
 unfold tokAt at h
 split at h
 ·injection h with h1 h2 h3 h4; subst h4; simp
 ·rename_i c r
  split at h
  ·have e1 := spn_le digit (c :: r)
   have e2 := spn_le word ((c :: r).drop (spn digit (c :: r)))
   rw [List.length_drop] at e2
   unfold numTok at h
   dsimp only at h
   repeat' split at h
   all_goals first | (cases h; done) | (injection h with h1 h2 h3 h4; omega)
  ·split at h
   ·have e1 := spn_le word (c :: r)
    unfold nameTok at h
    dsimp only at h
    repeat' split at h
    all_goals first | (cases h; done) | (injection h with h1 h2 h3 h4; omega)
   ·unfold signTok at h
    dsimp only at h
    split at h
    ·cases h
    ·injection h with h1 h2 h3 h4
     rename_i hd hw hz
     cases r with
     | cons d s =>
      have : signW (pk (c :: d :: s) 0) (pk (c :: d :: s) 1) ≤ 2 := signW_two _ _
      simp only [List.length_cons]; omega
     | nil =>
      have : signW (pk [c] 0) (pk [c] 1) ≤ 1 := by
       show signW c.toNat 0 ≤ 1
       unfold signW; rw [if_neg (by omega)]; split <;> omega
      simp only [List.length_cons, List.length_nil]; omega
end Lex
namespace Lex
def letter (c : UInt8) : Bool := word c && !digit c
def kinds9 : List (List UInt8) := [[98, 111, 111, 108], [105, 56], [105, 49, 54], [105, 51, 50], [105, 54, 52], [117, 56], [117, 49, 54], [117, 51, 50], [117, 54, 52]]
def k9 (t : Nat) : List UInt8 := kinds9.getD t []
theorem kind9_all : ((List.range 9).all fun t => kindOf (k9 t) == (t : Int) + 1) = true := by kernel_rfl
theorem kind9 (t : Nat) (h : t < 9) : kindOf (k9 t) = (t : Int) + 1 := beq_iff_eq.1 (List.all_eq_true.1 kind9_all t (List.mem_range.2 h))
theorem tbl_all : (tbl.all fun p => p.2 == 0 || (List.range 9).any (fun t => p.1 == k9 t)) = true := by kernel_rfl
theorem kind0 (l : List UInt8) (h : ∀ t, t < 9 → ¬ l = k9 t) : kindOf l = 0 := by
 unfold kindOf look
 cases e : tbl.find? (fun p => p.1 == l) with
 | none => rfl
 | some p =>
  have h1 := List.all_eq_true.1 tbl_all p (List.mem_of_find?_eq_some e)
  have h2 : p.1 = l := beq_iff_eq.1 (List.find?_some (p := fun p : List UInt8 × Int => p.1 == l) e)
  rw [Bool.or_eq_true] at h1
  rcases h1 with h1 | h1
  ·simpa using h1
  ·obtain ⟨t, ht, h3⟩ := List.any_eq_true.1 h1
   exact absurd (h2.symm.trans (beq_iff_eq.1 h3)) (h t (List.mem_range.1 ht))
def keys33 : List (List UInt8) := [[110, 111, 100, 101], [114, 101, 116, 117, 114, 110, 115], [118, 97, 114], [108, 101, 116], [116, 101, 108], [105, 102], [116, 104, 101, 110], [101, 108, 115, 101], [110, 111, 116], [97, 110, 100], [111, 114], [120, 111, 114], [109, 111, 100], [112, 114, 101], [102, 98, 121], [119, 104, 101, 110], [109, 101, 114, 103, 101], [99, 97, 115, 116], [116, 105, 99, 107], [114, 101, 115, 101, 116], [114, 101, 112], [109, 97, 112], [102, 111, 108, 100], [111, 110], [116, 114, 117, 101], [102, 97, 108, 115, 101], [97, 117, 116, 111, 109, 97, 116, 111, 110], [115, 116, 97, 116, 101], [100, 111], [117, 110, 108, 101, 115, 115], [117, 110, 116, 105, 108], [99, 111, 110, 116, 105, 110, 117, 101], [101, 110, 100]]
theorem keys_all : (keys33.all fun k => (look k).isSome) = true := by kernel_rfl
theorem tbl_keys : (tbl.all fun p => decide (0 < p.2) || keys33.any (fun k => p.1 == k)) = true := by kernel_rfl
theorem key_yes (l : List UInt8) (h : l ∈ keys33) : (look l).isSome = true := List.all_eq_true.1 keys_all l h
theorem key_kind (l : List UInt8) (h : 0 < kindOf l) : (look l).isSome = true := by
 unfold kindOf at h
 cases e : look l with
 | none => rw [e] at h; exact absurd h (by decide)
 | some k => rfl
theorem key_no (l : List UInt8) (h : ¬ 0 < kindOf l) (h' : ¬ l ∈ keys33) : (look l).isSome = false := by
 unfold kindOf at h
 unfold look at h ⊢
 cases e : tbl.find? (fun p => p.1 == l) with
 | none => rfl
 | some p =>
  rw [e] at h
  have h1 := List.all_eq_true.1 tbl_keys p (List.mem_of_find?_eq_some e)
  have h2 : p.1 = l := beq_iff_eq.1 (List.find?_some (p := fun p : List UInt8 × Int => p.1 == l) e)
  rw [Bool.or_eq_true, decide_eq_true_eq] at h1
  rcases h1 with h1 | h1
  ·exact absurd h1 h
  ·obtain ⟨k, hk, h3⟩ := List.any_eq_true.1 h1
   exact absurd (by rw [← h2, beq_iff_eq.1 h3]; exact hk) h'
end Lex
theorem letter_iff (c : UInt8) : Lex.letter c = true ↔ c.toNat = 95 ∨ (97 ≤ c.toNat ∧ c.toNat ≤ 122) ∨ (65 ≤ c.toNat ∧ c.toNat ≤ 90) := by
 unfold Lex.letter
 rw [Bool.and_eq_true, word_iff, Bool.not_eq_true', ← Bool.not_eq_true, digit_iff]
 omega
theorem rletter_any (c : UInt8) (w : World) :
  Calls Tryz.prog 93 #[.int .u8 (c.toNat : Int)] w fun e w' => e = .returned (.bool (Lex.letter c)) ∧ w' = w := by
 obtain ⟨n, hn⟩ : ∃ n : Int, n = (c.toNat : Int) := ⟨_, rfl⟩
 rw [← hn]
 have HN : Hid (n = (c.toNat : Int)) := hn
 clear hn
 by_cases h3 : 97 ≤ n
 ·by_cases h2 : n ≤ 122
  ·by_cases h1 : 65 ≤ n
   ·go_enter Tryz.func93, Tryz.ntmps93
    go_wp2
    all_goals go_ret
    all_goals (have e := HN.out; first | exact ⟨ret_t (by rw [letter_iff]; omega), rfl⟩ | exact ⟨ret_f (by rw [letter_iff]; omega), rfl⟩ | exact ⟨ret_d (by rw [letter_iff]; omega), rfl⟩ | exact ⟨ret_e (by rw [letter_iff]; omega), rfl⟩ | exact ⟨ret_g (by rw [letter_iff]; simp only [Bool.or_eq_true, beq_iff_eq, decide_eq_true_eq]; omega), rfl⟩)
   ·go_enter Tryz.func93, Tryz.ntmps93
    go_wp2
    all_goals go_ret
    all_goals (have e := HN.out; first | exact ⟨ret_t (by rw [letter_iff]; omega), rfl⟩ | exact ⟨ret_f (by rw [letter_iff]; omega), rfl⟩ | exact ⟨ret_d (by rw [letter_iff]; omega), rfl⟩ | exact ⟨ret_e (by rw [letter_iff]; omega), rfl⟩ | exact ⟨ret_g (by rw [letter_iff]; simp only [Bool.or_eq_true, beq_iff_eq, decide_eq_true_eq]; omega), rfl⟩)
  ·by_cases h1 : 65 ≤ n
   ·go_enter Tryz.func93, Tryz.ntmps93
    go_wp2
    all_goals go_ret
    all_goals (have e := HN.out; first | exact ⟨ret_t (by rw [letter_iff]; omega), rfl⟩ | exact ⟨ret_f (by rw [letter_iff]; omega), rfl⟩ | exact ⟨ret_d (by rw [letter_iff]; omega), rfl⟩ | exact ⟨ret_e (by rw [letter_iff]; omega), rfl⟩ | exact ⟨ret_g (by rw [letter_iff]; simp only [Bool.or_eq_true, beq_iff_eq, decide_eq_true_eq]; omega), rfl⟩)
   ·go_enter Tryz.func93, Tryz.ntmps93
    go_wp2
    all_goals go_ret
    all_goals (have e := HN.out; first | exact ⟨ret_t (by rw [letter_iff]; omega), rfl⟩ | exact ⟨ret_f (by rw [letter_iff]; omega), rfl⟩ | exact ⟨ret_d (by rw [letter_iff]; omega), rfl⟩ | exact ⟨ret_e (by rw [letter_iff]; omega), rfl⟩ | exact ⟨ret_g (by rw [letter_iff]; simp only [Bool.or_eq_true, beq_iff_eq, decide_eq_true_eq]; omega), rfl⟩)
 ·by_cases h2 : n ≤ 122
  ·by_cases h1 : 65 ≤ n
   ·go_enter Tryz.func93, Tryz.ntmps93
    go_wp2
    all_goals go_ret
    all_goals (have e := HN.out; first | exact ⟨ret_t (by rw [letter_iff]; omega), rfl⟩ | exact ⟨ret_f (by rw [letter_iff]; omega), rfl⟩ | exact ⟨ret_d (by rw [letter_iff]; omega), rfl⟩ | exact ⟨ret_e (by rw [letter_iff]; omega), rfl⟩ | exact ⟨ret_g (by rw [letter_iff]; simp only [Bool.or_eq_true, beq_iff_eq, decide_eq_true_eq]; omega), rfl⟩)
   ·go_enter Tryz.func93, Tryz.ntmps93
    go_wp2
    all_goals go_ret
    all_goals (have e := HN.out; first | exact ⟨ret_t (by rw [letter_iff]; omega), rfl⟩ | exact ⟨ret_f (by rw [letter_iff]; omega), rfl⟩ | exact ⟨ret_d (by rw [letter_iff]; omega), rfl⟩ | exact ⟨ret_e (by rw [letter_iff]; omega), rfl⟩ | exact ⟨ret_g (by rw [letter_iff]; simp only [Bool.or_eq_true, beq_iff_eq, decide_eq_true_eq]; omega), rfl⟩)
  ·by_cases h1 : 65 ≤ n
   ·go_enter Tryz.func93, Tryz.ntmps93
    go_wp2
    all_goals go_ret
    all_goals (have e := HN.out; first | exact ⟨ret_t (by rw [letter_iff]; omega), rfl⟩ | exact ⟨ret_f (by rw [letter_iff]; omega), rfl⟩ | exact ⟨ret_d (by rw [letter_iff]; omega), rfl⟩ | exact ⟨ret_e (by rw [letter_iff]; omega), rfl⟩ | exact ⟨ret_g (by rw [letter_iff]; simp only [Bool.or_eq_true, beq_iff_eq, decide_eq_true_eq]; omega), rfl⟩)
   ·go_enter Tryz.func93, Tryz.ntmps93
    go_wp2
    all_goals go_ret
    all_goals (have e := HN.out; first | exact ⟨ret_t (by rw [letter_iff]; omega), rfl⟩ | exact ⟨ret_f (by rw [letter_iff]; omega), rfl⟩ | exact ⟨ret_d (by rw [letter_iff]; omega), rfl⟩ | exact ⟨ret_e (by rw [letter_iff]; omega), rfl⟩ | exact ⟨ret_g (by rw [letter_iff]; simp only [Bool.or_eq_true, beq_iff_eq, decide_eq_true_eq]; omega), rfl⟩)
theorem rdigit_any (c : UInt8) (w : World) :
  Calls Tryz.prog 94 #[.int .u8 (c.toNat : Int)] w fun e w' => e = .returned (.bool (Lex.digit c)) ∧ w' = w := by
 obtain ⟨n, hn⟩ : ∃ n : Int, n = (c.toNat : Int) := ⟨_, rfl⟩
 rw [← hn]
 have HN : Hid (n = (c.toNat : Int)) := hn
 clear hn
 by_cases h1 : 48 ≤ n
 ·go_enter Tryz.func94, Tryz.ntmps94
  go_wp2
  all_goals go_ret
  all_goals (have e := HN.out; first | exact ⟨ret_t (by rw [digit_iff]; omega), rfl⟩ | exact ⟨ret_f (by rw [digit_iff]; omega), rfl⟩ | exact ⟨ret_d (by rw [digit_iff]; omega), rfl⟩ | exact ⟨ret_e (by rw [digit_iff]; omega), rfl⟩ | exact ⟨ret_g (by rw [digit_iff]; simp only [Bool.or_eq_true, beq_iff_eq, decide_eq_true_eq]; omega), rfl⟩)
 ·go_enter Tryz.func94, Tryz.ntmps94
  go_wp2
  all_goals go_ret
  all_goals (have e := HN.out; first | exact ⟨ret_t (by rw [digit_iff]; omega), rfl⟩ | exact ⟨ret_f (by rw [digit_iff]; omega), rfl⟩ | exact ⟨ret_d (by rw [digit_iff]; omega), rfl⟩ | exact ⟨ret_e (by rw [digit_iff]; omega), rfl⟩ | exact ⟨ret_g (by rw [digit_iff]; simp only [Bool.or_eq_true, beq_iff_eq, decide_eq_true_eq]; omega), rfl⟩)
theorem rkind_any (x : ByteArray) (w : World) :
  Calls Tryz.prog 96 #[.string x] w fun e w' => e = .returned (.int .i64 (Lex.kindOf x.data.toList)) ∧ w.grownBy w' none := by
 go_enter Tryz.func96, Tryz.ntmps96
 go_wp2
 have hc : ∀ t, t < 9 → (w.alloc (.cells (Lex.kinds9.map (fun k => Value.string ⟨k.toArray⟩)).toArray 9)).cell? ⟨w.heap.size, t, none⟩ = some (.string ⟨(Lex.k9 t).toArray⟩) := fun t ht => row_strings w Lex.kinds9 9 t ht
 have hg : w.grownBy (w.alloc (.cells (Lex.kinds9.map (fun k => Value.string ⟨k.toArray⟩)).toArray 9)) none := ga w _ none
 go_loopw [4] (fun i wr => ∃ t : Nat, t ≤ 9 ∧ i = .int .i64 (t : Int) ∧ ((∀ t, t < 9 → wr.cell? ⟨w.heap.size, t, none⟩ = some (.string ⟨(Lex.k9 t).toArray⟩)) ∧ w.grownBy wr none) ∧ Hid (∀ s, s < t → ¬ x.data.toList = Lex.k9 s)) (fun i _ => 9 - (intOf i).toNat)
 case atStart => exact ⟨0, Nat.zero_le _, rfl, ⟨hc, hg⟩, fun s hs => by omega⟩
 case round =>
  clear hc hg
  obtain ⟨t, ht, rfl, ⟨hc, hg⟩, H⟩ := hrel
  by_cases hlt : t < 9
  ·have ct := hc t hlt
   have ht9 : (t : Int) < 9 := by omega
   obtain ⟨z, hz⟩ : ∃ z : ByteArray, z = ⟨(Lex.k9 t).toArray⟩ := ⟨_, rfl⟩
   have hzl : z.data.toList = Lex.k9 t := by rw [hz]
   rw [← hz] at ct
   have HC := ld hc
   clear hz hc
   by_cases heq : x.data.toList = Lex.k9 t
   ·have hcmp : (z.toList == x.toList) = true := by rw [beq_iff_eq, ByteArray.toList_eq, ByteArray.toList_eq, hzl, heq]
    have HE : Hid _ := heq
    clear heq hzl
    go_wp2
    go_ret
    refine ⟨ret_int ?_, hg⟩
    rw [HE.out, Lex.kind9 t hlt]
   ·have hcmp : (z.toList == x.toList) = false := by
     rw [beq_eq_false_iff_ne, ByteArray.toList_eq, ByteArray.toList_eq, hzl]
     exact fun h => heq h.symm
    have HE : Hid _ := heq
    clear heq hzl
    go_wp2
    refine ⟨⟨t + 1, by omega, by go_num, ⟨HC.out, hg⟩, fun s hs => ?_⟩, by simp [intOf]; omega⟩
    by_cases hst : s = t
    ·subst hst; exact HE.out
    ·exact H.out s (by omega)
  ·have e : t = 9 := by omega
   subst e
   clear hc
   go_wp2
   go_ret
   refine ⟨ret_int ?_, hg⟩
   rw [Lex.kind0 _ H.out]
theorem rkey_any (x : ByteArray) (w : World) :
    Calls Tryz.prog 95 #[.string x] w fun e w' => e = .returned (.bool (Lex.look x.data.toList).isSome) ∧ w.grownBy w' none := by
  have hK := fun wx => rkind_any x wx
  by_cases hk : 0 < Lex.kindOf x.data.toList
  · rw [Lex.key_kind _ hk]
    have hd : decide (0 < Lex.kindOf x.data.toList) = true := decide_eq_true hk
    generalize Lex.kindOf x.data.toList = k at hK hd
    go_enter Tryz.func95, Tryz.ntmps95
    go_wp2_with (go_at_call 96; refine (hK _).mono ?_; rintro e w1 ⟨rfl, hg⟩)
    go_ret
    exact ⟨rfl, hg⟩
  · have hd : decide (0 < Lex.kindOf x.data.toList) = false := decide_eq_false hk
    have HK := ld hk
    have hx : x.toList = x.data.toList := ByteArray.toList_eq x
    have HX := ld hx
    clear hk hx
    obtain ⟨k, hkk⟩ : ∃ k, k = Lex.kindOf x.data.toList := ⟨_, rfl⟩
    rw [← hkk] at hK hd
    clear hkk
    go_enter Tryz.func95, Tryz.ntmps95
    go_wp2_with (go_at_call 96; refine (hK _).mono ?_; rintro e w1 ⟨rfl, hg⟩)
    all_goals go_ret
    all_goals go_light
    all_goals clear hK hd
    all_goals first
      | (rename_i h; exact ⟨ret_t (Lex.key_yes _ (by rw [← HX.out, beq_iff_eq.1 h]; decide)), hg⟩)
      | (exfalso; simp_all; done)
      | (have hno : ¬ x.data.toList ∈ Lex.keys33 := by
           rw [← HX.out]
           clear HX HK hg
           generalize x.toList = y at *
           intro hm
           simp only [Lex.keys33, List.mem_cons, List.not_mem_nil, or_false] at hm
           simp only [beq_eq_false_iff_ne, ne_eq] at *
           simp_all
         exact ⟨ret_f (by rw [Lex.key_no _ (by have := HK.out; omega) hno]; decide), hg⟩)
theorem pair_beq (c d a b : UInt8) (n m : Int) (hn : n = (c.toNat : Int)) (hm : m = (d.toNat : Int)) : ([c, d] == [a, b]) = (decide (n = (a.toNat : Int)) && decide (m = (b.toNat : Int))) := by
 rw [Bool.eq_iff_iff, beq_iff_eq, Bool.and_eq_true, decide_eq_true_eq, decide_eq_true_eq]
 simp only [List.cons.injEq, and_true, ← UInt8.toNat_inj]
 omega
theorem rsign_any (s : ByteArray) (i : Nat) (hs : s.size ≤ 65536) (hi : i < s.size) (w : World) :
  Calls Tryz.prog 98 #[.string s, .int .i64 (i : Int)] w fun e w' => e = .returned (.int .i64 (Lex.signW (Lex.pk s.data.toList i) (Lex.pk s.data.toList (i + 1)))) ∧ w' = w := by
 obtain ⟨n, hn⟩ : ∃ n : Int, n = (Lex.pk s.data.toList i : Int) := ⟨_, rfl⟩
 obtain ⟨m, hm⟩ : ∃ m : Int, m = (Lex.pk s.data.toList (i + 1) : Int) := ⟨_, rfl⟩
 have hx := fun wx => idx_str s i hi (i : Int) rfl wx
 simp only [← hn] at hx
 have hsz : s.data.toList.length = s.size := Array.length_toList
 have ew : wrap64 ((i : Int) + 2) = (i : Int) + 2 := by unfold wrap64; omega
 by_cases h2 : i + 2 ≤ s.size
 ·have hd : decide ((i : Int) + 2 ≤ (s.size : Int)) = true := by rw [decide_eq_true_iff]; omega
  have hsl : ∀ wx, (Instr.slice 9 (.string s) (some (.int .i64 (i : Int))) (some (.int .i64 ((i : Int) + 2))) none).run Tryz.prog wx = .ok (.string (s.extract i (i + 2))) wx := fun wx => slc_str s i (i + 2) (by omega) h2 wx
  obtain ⟨z, hz⟩ : ∃ z, z = s.extract i (i + 2) := ⟨_, rfl⟩
  rw [← hz] at hsl
  have hzl : z.toList = [s.data.toList[i]'(by omega), s.data.toList[i + 1]'(by omega)] := by
   rw [ByteArray.toList_eq, hz, ext_list, List.drop_eq_getElem_cons (by omega), List.drop_eq_getElem_cons (by omega)]
   rfl
  have hn2 : n = (s.data.toList[i]'(by omega)).toNat := by rw [hn, Lex.pk_eq (by omega)]
  have hm2 : m = (s.data.toList[i + 1]'(by omega)).toNat := by rw [hm, Lex.pk_eq (by omega)]
  have q0 : (z.toList == [45, 62]) = (decide (n = 45) && decide (m = 62)) := by rw [hzl]; exact pair_beq _ _ 45 62 n m hn2 hm2
  have q1 : (z.toList == [61, 62]) = (decide (n = 61) && decide (m = 62)) := by rw [hzl]; exact pair_beq _ _ 61 62 n m hn2 hm2
  have q2 : (z.toList == [60, 62]) = (decide (n = 60) && decide (m = 62)) := by rw [hzl]; exact pair_beq _ _ 60 62 n m hn2 hm2
  have q3 : (z.toList == [60, 61]) = (decide (n = 60) && decide (m = 61)) := by rw [hzl]; exact pair_beq _ _ 60 61 n m hn2 hm2
  have q4 : (z.toList == [62, 61]) = (decide (n = 62) && decide (m = 61)) := by rw [hzl]; exact pair_beq _ _ 62 61 n m hn2 hm2
  have q5 : (z.toList == [60, 60]) = (decide (n = 60) && decide (m = 60)) := by rw [hzl]; exact pair_beq _ _ 60 60 n m hn2 hm2
  have q6 : (z.toList == [62, 62]) = (decide (n = 62) && decide (m = 62)) := by rw [hzl]; exact pair_beq _ _ 62 62 n m hn2 hm2
  have HN : Hid (n = (Lex.pk s.data.toList i : Int) ∧ m = (Lex.pk s.data.toList (i + 1) : Int)) := ⟨hn, hm⟩
  clear hz hzl hn2 hm2 hn hm
  go_enter Tryz.func98, Tryz.ntmps98
  go_wp2
  all_goals go_ret
  all_goals go_light
  all_goals refine ⟨ret_int ?_, rfl⟩
  all_goals have e := HN.out
  all_goals generalize Lex.pk s.data.toList i = cn at e
  all_goals generalize Lex.pk s.data.toList (i + 1) = dn at e
  all_goals clear HN hsl q0 q1 q2 q3 q4 q5 q6 hx ew hd
  all_goals (try simp only [beq_iff_eq, beq_eq_false_iff_ne, ne_eq] at *)
  all_goals (unfold Lex.signW; repeat' split)
  all_goals omega
 ·have hd : decide ((i : Int) + 2 ≤ (s.size : Int)) = false := by rw [decide_eq_false_iff_not]; omega
  have hm0 : Lex.pk s.data.toList (i + 1) = 0 := Lex.pk_ge (by omega)
  rw [hm0]
  have HN : Hid (n = (Lex.pk s.data.toList i : Int)) := hn
  clear hn hm hm0
  go_enter Tryz.func98, Tryz.ntmps98
  go_wp2
  all_goals go_ret
  all_goals go_light
  all_goals refine ⟨ret_int ?_, rfl⟩
  all_goals have e := HN.out
  all_goals generalize Lex.pk s.data.toList i = cn at e
  all_goals clear HN hx ew hd
  all_goals simp only [beq_iff_eq, beq_eq_false_iff_ne, ne_eq] at *
  all_goals (unfold Lex.signW; repeat' split)
  all_goals omega
def numOk (k : Int) (d : List UInt8) : Bool := if k = 0 then Lex.plainOk d else Lex.kindOk k d
def numN (k : Int) (d : List UInt8) : Int := if k = 0 then (Lex.numVal d : Int) else Bv.wrp k (wrap64 (Lex.numVal d))
def numPost (k : Int) (d : List UInt8) (w : World) (e : Ending) (w' : World) : Prop := (∃ n : Int, e = .returned (.tuple #[.int .i64 n, .bool (numOk k d)]) ∧ (numOk k d = true → n = numN k d)) ∧ w' = w
theorem numPost_yes {k : Int} {d : List UInt8} {w : World} {n : Int} (h : numOk k d = true) (hn : n = numN k d) : numPost k d w (.returned (.tuple #[.int .i64 n, .bool true])) w := ⟨⟨n, by rw [h], fun _ => hn⟩, rfl⟩
theorem numPost_no {k : Int} {d : List UInt8} {w : World} {n : Int} (h : numOk k d = false) : numPost k d w (.returned (.tuple #[.int .i64 n, .bool false])) w := ⟨⟨n, by rw [h], fun h' => by rw [h] at h'; cases h'⟩, rfl⟩
namespace Lex
theorem fv_take (l : List UInt8) (i : Nat) (h : i < l.length) : fv 0 (l.take (i + 1)) = fv 0 (l.take i) * 10 + (l[i].toNat - 48) := by
 unfold fv
 rw [List.take_add_one, List.getElem?_eq_getElem h, List.foldl_append]
 rfl
theorem fv_drop_ge (l : List UInt8) (i : Nat) : fv 0 (l.take i) ≤ fv 0 l := by
 have e : fv 0 l = fv (fv 0 (l.take i)) (l.drop i) := by
  unfold fv
  conv => lhs; rw [← List.take_append_drop i l]
  rw [List.foldl_append]
 rw [e]
 exact fv_ge _ _
theorem digits_at {l : List UInt8} (h : digits l) {i : Nat} (hi : i < l.length) : 48 ≤ l[i].toNat ∧ l[i].toNat ≤ 57 := h _ (List.getElem_mem hi)
end Lex
theorem rnumber_plain (d : ByteArray) (hd : Lex.digits d.data.toList) (hsz : d.size ≤ 65536) (w : World) :
  Calls Tryz.prog 97 #[.string d, .int .i64 0] w fun e w' => numPost 0 d.data.toList w e w' := by
 have hl : d.data.toList.length = d.size := Array.length_toList
 by_cases h9 : d.size ≤ 9
 ·have hok : numOk 0 d.data.toList = true := by
   unfold numOk Lex.plainOk; rw [if_pos rfl, decide_eq_true_iff]; omega
  have HOK := ld hok
  have hlt : Lex.numVal d.data.toList < 1000000000 := by
   have h1 := Lex.numVal_lt _ hd
   have h2 : 10 ^ d.data.toList.length ≤ 10 ^ 9 := Nat.pow_le_pow_right (by decide) (by omega)
   have h3 : (10 : Nat) ^ 9 = 1000000000 := by decide
   omega
  have HLT := ld hlt
  have t1 : decide ((20 : Int) < (d.size : Int)) = false := by rw [decide_eq_false_iff_not]; omega
  have t2 : decide ((9 : Int) < (d.size : Int)) = false := by rw [decide_eq_false_iff_not]; omega
  clear hok hlt
  go_enter Tryz.func97, Tryz.ntmps97
  go_wp2
  go_loop [6, 7] (fun a b => ∃ (i : Nat) (n : Int), i ≤ d.size ∧ b = .int .i64 (i : Int) ∧ a = .int .i64 n ∧ 0 ≤ n ∧ n < 1000000000 ∧ Hid (n = (Lex.fv 0 (d.data.toList.take i) : Int))) (fun _ b => d.size - (intOf b).toNat)
  case atStart => exact ⟨0, 0, Nat.zero_le _, rfl, rfl, by decide, by decide, rfl⟩
  case round =>
   obtain ⟨i, n, hi, rfl, rfl, hn0, hn, H⟩ := hrel
   by_cases hlt2 : i < d.size
   ·have hx := fun wx => idx_str d i hlt2 (i : Int) rfl wx
    rw [Lex.pk_eq (by omega)] at hx
    have hdg := Lex.digits_at hd (i := i) (by omega)
    have hst := Lex.fv_take d.data.toList i (by omega)
    have hge := Lex.fv_drop_ge d.data.toList (i + 1)
    have hv := Lex.numVal_eq d.data.toList
    obtain ⟨z, hz⟩ : ∃ z : Int, z = ((d.data.toList[i]'(by omega)).toNat : Int) := ⟨_, rfl⟩
    simp only [← hz] at hx
    have hz1 : 48 ≤ z := by omega
    have hz2 : z ≤ 57 := by omega
    have hstep : n * 10 + (z - 48) = (Lex.fv 0 (d.data.toList.take (i + 1)) : Int) := by
     rw [hst, H.out, hz]; omega
    have hb : n * 10 + (z - 48) < 1000000000 := by
     have := HLT.out
     omega
    have HS := ld hstep
    have HB := ld hb
    clear hst hge hv hdg hz hstep hb
    set_option maxRecDepth 20000 in
    go_wp2
    go_round
    case rel => exact ⟨i + 1, _, by omega, by go_num, rfl, by omega, by have := HB.out; omega, ld (by have := HS.out; omega)⟩
    case measure => simp [intOf]; omega
   ·have e : i = d.size := by omega
    subst e
    go_wp2
    go_ret2
    refine numPost_yes HOK.out ?_
    unfold numN
    rw [if_pos rfl, Lex.numVal_eq]
    have h2 := H.out
    rw [← hl, List.take_length] at h2
    rw [h2]
 ·have hok : numOk 0 d.data.toList = false := by
   unfold numOk Lex.plainOk; rw [if_pos rfl, decide_eq_false_iff_not]; omega
  have HOK := ld hok
  clear hok
  have t2 : decide ((9 : Int) < (d.size : Int)) = true := by rw [decide_eq_true_iff]; omega
  go_enter Tryz.func97, Tryz.ntmps97
  go_wp2
  all_goals go_ret2
  all_goals exact numPost_no HOK.out
theorem kindOk_small {k : Int} {d : List UInt8} (h20 : d.length ≤ 20) (hk : 2 ≤ k) : Lex.kindOk k d = decide ((Lex.numVal d : Int) ≤ Lex.top k) := by
 unfold Lex.kindOk; rw [decide_eq_true h20, decide_eq_true hk]; rfl
theorem numOk_small {k : Int} {d : List UInt8} (h20 : d.length ≤ 20) (hk : 2 ≤ k) : numOk k d = decide ((Lex.numVal d : Int) ≤ Lex.top k) := by
 unfold numOk; rw [if_neg (by omega)]; exact kindOk_small h20 hk
theorem numPost_long {k : Int} {d : List UInt8} {w : World} {n : Int} (h : ¬ d.length ≤ 20) (hk : 2 ≤ k) : numPost k d w (.returned (.tuple #[.int .i64 n, .bool false])) w := by
 refine numPost_no ?_
 unfold numOk; rw [if_neg (by omega)]; unfold Lex.kindOk; rw [decide_eq_false h]; rfl
theorem numPost_big {k : Int} {d : List UInt8} {w : World} {n : Int} (h20 : d.length ≤ 20) (hk : 2 ≤ k) (h : Lex.top k < (Lex.numVal d : Int)) : numPost k d w (.returned (.tuple #[.int .i64 n, .bool false])) w := by
 refine numPost_no ?_
 rw [numOk_small h20 hk, decide_eq_false_iff_not]; omega
theorem numPost_small {k : Int} {d : List UInt8} {w : World} {n : Int} (h20 : d.length ≤ 20) (hk : 2 ≤ k) (h : (Lex.numVal d : Int) ≤ Lex.top k) (hn : n = Bv.wrp k (wrap64 (Lex.numVal d))) : numPost k d w (.returned (.tuple #[.int .i64 n, .bool true])) w := by
 refine numPost_yes ?_ ?_
 ·rw [numOk_small h20 hk, decide_eq_true_iff]; exact h
 ·unfold numN; rw [if_neg (by omega)]; exact hn
theorem wrap_small {n : Int} (h0 : 0 ≤ n) (h : n ≤ 8589934592) : wrap64 n = n := by unfold wrap64; omega
theorem numPost_dec {k m : Int} {d : List UInt8} {w : World} (h20 : d.length ≤ 20) (hk : 2 ≤ k) (hm : Lex.top k + 1 = m) (n : Int) (hn : n = (Lex.numVal d : Int)) (hw : 0 ≤ n → n ≤ Lex.top k → n = Bv.wrp k (wrap64 n)) : numPost k d w (.returned (.tuple #[.int .i64 n, .bool (decide (n < m))])) w := by
 by_cases h : n < m
 ·rw [decide_eq_true h]
  exact numPost_small h20 hk (by omega) (by rw [← hn]; exact hw (by omega) (by omega))
 ·rw [decide_eq_false h]
  exact numPost_big h20 hk (by omega)
theorem rnumber_2 (d : ByteArray) (hd : Lex.digits d.data.toList) (hsz : d.size ≤ 65536) (w : World) :
  Calls Tryz.prog 97 #[.string d, .int .i64 2] w fun e w' => numPost 2 d.data.toList w e w' := by
 have hl : d.data.toList.length = d.size := Array.length_toList
 have htop : Lex.top 2 = 128 := rfl
 have HT := ld htop
 clear htop
 have hwid : Bv.wid 2 = 8 := rfl
 by_cases h9 : d.size ≤ 20
 ·have t1 : decide ((20 : Int) < (d.size : Int)) = false := by rw [decide_eq_false_iff_not]; omega
  have h20 : d.data.toList.length ≤ 20 := by omega
  have H20 := ld h20
  clear h20
  go_enter Tryz.func97, Tryz.ntmps97
  go_wp2
  go_loop [6, 7] (fun a b => ∃ (i : Nat) (n : Int), i ≤ d.size ∧ b = .int .i64 (i : Int) ∧ a = .int .i64 n ∧ 0 ≤ n ∧ n ≤ 8589934592 ∧ Hid (n = (Lex.fv 0 (d.data.toList.take i) : Int))) (fun _ b => d.size - (intOf b).toNat)
  case atStart => exact ⟨0, 0, Nat.zero_le _, rfl, rfl, by decide, by decide, rfl⟩
  case round =>
   obtain ⟨i, n, hi, rfl, rfl, hn0, hn, H⟩ := hrel
   by_cases hlt2 : i < d.size
   ·have hx := fun wx => idx_str d i hlt2 (i : Int) rfl wx
    rw [Lex.pk_eq (by omega)] at hx
    have hdg := Lex.digits_at hd (i := i) (by omega)
    have hst := Lex.fv_take d.data.toList i (by omega)
    have hge := Lex.fv_drop_ge d.data.toList (i + 1)
    have hv := Lex.numVal_eq d.data.toList
    obtain ⟨z, hz⟩ : ∃ z : Int, z = ((d.data.toList[i]'(by omega)).toNat : Int) := ⟨_, rfl⟩
    simp only [← hz] at hx
    have hz1 : 48 ≤ z := by omega
    have hz2 : z ≤ 57 := by omega
    have hstep : n * 10 + (z - 48) = (Lex.fv 0 (d.data.toList.take (i + 1)) : Int) := by
     rw [hst, H.out, hz]; omega
    have hb : n * 10 + (z - 48) ≤ (Lex.numVal d.data.toList : Int) := by
     omega
    have HS := ld hstep
    have HB := ld hb
    clear hst hge hv hdg hz hstep hb
    go_wp2
    ·go_ret2
     refine numPost_big H20.out (by decide) ?_
     have h1 := HB.out
     rw [HT.out]; omega
    ·go_round
     case rel => exact ⟨i + 1, _, by omega, by go_num, rfl, by omega, by omega, ld (by have := HS.out; omega)⟩
     case measure => simp [intOf]; omega
   ·have e : i = d.size := by omega
    subst e
    have hv : n = (Lex.numVal d.data.toList : Int) := by
     have h2 := H.out
     rw [← hl, List.take_length, ← Lex.numVal_eq] at h2
     exact h2
    have HV := ld hv
    clear hv H
    go_wp2_with (go_at_call 129; refine (rwidth_any _ _).mono ?_; rintro e w' ⟨rfl, rfl⟩; rw [hwid])
    go_loop [10, 11] (fun p i => ∃ (j : Nat) (q : Int), j ≤ 8 ∧ i = .int .i64 j ∧ p = .int .i64 q ∧ Hid (q = 2 ^ j)) (fun _ i => 8 - (intOf i).toNat)
    case atStart => exact ⟨0, 1, Nat.zero_le _, rfl, rfl, rfl⟩
    case round =>
     obtain ⟨j, q, hj, rfl, rfl, HQ⟩ := hrel
     by_cases hlt : j < 8
     ·go_wp2
      all_goals
       go_round
       case rel => exact ⟨j + 1, _, by omega, by go_num, rfl, by have e := HQ.out; subst e; exact pow_step j (by omega)⟩
       case measure => simp [intOf]; omega
     ·have e : j = 8 := by omega
      subst e
      have hq : q = 256 := HQ.out
      subst hq
      clear HQ
      go_wp2_with (first | (go_at_call 130; refine (rsigned_any _ _).mono ?_; rintro e w' ⟨rfl, rfl⟩) | (go_at_call 131; refine (rwrap_2 _ _).mono ?_; rintro e w' ⟨rfl, rfl⟩))
      ·go_ret2
       refine numPost_big H20.out (by decide) ?_
       rw [HT.out, ← HV.out]; omega
      ·go_ret2
       refine numPost_small H20.out (by decide) (by rw [HT.out, ← HV.out]; omega) ?_
       rw [← HV.out, wrap_small (by omega) (by omega)]
 ·have t2 : decide ((20 : Int) < (d.size : Int)) = true := by rw [decide_eq_true_iff]; omega
  go_enter Tryz.func97, Tryz.ntmps97
  go_wp2
  all_goals go_ret2
  all_goals exact numPost_long (by omega) (by decide)
theorem rnumber_3 (d : ByteArray) (hd : Lex.digits d.data.toList) (hsz : d.size ≤ 65536) (w : World) :
  Calls Tryz.prog 97 #[.string d, .int .i64 3] w fun e w' => numPost 3 d.data.toList w e w' := by
 have hl : d.data.toList.length = d.size := Array.length_toList
 have htop : Lex.top 3 = 32768 := rfl
 have HT := ld htop
 clear htop
 have hwid : Bv.wid 3 = 16 := rfl
 by_cases h9 : d.size ≤ 20
 ·have t1 : decide ((20 : Int) < (d.size : Int)) = false := by rw [decide_eq_false_iff_not]; omega
  have h20 : d.data.toList.length ≤ 20 := by omega
  have H20 := ld h20
  clear h20
  go_enter Tryz.func97, Tryz.ntmps97
  go_wp2
  go_loop [6, 7] (fun a b => ∃ (i : Nat) (n : Int), i ≤ d.size ∧ b = .int .i64 (i : Int) ∧ a = .int .i64 n ∧ 0 ≤ n ∧ n ≤ 8589934592 ∧ Hid (n = (Lex.fv 0 (d.data.toList.take i) : Int))) (fun _ b => d.size - (intOf b).toNat)
  case atStart => exact ⟨0, 0, Nat.zero_le _, rfl, rfl, by decide, by decide, rfl⟩
  case round =>
   obtain ⟨i, n, hi, rfl, rfl, hn0, hn, H⟩ := hrel
   by_cases hlt2 : i < d.size
   ·have hx := fun wx => idx_str d i hlt2 (i : Int) rfl wx
    rw [Lex.pk_eq (by omega)] at hx
    have hdg := Lex.digits_at hd (i := i) (by omega)
    have hst := Lex.fv_take d.data.toList i (by omega)
    have hge := Lex.fv_drop_ge d.data.toList (i + 1)
    have hv := Lex.numVal_eq d.data.toList
    obtain ⟨z, hz⟩ : ∃ z : Int, z = ((d.data.toList[i]'(by omega)).toNat : Int) := ⟨_, rfl⟩
    simp only [← hz] at hx
    have hz1 : 48 ≤ z := by omega
    have hz2 : z ≤ 57 := by omega
    have hstep : n * 10 + (z - 48) = (Lex.fv 0 (d.data.toList.take (i + 1)) : Int) := by
     rw [hst, H.out, hz]; omega
    have hb : n * 10 + (z - 48) ≤ (Lex.numVal d.data.toList : Int) := by
     omega
    have HS := ld hstep
    have HB := ld hb
    clear hst hge hv hdg hz hstep hb
    go_wp2
    ·go_ret2
     refine numPost_big H20.out (by decide) ?_
     have h1 := HB.out
     rw [HT.out]; omega
    ·go_round
     case rel => exact ⟨i + 1, _, by omega, by go_num, rfl, by omega, by omega, ld (by have := HS.out; omega)⟩
     case measure => simp [intOf]; omega
   ·have e : i = d.size := by omega
    subst e
    have hv : n = (Lex.numVal d.data.toList : Int) := by
     have h2 := H.out
     rw [← hl, List.take_length, ← Lex.numVal_eq] at h2
     exact h2
    have HV := ld hv
    clear hv H
    go_wp2_with (go_at_call 129; refine (rwidth_any _ _).mono ?_; rintro e w' ⟨rfl, rfl⟩; rw [hwid])
    go_loop [10, 11] (fun p i => ∃ (j : Nat) (q : Int), j ≤ 16 ∧ i = .int .i64 j ∧ p = .int .i64 q ∧ Hid (q = 2 ^ j)) (fun _ i => 16 - (intOf i).toNat)
    case atStart => exact ⟨0, 1, Nat.zero_le _, rfl, rfl, rfl⟩
    case round =>
     obtain ⟨j, q, hj, rfl, rfl, HQ⟩ := hrel
     by_cases hlt : j < 16
     ·go_wp2
      all_goals
       go_round
       case rel => exact ⟨j + 1, _, by omega, by go_num, rfl, by have e := HQ.out; subst e; exact pow_step j (by omega)⟩
       case measure => simp [intOf]; omega
     ·have e : j = 16 := by omega
      subst e
      have hq : q = 65536 := HQ.out
      subst hq
      clear HQ
      go_wp2_with (first | (go_at_call 130; refine (rsigned_any _ _).mono ?_; rintro e w' ⟨rfl, rfl⟩) | (go_at_call 131; refine (rwrap_3 _ _).mono ?_; rintro e w' ⟨rfl, rfl⟩))
      ·go_ret2
       refine numPost_big H20.out (by decide) ?_
       rw [HT.out, ← HV.out]; omega
      ·go_ret2
       refine numPost_small H20.out (by decide) (by rw [HT.out, ← HV.out]; omega) ?_
       rw [← HV.out, wrap_small (by omega) (by omega)]
 ·have t2 : decide ((20 : Int) < (d.size : Int)) = true := by rw [decide_eq_true_iff]; omega
  go_enter Tryz.func97, Tryz.ntmps97
  go_wp2
  all_goals go_ret2
  all_goals exact numPost_long (by omega) (by decide)
theorem rnumber_4 (d : ByteArray) (hd : Lex.digits d.data.toList) (hsz : d.size ≤ 65536) (w : World) :
  Calls Tryz.prog 97 #[.string d, .int .i64 4] w fun e w' => numPost 4 d.data.toList w e w' := by
 have hl : d.data.toList.length = d.size := Array.length_toList
 have htop : Lex.top 4 = 2147483648 := rfl
 have HT := ld htop
 clear htop
 have hwid : Bv.wid 4 = 32 := rfl
 by_cases h9 : d.size ≤ 20
 ·have t1 : decide ((20 : Int) < (d.size : Int)) = false := by rw [decide_eq_false_iff_not]; omega
  have h20 : d.data.toList.length ≤ 20 := by omega
  have H20 := ld h20
  clear h20
  go_enter Tryz.func97, Tryz.ntmps97
  go_wp2
  go_loop [6, 7] (fun a b => ∃ (i : Nat) (n : Int), i ≤ d.size ∧ b = .int .i64 (i : Int) ∧ a = .int .i64 n ∧ 0 ≤ n ∧ n ≤ 8589934592 ∧ Hid (n = (Lex.fv 0 (d.data.toList.take i) : Int))) (fun _ b => d.size - (intOf b).toNat)
  case atStart => exact ⟨0, 0, Nat.zero_le _, rfl, rfl, by decide, by decide, rfl⟩
  case round =>
   obtain ⟨i, n, hi, rfl, rfl, hn0, hn, H⟩ := hrel
   by_cases hlt2 : i < d.size
   ·have hx := fun wx => idx_str d i hlt2 (i : Int) rfl wx
    rw [Lex.pk_eq (by omega)] at hx
    have hdg := Lex.digits_at hd (i := i) (by omega)
    have hst := Lex.fv_take d.data.toList i (by omega)
    have hge := Lex.fv_drop_ge d.data.toList (i + 1)
    have hv := Lex.numVal_eq d.data.toList
    obtain ⟨z, hz⟩ : ∃ z : Int, z = ((d.data.toList[i]'(by omega)).toNat : Int) := ⟨_, rfl⟩
    simp only [← hz] at hx
    have hz1 : 48 ≤ z := by omega
    have hz2 : z ≤ 57 := by omega
    have hstep : n * 10 + (z - 48) = (Lex.fv 0 (d.data.toList.take (i + 1)) : Int) := by
     rw [hst, H.out, hz]; omega
    have hb : n * 10 + (z - 48) ≤ (Lex.numVal d.data.toList : Int) := by
     omega
    have HS := ld hstep
    have HB := ld hb
    clear hst hge hv hdg hz hstep hb
    go_wp2
    ·go_ret2
     refine numPost_big H20.out (by decide) ?_
     have h1 := HB.out
     rw [HT.out]; omega
    ·go_round
     case rel => exact ⟨i + 1, _, by omega, by go_num, rfl, by omega, by omega, ld (by have := HS.out; omega)⟩
     case measure => simp [intOf]; omega
   ·have e : i = d.size := by omega
    subst e
    have hv : n = (Lex.numVal d.data.toList : Int) := by
     have h2 := H.out
     rw [← hl, List.take_length, ← Lex.numVal_eq] at h2
     exact h2
    have HV := ld hv
    clear hv H
    go_wp2_with (go_at_call 129; refine (rwidth_any _ _).mono ?_; rintro e w' ⟨rfl, rfl⟩; rw [hwid])
    go_loop [10, 11] (fun p i => ∃ (j : Nat) (q : Int), j ≤ 32 ∧ i = .int .i64 j ∧ p = .int .i64 q ∧ Hid (q = 2 ^ j)) (fun _ i => 32 - (intOf i).toNat)
    case atStart => exact ⟨0, 1, Nat.zero_le _, rfl, rfl, rfl⟩
    case round =>
     obtain ⟨j, q, hj, rfl, rfl, HQ⟩ := hrel
     by_cases hlt : j < 32
     ·go_wp2
      all_goals
       go_round
       case rel => exact ⟨j + 1, _, by omega, by go_num, rfl, by have e := HQ.out; subst e; exact pow_step j (by omega)⟩
       case measure => simp [intOf]; omega
     ·have e : j = 32 := by omega
      subst e
      have hq : q = 4294967296 := HQ.out
      subst hq
      clear HQ
      go_wp2_with (first | (go_at_call 130; refine (rsigned_any _ _).mono ?_; rintro e w' ⟨rfl, rfl⟩) | (go_at_call 131; refine (rwrap_4 _ _).mono ?_; rintro e w' ⟨rfl, rfl⟩))
      ·go_ret2
       refine numPost_big H20.out (by decide) ?_
       rw [HT.out, ← HV.out]; omega
      ·go_ret2
       refine numPost_small H20.out (by decide) (by rw [HT.out, ← HV.out]; omega) ?_
       rw [← HV.out, wrap_small (by omega) (by omega)]
 ·have t2 : decide ((20 : Int) < (d.size : Int)) = true := by rw [decide_eq_true_iff]; omega
  go_enter Tryz.func97, Tryz.ntmps97
  go_wp2
  all_goals go_ret2
  all_goals exact numPost_long (by omega) (by decide)
theorem rnumber_6 (d : ByteArray) (hd : Lex.digits d.data.toList) (hsz : d.size ≤ 65536) (w : World) :
  Calls Tryz.prog 97 #[.string d, .int .i64 6] w fun e w' => numPost 6 d.data.toList w e w' := by
 have hl : d.data.toList.length = d.size := Array.length_toList
 have htop : Lex.top 6 = 255 := rfl
 have HT := ld htop
 clear htop
 have hwid : Bv.wid 6 = 8 := rfl
 by_cases h9 : d.size ≤ 20
 ·have t1 : decide ((20 : Int) < (d.size : Int)) = false := by rw [decide_eq_false_iff_not]; omega
  have h20 : d.data.toList.length ≤ 20 := by omega
  have H20 := ld h20
  clear h20
  go_enter Tryz.func97, Tryz.ntmps97
  go_wp2
  go_loop [6, 7] (fun a b => ∃ (i : Nat) (n : Int), i ≤ d.size ∧ b = .int .i64 (i : Int) ∧ a = .int .i64 n ∧ 0 ≤ n ∧ n ≤ 8589934592 ∧ Hid (n = (Lex.fv 0 (d.data.toList.take i) : Int))) (fun _ b => d.size - (intOf b).toNat)
  case atStart => exact ⟨0, 0, Nat.zero_le _, rfl, rfl, by decide, by decide, rfl⟩
  case round =>
   obtain ⟨i, n, hi, rfl, rfl, hn0, hn, H⟩ := hrel
   by_cases hlt2 : i < d.size
   ·have hx := fun wx => idx_str d i hlt2 (i : Int) rfl wx
    rw [Lex.pk_eq (by omega)] at hx
    have hdg := Lex.digits_at hd (i := i) (by omega)
    have hst := Lex.fv_take d.data.toList i (by omega)
    have hge := Lex.fv_drop_ge d.data.toList (i + 1)
    have hv := Lex.numVal_eq d.data.toList
    obtain ⟨z, hz⟩ : ∃ z : Int, z = ((d.data.toList[i]'(by omega)).toNat : Int) := ⟨_, rfl⟩
    simp only [← hz] at hx
    have hz1 : 48 ≤ z := by omega
    have hz2 : z ≤ 57 := by omega
    have hstep : n * 10 + (z - 48) = (Lex.fv 0 (d.data.toList.take (i + 1)) : Int) := by
     rw [hst, H.out, hz]; omega
    have hb : n * 10 + (z - 48) ≤ (Lex.numVal d.data.toList : Int) := by
     omega
    have HS := ld hstep
    have HB := ld hb
    clear hst hge hv hdg hz hstep hb
    go_wp2
    ·go_ret2
     refine numPost_big H20.out (by decide) ?_
     have h1 := HB.out
     rw [HT.out]; omega
    ·go_round
     case rel => exact ⟨i + 1, _, by omega, by go_num, rfl, by omega, by omega, ld (by have := HS.out; omega)⟩
     case measure => simp [intOf]; omega
   ·have e : i = d.size := by omega
    subst e
    have hv : n = (Lex.numVal d.data.toList : Int) := by
     have h2 := H.out
     rw [← hl, List.take_length, ← Lex.numVal_eq] at h2
     exact h2
    have HV := ld hv
    clear hv H
    go_wp2_with (go_at_call 129; refine (rwidth_any _ _).mono ?_; rintro e w' ⟨rfl, rfl⟩; rw [hwid])
    go_loop [10, 11] (fun p i => ∃ (j : Nat) (q : Int), j ≤ 8 ∧ i = .int .i64 j ∧ p = .int .i64 q ∧ Hid (q = 2 ^ j)) (fun _ i => 8 - (intOf i).toNat)
    case atStart => exact ⟨0, 1, Nat.zero_le _, rfl, rfl, rfl⟩
    case round =>
     obtain ⟨j, q, hj, rfl, rfl, HQ⟩ := hrel
     by_cases hlt : j < 8
     ·go_wp2
      all_goals
       go_round
       case rel => exact ⟨j + 1, _, by omega, by go_num, rfl, by have e := HQ.out; subst e; exact pow_step j (by omega)⟩
       case measure => simp [intOf]; omega
     ·have e : j = 8 := by omega
      subst e
      have hq : q = 256 := HQ.out
      subst hq
      clear HQ
      go_wp2_with (go_at_call 130; refine (rsigned_any _ _).mono ?_; rintro e w' ⟨rfl, rfl⟩)
      go_ret2
      refine numPost_dec H20.out (by decide) (by rw [HT.out]; rfl) _ HV.out ?_
      rw [HT.out]
      intro h1 h2
      rw [wrap_small h1 (by omega)]
      unfold Bv.wrp
      simp
      omega
 ·have t2 : decide ((20 : Int) < (d.size : Int)) = true := by rw [decide_eq_true_iff]; omega
  go_enter Tryz.func97, Tryz.ntmps97
  go_wp2
  all_goals go_ret2
  all_goals exact numPost_long (by omega) (by decide)
theorem rnumber_7 (d : ByteArray) (hd : Lex.digits d.data.toList) (hsz : d.size ≤ 65536) (w : World) :
  Calls Tryz.prog 97 #[.string d, .int .i64 7] w fun e w' => numPost 7 d.data.toList w e w' := by
 have hl : d.data.toList.length = d.size := Array.length_toList
 have htop : Lex.top 7 = 65535 := rfl
 have HT := ld htop
 clear htop
 have hwid : Bv.wid 7 = 16 := rfl
 by_cases h9 : d.size ≤ 20
 ·have t1 : decide ((20 : Int) < (d.size : Int)) = false := by rw [decide_eq_false_iff_not]; omega
  have h20 : d.data.toList.length ≤ 20 := by omega
  have H20 := ld h20
  clear h20
  go_enter Tryz.func97, Tryz.ntmps97
  go_wp2
  go_loop [6, 7] (fun a b => ∃ (i : Nat) (n : Int), i ≤ d.size ∧ b = .int .i64 (i : Int) ∧ a = .int .i64 n ∧ 0 ≤ n ∧ n ≤ 8589934592 ∧ Hid (n = (Lex.fv 0 (d.data.toList.take i) : Int))) (fun _ b => d.size - (intOf b).toNat)
  case atStart => exact ⟨0, 0, Nat.zero_le _, rfl, rfl, by decide, by decide, rfl⟩
  case round =>
   obtain ⟨i, n, hi, rfl, rfl, hn0, hn, H⟩ := hrel
   by_cases hlt2 : i < d.size
   ·have hx := fun wx => idx_str d i hlt2 (i : Int) rfl wx
    rw [Lex.pk_eq (by omega)] at hx
    have hdg := Lex.digits_at hd (i := i) (by omega)
    have hst := Lex.fv_take d.data.toList i (by omega)
    have hge := Lex.fv_drop_ge d.data.toList (i + 1)
    have hv := Lex.numVal_eq d.data.toList
    obtain ⟨z, hz⟩ : ∃ z : Int, z = ((d.data.toList[i]'(by omega)).toNat : Int) := ⟨_, rfl⟩
    simp only [← hz] at hx
    have hz1 : 48 ≤ z := by omega
    have hz2 : z ≤ 57 := by omega
    have hstep : n * 10 + (z - 48) = (Lex.fv 0 (d.data.toList.take (i + 1)) : Int) := by
     rw [hst, H.out, hz]; omega
    have hb : n * 10 + (z - 48) ≤ (Lex.numVal d.data.toList : Int) := by
     omega
    have HS := ld hstep
    have HB := ld hb
    clear hst hge hv hdg hz hstep hb
    go_wp2
    ·go_ret2
     refine numPost_big H20.out (by decide) ?_
     have h1 := HB.out
     rw [HT.out]; omega
    ·go_round
     case rel => exact ⟨i + 1, _, by omega, by go_num, rfl, by omega, by omega, ld (by have := HS.out; omega)⟩
     case measure => simp [intOf]; omega
   ·have e : i = d.size := by omega
    subst e
    have hv : n = (Lex.numVal d.data.toList : Int) := by
     have h2 := H.out
     rw [← hl, List.take_length, ← Lex.numVal_eq] at h2
     exact h2
    have HV := ld hv
    clear hv H
    go_wp2_with (go_at_call 129; refine (rwidth_any _ _).mono ?_; rintro e w' ⟨rfl, rfl⟩; rw [hwid])
    go_loop [10, 11] (fun p i => ∃ (j : Nat) (q : Int), j ≤ 16 ∧ i = .int .i64 j ∧ p = .int .i64 q ∧ Hid (q = 2 ^ j)) (fun _ i => 16 - (intOf i).toNat)
    case atStart => exact ⟨0, 1, Nat.zero_le _, rfl, rfl, rfl⟩
    case round =>
     obtain ⟨j, q, hj, rfl, rfl, HQ⟩ := hrel
     by_cases hlt : j < 16
     ·go_wp2
      all_goals
       go_round
       case rel => exact ⟨j + 1, _, by omega, by go_num, rfl, by have e := HQ.out; subst e; exact pow_step j (by omega)⟩
       case measure => simp [intOf]; omega
     ·have e : j = 16 := by omega
      subst e
      have hq : q = 65536 := HQ.out
      subst hq
      clear HQ
      go_wp2_with (go_at_call 130; refine (rsigned_any _ _).mono ?_; rintro e w' ⟨rfl, rfl⟩)
      go_ret2
      refine numPost_dec H20.out (by decide) (by rw [HT.out]; rfl) _ HV.out ?_
      rw [HT.out]
      intro h1 h2
      rw [wrap_small h1 (by omega)]
      unfold Bv.wrp
      simp
      omega
 ·have t2 : decide ((20 : Int) < (d.size : Int)) = true := by rw [decide_eq_true_iff]; omega
  go_enter Tryz.func97, Tryz.ntmps97
  go_wp2
  all_goals go_ret2
  all_goals exact numPost_long (by omega) (by decide)
theorem rnumber_8 (d : ByteArray) (hd : Lex.digits d.data.toList) (hsz : d.size ≤ 65536) (w : World) :
  Calls Tryz.prog 97 #[.string d, .int .i64 8] w fun e w' => numPost 8 d.data.toList w e w' := by
 have hl : d.data.toList.length = d.size := Array.length_toList
 have htop : Lex.top 8 = 4294967295 := rfl
 have HT := ld htop
 clear htop
 have hwid : Bv.wid 8 = 32 := rfl
 by_cases h9 : d.size ≤ 20
 ·have t1 : decide ((20 : Int) < (d.size : Int)) = false := by rw [decide_eq_false_iff_not]; omega
  have h20 : d.data.toList.length ≤ 20 := by omega
  have H20 := ld h20
  clear h20
  go_enter Tryz.func97, Tryz.ntmps97
  go_wp2
  go_loop [6, 7] (fun a b => ∃ (i : Nat) (n : Int), i ≤ d.size ∧ b = .int .i64 (i : Int) ∧ a = .int .i64 n ∧ 0 ≤ n ∧ n ≤ 8589934592 ∧ Hid (n = (Lex.fv 0 (d.data.toList.take i) : Int))) (fun _ b => d.size - (intOf b).toNat)
  case atStart => exact ⟨0, 0, Nat.zero_le _, rfl, rfl, by decide, by decide, rfl⟩
  case round =>
   obtain ⟨i, n, hi, rfl, rfl, hn0, hn, H⟩ := hrel
   by_cases hlt2 : i < d.size
   ·have hx := fun wx => idx_str d i hlt2 (i : Int) rfl wx
    rw [Lex.pk_eq (by omega)] at hx
    have hdg := Lex.digits_at hd (i := i) (by omega)
    have hst := Lex.fv_take d.data.toList i (by omega)
    have hge := Lex.fv_drop_ge d.data.toList (i + 1)
    have hv := Lex.numVal_eq d.data.toList
    obtain ⟨z, hz⟩ : ∃ z : Int, z = ((d.data.toList[i]'(by omega)).toNat : Int) := ⟨_, rfl⟩
    simp only [← hz] at hx
    have hz1 : 48 ≤ z := by omega
    have hz2 : z ≤ 57 := by omega
    have hstep : n * 10 + (z - 48) = (Lex.fv 0 (d.data.toList.take (i + 1)) : Int) := by
     rw [hst, H.out, hz]; omega
    have hb : n * 10 + (z - 48) ≤ (Lex.numVal d.data.toList : Int) := by
     omega
    have HS := ld hstep
    have HB := ld hb
    clear hst hge hv hdg hz hstep hb
    go_wp2
    ·go_ret2
     refine numPost_big H20.out (by decide) ?_
     have h1 := HB.out
     rw [HT.out]; omega
    ·go_round
     case rel => exact ⟨i + 1, _, by omega, by go_num, rfl, by omega, by omega, ld (by have := HS.out; omega)⟩
     case measure => simp [intOf]; omega
   ·have e : i = d.size := by omega
    subst e
    have hv : n = (Lex.numVal d.data.toList : Int) := by
     have h2 := H.out
     rw [← hl, List.take_length, ← Lex.numVal_eq] at h2
     exact h2
    have HV := ld hv
    clear hv H
    go_wp2_with (go_at_call 129; refine (rwidth_any _ _).mono ?_; rintro e w' ⟨rfl, rfl⟩; rw [hwid])
    go_loop [10, 11] (fun p i => ∃ (j : Nat) (q : Int), j ≤ 32 ∧ i = .int .i64 j ∧ p = .int .i64 q ∧ Hid (q = 2 ^ j)) (fun _ i => 32 - (intOf i).toNat)
    case atStart => exact ⟨0, 1, Nat.zero_le _, rfl, rfl, rfl⟩
    case round =>
     obtain ⟨j, q, hj, rfl, rfl, HQ⟩ := hrel
     by_cases hlt : j < 32
     ·go_wp2
      all_goals
       go_round
       case rel => exact ⟨j + 1, _, by omega, by go_num, rfl, by have e := HQ.out; subst e; exact pow_step j (by omega)⟩
       case measure => simp [intOf]; omega
     ·have e : j = 32 := by omega
      subst e
      have hq : q = 4294967296 := HQ.out
      subst hq
      clear HQ
      go_wp2_with (go_at_call 130; refine (rsigned_any _ _).mono ?_; rintro e w' ⟨rfl, rfl⟩)
      go_ret2
      refine numPost_dec H20.out (by decide) (by rw [HT.out]; rfl) _ HV.out ?_
      rw [HT.out]
      intro h1 h2
      rw [wrap_small h1 (by omega)]
      unfold Bv.wrp
      simp
      omega
 ·have t2 : decide ((20 : Int) < (d.size : Int)) = true := by rw [decide_eq_true_iff]; omega
  go_enter Tryz.func97, Tryz.ntmps97
  go_wp2
  all_goals go_ret2
  all_goals exact numPost_long (by omega) (by decide)
theorem wrap_id {n : Int} (h1 : -9223372036854775808 ≤ n) (h2 : n ≤ 9223372036854775807) : wrap64 n = n := by unfold wrap64; omega
theorem end5_least {n : Int} {d : List UInt8} {w : World} (h20 : d.length ≤ 20) (h : n = -(Lex.numVal d : Int)) (hn : n = -9223372036854775808) : numPost 5 d w (.returned (.tuple #[.int .i64 n, .bool true])) w := by
 have e : (Lex.numVal d : Int) = 9223372036854775808 := by omega
 refine numPost_small h20 (by decide) (by rw [e]; decide) ?_
 rw [e, hn]; simp [Bv.wrp, wrap64]
theorem end5 {n m : Int} {d : List UInt8} {w : World} (h20 : d.length ≤ 20) (h : n = -(Lex.numVal d : Int)) (hn : -9223372036854775808 ≤ n) (hne : ¬ n = -9223372036854775808) (hm : m = -n) : numPost 5 d w (.returned (.tuple #[.int .i64 m, .bool true])) w := by
 have ht : Lex.top 5 = 9223372036854775808 := rfl
 refine numPost_small h20 (by decide) (by rw [ht]; omega) ?_
 rw [wrap_id (by omega) (by omega)]
 have e : Bv.wrp 5 (Lex.numVal d : Int) = (Lex.numVal d : Int) := by simp [Bv.wrp]
 rw [e]; omega
theorem end9 {n : Int} {d : List UInt8} {w : World} (h20 : d.length ≤ 20) (h : n = wrap64 (Lex.numVal d : Int)) (hn : (Lex.numVal d : Int) ≤ 18446744073709551615) : numPost 9 d w (.returned (.tuple #[.int .i64 n, .bool true])) w := by
 have ht : Lex.top 9 = 18446744073709551615 := rfl
 refine numPost_small h20 (by decide) (by rw [ht]; omega) ?_
 have e : Bv.wrp 9 (wrap64 (Lex.numVal d : Int)) = wrap64 (Lex.numVal d : Int) := by simp [Bv.wrp]
 rw [e, h]
theorem over9 {n c F G : Int} (hF : 0 ≤ F) (hF2 : F ≤ 18446744073709551615) (hn : n = wrap64 F) (hc : 0 ≤ c) (hG : F * 10 + c = G) (h : n < 0 ∨ 1844674407370955161 < n ∨ (n = 1844674407370955161 ∧ 5 < c)) : 18446744073709551615 < G := by
 unfold wrap64 at hn; omega
theorem step9 {n c F G : Int} (hF : 0 ≤ F) (hF2 : F ≤ 18446744073709551615) (hn : n = wrap64 F) (hc : 0 ≤ c) (hc9 : c ≤ 9) (hG : F * 10 + c = G) (h1 : 0 ≤ n) (h2 : n ≤ 1844674407370955161) (h3 : ¬ (n = 1844674407370955161 ∧ 5 < c)) : n = F ∧ G ≤ 18446744073709551615 := by
 unfold wrap64 at hn; omega
theorem wrap_in (a c : Int) : wrap64 (wrap64 a + c) = wrap64 (a + c) := by
 unfold wrap64; omega
theorem nine9 {a c n F G : Int} (hG : F * 10 + c = G) (hn : n = F) (ha : a = 10 * n) : wrap64 (a + c) = wrap64 G := by
 rw [← hG, ← hn, ha, Int.mul_comm]
theorem nine9w {a c n F G : Int} (hG : F * 10 + c = G) (hn : n = F) (ha : a = 10 * n) : wrap64 (wrap64 a + c) = wrap64 G := by
 rw [wrap_in]; exact nine9 hG hn ha
theorem rnumber_5 (d : ByteArray) (hd : Lex.digits d.data.toList) (hsz : d.size ≤ 65536) (w : World) :
    Calls Tryz.prog 97 #[.string d, .int .i64 5] w fun e w' => numPost 5 d.data.toList w e w' := by
  have hl : d.data.toList.length = d.size := Array.length_toList
  by_cases h9 : d.size ≤ 20
  · have t1 : decide ((20 : Int) < (d.size : Int)) = false := by rw [decide_eq_false_iff_not]; omega
    have h20 : d.data.toList.length ≤ 20 := by omega
    have H20 := ld h20
    clear h20
    go_enter Tryz.func97, Tryz.ntmps97
    go_wp2
    go_loop [6, 7] (fun a b => ∃ (i : Nat) (n : Int), i ≤ d.size ∧ b = .int .i64 (i : Int) ∧ a = .int .i64 n ∧ n ≤ 0 ∧ -9223372036854775808 ≤ n ∧ Hid (n = -(Lex.fv 0 (d.data.toList.take i) : Int))) (fun _ b => d.size - (intOf b).toNat)
    case atStart => exact ⟨0, 0, Nat.zero_le _, rfl, rfl, by decide, by decide, rfl⟩
    case round =>
      obtain ⟨i, n, hi, rfl, rfl, hn0, hn, H⟩ := hrel
      by_cases hlt2 : i < d.size
      · have hx := fun wx => idx_str d i hlt2 (i : Int) rfl wx
        rw [Lex.pk_eq (by omega)] at hx
        have hdg := Lex.digits_at hd (i := i) (by omega)
        have hst := Lex.fv_take d.data.toList i (by omega)
        have hge := Lex.fv_drop_ge d.data.toList (i + 1)
        have hv := Lex.numVal_eq d.data.toList
        obtain ⟨z, hz⟩ : ∃ z : Int, z = ((d.data.toList[i]'(by omega)).toNat : Int) := ⟨_, rfl⟩
        simp only [← hz] at hx
        have hz1 : 48 ≤ z := by omega
        have hz2 : z ≤ 57 := by omega
        have hstep : n * 10 - (z - 48) = -(Lex.fv 0 (d.data.toList.take (i + 1)) : Int) := by
          rw [hst, H.out, hz]; omega
        have hb : -(n * 10 - (z - 48)) ≤ (Lex.numVal d.data.toList : Int) := by
          omega
        have HS := ld hstep
        have HB := ld hb
        clear hst hge hv hdg hz hstep hb
        go_wp2
        all_goals first
          | (go_ret2
             refine numPost_big H20.out (by decide) ?_
             have h1 := HB.out
             have ht : Lex.top 5 = 9223372036854775808 := rfl
             rw [ht]; omega)
          | (go_round
             case rel => exact ⟨i + 1, _, by omega, by go_num, rfl, by omega, by omega, ld (by have := HS.out; omega)⟩
             case measure => simp [intOf]; omega)
      · have e : i = d.size := by omega
        subst e
        have hv : n = -(Lex.numVal d.data.toList : Int) := by
          have h2 := H.out
          rw [← hl, List.take_length, ← Lex.numVal_eq] at h2
          exact h2
        have HV := ld hv
        clear hv H
        by_cases hm : n = -9223372036854775808
        · have HM := ld hm
          go_wp2
          go_ret2
          exact end5_least H20.out (by have h1 := HV.out; have h2 := HM.out; omega) rfl
        · go_wp2
          go_ret2
          exact end5 H20.out HV.out hn (by assumption) (by first | rfl | (unfold wrap64; omega) | omega)
  · have t2 : decide ((20 : Int) < (d.size : Int)) = true := by rw [decide_eq_true_iff]; omega
    go_enter Tryz.func97, Tryz.ntmps97
    go_wp2
    all_goals go_ret2
    all_goals exact numPost_long (by omega) (by decide)
theorem rnumber_9 (d : ByteArray) (hd : Lex.digits d.data.toList) (hsz : d.size ≤ 65536) (w : World) :
    Calls Tryz.prog 97 #[.string d, .int .i64 9] w fun e w' => numPost 9 d.data.toList w e w' := by
  have hl : d.data.toList.length = d.size := Array.length_toList
  by_cases h9 : d.size ≤ 20
  · have t1 : decide ((20 : Int) < (d.size : Int)) = false := by rw [decide_eq_false_iff_not]; omega
    have h20 : d.data.toList.length ≤ 20 := by omega
    have H20 := ld h20
    clear h20
    go_enter Tryz.func97, Tryz.ntmps97
    go_wp2
    go_loop [6, 7] (fun a b => ∃ (i : Nat) (n : Int), i ≤ d.size ∧ b = .int .i64 (i : Int) ∧ a = .int .i64 n ∧ Hid (n = wrap64 (Lex.fv 0 (d.data.toList.take i) : Int) ∧ (Lex.fv 0 (d.data.toList.take i) : Int) ≤ 18446744073709551615)) (fun _ b => d.size - (intOf b).toNat)
    case atStart => exact ⟨0, 0, Nat.zero_le _, rfl, rfl, ld ⟨by simp [Lex.fv, wrap64], by simp [Lex.fv]⟩⟩
    case round =>
      obtain ⟨i, n, hi, rfl, rfl, H⟩ := hrel
      by_cases hlt2 : i < d.size
      · have hx := fun wx => idx_str d i hlt2 (i : Int) rfl wx
        rw [Lex.pk_eq (by omega)] at hx
        have hdg := Lex.digits_at hd (i := i) (by omega)
        have hst := Lex.fv_take d.data.toList i (by omega)
        have hge := Lex.fv_drop_ge d.data.toList (i + 1)
        have hv := Lex.numVal_eq d.data.toList
        obtain ⟨z, hz⟩ : ∃ z : Int, z = ((d.data.toList[i]'(by omega)).toNat : Int) := ⟨_, rfl⟩
        simp only [← hz] at hx
        have hz1 : 48 ≤ z := by omega
        have hz2 : z ≤ 57 := by omega
        have hstep : (Lex.fv 0 (d.data.toList.take i) : Int) * 10 + (z - 48) = (Lex.fv 0 (d.data.toList.take (i + 1)) : Int) := by
          rw [hst, hz]; omega
        have hb : (Lex.fv 0 (d.data.toList.take (i + 1)) : Int) ≤ (Lex.numVal d.data.toList : Int) := by
          omega
        have HS := ld hstep
        have HB := ld hb
        clear hst hge hv hdg hz hstep hb
        have hr : -9223372036854775808 ≤ n ∧ n ≤ 9223372036854775807 := by
          rw [H.out.1]; unfold wrap64; omega
        obtain ⟨hr1, hr2⟩ := hr
        go_wp2
        all_goals first
          | (go_ret2
             refine numPost_big H20.out (by decide) ?_
             have h1 := HB.out
             have ht : Lex.top 9 = 18446744073709551615 := rfl
             have h2 := over9 (Int.natCast_nonneg _) H.out.2 H.out.1 (by omega) HS.out (by omega)
             rw [ht]; omega)
          | (go_round
             case rel =>
               have h2 := step9 (Int.natCast_nonneg _) H.out.2 H.out.1 (by omega) (by omega) HS.out (by omega) (by omega) (by omega)
               exact ⟨i + 1, _, by omega, by go_num, rfl, ld ⟨by first | exact nine9w HS.out h2.1 (by omega) | exact nine9 HS.out h2.1 (by omega), h2.2⟩⟩
             case measure => simp [intOf]; omega)
      · have e : i = d.size := by omega
        subst e
        have hv : n = wrap64 (Lex.numVal d.data.toList : Int) ∧ (Lex.numVal d.data.toList : Int) ≤ 18446744073709551615 := by
          have h2 := H.out
          rw [← hl, List.take_length, ← Lex.numVal_eq] at h2
          exact h2
        have HV := ld hv
        clear hv H
        go_wp2
        go_ret2
        exact end9 H20.out HV.out.1 HV.out.2
  · have t2 : decide ((20 : Int) < (d.size : Int)) = true := by rw [decide_eq_true_iff]; omega
    go_enter Tryz.func97, Tryz.ntmps97
    go_wp2
    all_goals go_ret2
    all_goals exact numPost_long (by omega) (by decide)
end Go.Proofs.YtbbamgjdnibldaaGreat
