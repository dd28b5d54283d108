/- The plain mathematics of the tokens of a text (no program in sight): which bytes are blanks, digits, bytes of names; how far a row of such bytes goes; the words; what a number's digits are; and the tokens of a text, or where and why it has none. -/
import Derived.Test.YtbiplgidlmbbkaaDoorBvM
namespace Go.Proofs.YtbiplgidlmbbkaaDoor.Lex
open Go.RowKit

def blank (c : UInt8) : Bool := c.toNat == 32 || c.toNat == 9 || c.toNat == 10 || c.toNat == 13
def digit (c : UInt8) : Bool := decide (48 ≤ c.toNat) && decide (c.toNat ≤ 57)
def word (c : UInt8) : Bool := c.toNat == 95 || digit c || (decide (97 ≤ c.toNat) && decide (c.toNat ≤ 122)) || (decide (65 ≤ c.toNat) && decide (c.toNat ≤ 90))
def inLine (c : UInt8) : Bool := c.toNat != 10

/-- how many bytes from the left are of that sort -/
def spn (p : UInt8 → Bool) (l : List UInt8) : Nat := (l.takeWhile p).length

/-- how many bytes blanks and comments have (true: within a comment) -/
def skp : Bool → List UInt8 → Nat
  | _, [] => 0
  | true, c :: r => if c.toNat = 10 then skp false r + 1 else skp true r + 1
  | false, c :: r => if blank c then skp false r + 1 else if c.toNat = 45 ∧ r.head?.map (·.toNat) = some 45 then skp true r + 1 else 0

/-- the words of the language, each with the kind that it names -/
def tbl : List (List UInt8 × Int) :=
  ([97, 110, 100], 0) ::
  ([97, 117, 116, 111, 109, 97, 116, 111, 110], 0) ::
  ([98, 111, 111, 108], 1) ::
  ([99, 97, 115, 116], 0) ::
  ([99, 111, 110, 116, 105, 110, 117, 101], 0) ::
  ([100, 111], 0) ::
  ([101, 108, 115, 101], 0) ::
  ([101, 110, 100], 0) ::
  ([102, 97, 108, 115, 101], 0) ::
  ([102, 98, 121], 0) ::
  ([102, 111, 108, 100], 0) ::
  ([105, 49, 54], 3) ::
  ([105, 51, 50], 4) ::
  ([105, 54, 52], 5) ::
  ([105, 56], 2) ::
  ([105, 102], 0) ::
  ([108, 101, 116], 0) ::
  ([109, 97, 112], 0) ::
  ([109, 101, 114, 103, 101], 0) ::
  ([109, 111, 100], 0) ::
  ([110, 111, 100, 101], 0) ::
  ([110, 111, 116], 0) ::
  ([111, 110], 0) ::
  ([111, 114], 0) ::
  ([112, 114, 101], 0) ::
  ([114, 101, 112], 0) ::
  ([114, 101, 115, 101, 116], 0) ::
  ([114, 101, 116, 117, 114, 110, 115], 0) ::
  ([115, 116, 97, 116, 101], 0) ::
  ([116, 101, 108], 0) ::
  ([116, 104, 101, 110], 0) ::
  ([116, 105, 99, 107], 0) ::
  ([116, 114, 117, 101], 0) ::
  ([117, 49, 54], 7) ::
  ([117, 51, 50], 8) ::
  ([117, 54, 52], 9) ::
  ([117, 56], 6) ::
  ([117, 110, 108, 101, 115, 115], 0) ::
  ([117, 110, 116, 105, 108], 0) ::
  ([118, 97, 114], 0) ::
  ([119, 104, 101, 110], 0) ::
  ([120, 111, 114], 0) :: []

def look (l : List UInt8) : Option Int := (tbl.find? (fun p => p.1 == l)).map (·.2)
def kindOf (l : List UInt8) : Int := (look l).getD 0

/-- the number that digits are -/
def numVal (l : List UInt8) : Nat := l.foldl (fun a c => a * 10 + (c.toNat - 48)) 0

/-- the greatest number that may be written of a kind -/
def top (k : Int) : Int :=
  if k = 2 then 128 else if k = 3 then 32768 else if k = 4 then 2147483648 else if k = 5 then 9223372036854775808
  else if k = 6 then 255 else if k = 7 then 65535 else if k = 8 then 4294967295 else 18446744073709551615

/-- a number without a kind: may it stand -/
def plainOk (d : List UInt8) : Bool := decide (d.length ≤ 9)
/-- a number with a kind: may it stand -/
def kindOk (k : Int) (d : List UInt8) : Bool := decide (d.length ≤ 20) && (decide (2 ≤ k) && decide ((numVal d : Int) ≤ top k))

/-- how many bytes the longest sign has that begins with c, if d is behind it -/
def signW (c d : Nat) : Nat :=
  if (c = 60 ∧ (d = 60 ∨ d = 61 ∨ d = 62)) ∨ (c = 62 ∧ (d = 61 ∨ d = 62)) ∨ ((c = 45 ∨ c = 61) ∧ d = 62) then 2
  else if c = 60 ∨ c = 62 ∨ c = 45 ∨ c = 61 ∨ c = 40 ∨ c = 41 ∨ c = 91 ∨ c = 93 ∨ c = 44 ∨ c = 59 ∨ c = 58 ∨ c = 43 ∨ c = 42 ∨ c = 47 ∨ c = 38 ∨ c = 124 ∨ c = 94 then 1 else 0

/-- the byte so far on; behind the end 0 -/
def pk (l : List UInt8) (i : Nat) : Nat := (l[i]?.map (·.toNat)).getD 0

/-- a token, but for its text and its place: its sort, its number, its kind, how many bytes it has; or what is wrong -/
inductive Tok where
  | tok (kind n t : Int) (len : Nat)
  | bad (e : Int)

def numTok (l : List UInt8) : Tok :=
  let a := spn digit l
  let d := l.take a
  let b := spn word (l.drop a)
  let e := (l.drop a).take b
  if b = 0 then (if plainOk d then .tok 2 (numVal d) 0 a else .bad 11)
  else if kindOk (kindOf e) d then .tok 2 (Bv.wrp (kindOf e) (wrap64 (numVal d))) (kindOf e) (a + b) else .bad 11

def nameTok (l : List UInt8) : Tok :=
  let b := spn word l
  if (look (l.take b)).isSome then .tok 3 0 0 b else if 40 < b then .bad 2 else .tok 1 0 0 b

def signTok (l : List UInt8) : Tok :=
  let k := signW (pk l 0) (pk l 1)
  if k = 0 then .bad 10 else .tok 4 0 0 k

/-- the token that begins a text -/
def tokAt (l : List UInt8) : Tok :=
  match l with
  | [] => .tok 5 0 0 0
  | c :: _ => if digit c then numTok l else if word c then nameTok l else signTok l

structure Tk where
  kind : Int
  text : List UInt8
  n : Int
  t : Int
  at_ : Nat
deriving DecidableEq

/-- the tokens, or the place and what is wrong -/
inductive Res where
  | ok (l : List Tk)
  | err (at_ : Nat) (e : Int)
deriving DecidableEq

def Res.pre (x : Tk) : Res → Res
  | .ok l => .ok (x :: l)
  | .err a e => .err a e

/-- the tokens of a text that begins at a place, if there is room for so many -/
def toks : Nat → List UInt8 → Nat → Nat → Res
  | 0, _, at_, _ => .err at_ 0
  | f + 1, l, at_, room =>
    match tokAt (l.drop (skp false l)) with
    | .bad e => .err (at_ + skp false l) e
    | .tok kd n t len =>
      if room = 0 then .err (at_ + skp false l) 2
      else if kd = 5 then .ok [⟨5, [], 0, 0, at_ + skp false l⟩]
      else (toks f ((l.drop (skp false l)).drop len) (at_ + skp false l + len) (room - 1)).pre ⟨kd, (l.drop (skp false l)).take len, n, t, at_ + skp false l⟩

/-- the tokens of a text -/
def tokens (l : List UInt8) : Res := if 65536 < l.length then .err 0 2 else toks (l.length + 1) l 0 20000

/-! how far rows of bytes go -/
theorem spn_le (p : UInt8 → Bool) (l : List UInt8) : spn p l ≤ l.length := by
  unfold spn; exact (List.takeWhile_sublist p).length_le
theorem spn_end (p : UInt8 → Bool) {l : List UInt8} {j : Nat} (h : l.length ≤ j) : spn p (l.drop j) = 0 := by
  rw [List.drop_eq_nil_of_le h]; rfl
theorem spn_step {p : UInt8 → Bool} {l : List UInt8} {j : Nat} (h : j < l.length) (hp : p l[j] = true) : spn p (l.drop j) = spn p (l.drop (j + 1)) + 1 := by
  unfold spn; rw [List.drop_eq_getElem_cons h, List.takeWhile_cons, if_pos hp, List.length_cons]
theorem spn_stop {p : UInt8 → Bool} {l : List UInt8} {j : Nat} (h : j < l.length) (hp : p l[j] = false) : spn p (l.drop j) = 0 := by
  unfold spn; rw [List.drop_eq_getElem_cons h, List.takeWhile_cons, if_neg (by simp [hp])]; rfl

theorem skp_le : ∀ (b : Bool) (l : List UInt8), skp b l ≤ l.length
  | b, [] => by cases b <;> simp [skp]
  | true, c :: r => by
    have h1 := skp_le true r; have h2 := skp_le false r
    simp only [skp, List.length_cons]; split <;> omega
  | false, c :: r => by
    have h1 := skp_le true r; have h2 := skp_le false r
    simp only [skp, List.length_cons]
    repeat' split
    all_goals omega

theorem skp_line : ∀ l : List UInt8, skp true l = spn inLine l + skp false (l.drop (spn inLine l))
  | [] => rfl
  | c :: r => by
    by_cases h : c.toNat = 10
    · have hi : inLine c = false := by simp [inLine, h]
      have hb : blank c = true := by simp [blank, h]
      simp [skp, h, spn, hi, hb]
    · have hi : inLine c = true := by simp [inLine, h]
      have ih := skp_line r
      have e : spn inLine (c :: r) = spn inLine r + 1 := by simp [spn, hi]
      rw [e]
      simp only [skp, h, if_false, List.drop_succ_cons]
      omega

theorem skp_blank {l : List UInt8} {j : Nat} (h : j < l.length) (hb : blank l[j] = true) : skp false (l.drop j) = skp false (l.drop (j + 1)) + 1 := by
  rw [List.drop_eq_getElem_cons h]; simp [skp, hb]
theorem pk_eq {l : List UInt8} {j : Nat} (h : j < l.length) : pk l j = l[j].toNat := by simp [pk, h]
theorem pk_ge {l : List UInt8} {j : Nat} (h : l.length ≤ j) : pk l j = 0 := by simp [pk, h]
theorem pk_drop (l : List UInt8) (i j : Nat) : pk (l.drop i) j = pk l (i + j) := by simp [pk]
theorem head_pk (l : List UInt8) (j : Nat) : (l.drop j).head?.map (·.toNat) = some 45 ↔ pk l j = 45 := by
  rw [List.head?_drop]
  unfold pk
  cases l[j]? <;> simp
theorem skp_comment {l : List UInt8} {j : Nat} (h : j < l.length) (hb : blank l[j] = false) (h1 : pk l j = 45) (h2 : pk l (j + 1) = 45) : skp false (l.drop j) = spn inLine (l.drop j) + skp false (l.drop (j + spn inLine (l.drop j))) := by
  have e : skp false (l.drop j) = skp true (l.drop j) := by
    rw [pk_eq h] at h1
    have h3 := (head_pk l (j + 1)).2 h2
    rw [List.drop_eq_getElem_cons h]
    unfold skp; rw [if_neg (by simp [hb]), if_pos ⟨h1, h3⟩, if_neg (by omega)]
  rw [e, skp_line, List.drop_drop]
theorem skp_stop {l : List UInt8} {j : Nat} (h : j < l.length) (hb : blank l[j] = false) (h1 : ¬ (pk l j = 45 ∧ pk l (j + 1) = 45)) : skp false (l.drop j) = 0 := by
  rw [pk_eq h, ← head_pk] at h1
  rw [List.drop_eq_getElem_cons h]
  unfold skp; rw [if_neg (by simp [hb]), if_neg h1]
theorem skp_end {l : List UInt8} {j : Nat} (h : l.length ≤ j) : skp false (l.drop j) = 0 := by
  rw [List.drop_eq_nil_of_le h]; rfl
theorem spn_inLine_pos {l : List UInt8} {j : Nat} (h : j < l.length) (h1 : pk l j = 45) : 0 < spn inLine (l.drop j) := by
  rw [pk_eq h] at h1
  rw [spn_step h (by simp [inLine, h1])]
  omega
end Go.Proofs.YtbiplgidlmbbkaaDoor.Lex
