/- Plain: the texts that NamesOrder makes: what their tokens, nodes and check are. -/
import Derived.Test.YtonafedbehnneaaGreatMhB
import Derived.Test.YtonafedbehnneaaGreatMhI
import Derived.KernelRfl
namespace Go.Proofs.YtonafedbehnneaaGreat.Ord
open Go.RowKit

def dg (i : Nat) : UInt8 := UInt8.ofNat (48 + i)
def bh : List UInt8 := [40, 120, 58, 32, 105, 56, 41, 32, 114, 101, 116, 117, 114, 110, 115, 32, 40, 121, 58, 32, 105, 56, 41, 32, 108, 101, 116, 32, 121, 32, 61, 32]
/-- what stands behind the equality sign -/
def val (c : Option Nat) : List UInt8 := match c with | none => [120] | some j => [110, dg j, 40, 120, 41]
/-- a node's text; c: the node that it calls -/
def body (i : Nat) (c : Option Nat) : List UInt8 := [110, 111, 100, 101, 32, 110, dg i] ++ (bh ++ (val c ++ [59, 32, 116, 101, 108]))
def wd (c : Option Nat) : Nat := match c with | none => 45 | some _ => 49
def nt (c : Option Nat) : Nat := match c with | none => 19 | some _ => 22
def tks (i : Nat) (c : Option Nat) (a : Nat) : List Lex.Tk :=
 [⟨3, [110, 111, 100, 101], 0, 0, a⟩, ⟨1, [110, dg i], 0, 0, a + 5⟩, ⟨4, [40], 0, 0, a + 7⟩, ⟨1, [120], 0, 0, a + 8⟩, ⟨4, [58], 0, 0, a + 9⟩, ⟨3, [105, 56], 0, 0, a + 11⟩, ⟨4, [41], 0, 0, a + 13⟩, ⟨3, [114, 101, 116, 117, 114, 110, 115], 0, 0, a + 15⟩, ⟨4, [40], 0, 0, a + 23⟩, ⟨1, [121], 0, 0, a + 24⟩, ⟨4, [58], 0, 0, a + 25⟩, ⟨3, [105, 56], 0, 0, a + 27⟩, ⟨4, [41], 0, 0, a + 29⟩, ⟨3, [108, 101, 116], 0, 0, a + 31⟩, ⟨1, [121], 0, 0, a + 35⟩, ⟨4, [61], 0, 0, a + 37⟩] ++
 match c with
 | none => [⟨1, [120], 0, 0, a + 39⟩, ⟨4, [59], 0, 0, a + 40⟩, ⟨3, [116, 101, 108], 0, 0, a + 42⟩]
 | some j => [⟨1, [110, dg j], 0, 0, a + 39⟩, ⟨4, [40], 0, 0, a + 41⟩, ⟨1, [120], 0, 0, a + 42⟩, ⟨4, [41], 0, 0, a + 43⟩, ⟨4, [59], 0, 0, a + 44⟩, ⟨3, [116, 101, 108], 0, 0, a + 46⟩]
def pres (l : List Lex.Tk) (r : Lex.Res) : Lex.Res := l.foldr Lex.Res.pre r
theorem pres_ok (l T : List Lex.Tk) : pres l (.ok T) = .ok (l ++ T) := by
 induction l with
 | nil => rfl
 | cons x r ih => show Lex.Res.pre x (pres r (.ok T)) = _; rw [ih]; rfl
theorem dig {P : Nat → Prop} (h0 : P 0) (h1 : P 1) (h2 : P 2) (h3 : P 3) (h4 : P 4) (h5 : P 5) (h6 : P 6) (h7 : P 7) (h8 : P 8) (h9 : P 9) (i : Nat) (hi : i < 10) : P i := by
 rcases i with _ | _ | _ | _ | _ | _ | _ | _ | _ | _ | i <;> first | assumption | omega
theorem chunkN (i : Nat) (hi : i < 10) (f a room : Nat) (r : List UInt8) : Lex.toks (f + 19) (10 :: (body i none ++ 10 :: r)) a (room + 19) = pres (tks i none (a + 1)) (Lex.toks f (10 :: r) (a + 1 + 45) room) := by
 revert i
 exact dig (by kernel_rfl) (by kernel_rfl) (by kernel_rfl) (by kernel_rfl) (by kernel_rfl) (by kernel_rfl) (by kernel_rfl) (by kernel_rfl) (by kernel_rfl) (by kernel_rfl)
theorem chunkC (i : Nat) (hi : i < 10) (j : Nat) (hj : j < 10) (f a room : Nat) (r : List UInt8) : Lex.toks (f + 22) (10 :: (body i (some j) ++ 10 :: r)) a (room + 22) = pres (tks i (some j) (a + 1)) (Lex.toks f (10 :: r) (a + 1 + 49) room) := by
 revert i j
 intro i hi
 revert i
 refine dig ?_ ?_ ?_ ?_ ?_ ?_ ?_ ?_ ?_ ?_
 all_goals exact dig (by kernel_rfl) (by kernel_rfl) (by kernel_rfl) (by kernel_rfl) (by kernel_rfl) (by kernel_rfl) (by kernel_rfl) (by kernel_rfl) (by kernel_rfl) (by kernel_rfl)
theorem chunk0N (f a room : Nat) (r : List UInt8) : Lex.toks (f + 19) (body 0 none ++ 10 :: r) a (room + 19) = pres (tks 0 none a) (Lex.toks f (10 :: r) (a + 45) room) := by kernel_rfl
theorem chunk0C (j : Nat) (hj : j < 10) (f a room : Nat) (r : List UInt8) : Lex.toks (f + 22) (body 0 (some j) ++ 10 :: r) a (room + 22) = pres (tks 0 (some j) a) (Lex.toks f (10 :: r) (a + 49) room) := by
 revert j
 exact dig (by kernel_rfl) (by kernel_rfl) (by kernel_rfl) (by kernel_rfl) (by kernel_rfl) (by kernel_rfl) (by kernel_rfl) (by kernel_rfl) (by kernel_rfl) (by kernel_rfl)
section
variable (fr to : Nat)
def cc (k : Nat) : Option Nat := if k = fr then some to else none
/-- the texts of m nodes from the k-th on -/
def suf : Nat → Nat → List UInt8
 | _, 0 => []
 | k, m + 1 => body k (cc fr to k) ++ 10 :: suf (k + 1) m
def sufT : Nat → Nat → Nat → List Lex.Tk
 | _, 0, a => [⟨5, [], 0, 0, a⟩]
 | k, m + 1, a => tks k (cc fr to k) a ++ sufT (k + 1) m (a + wd (cc fr to k) + 1)
theorem chunk (ht : to < 10) (k : Nat) (hk : k < 10) (f a room : Nat) (r : List UInt8) : Lex.toks (f + nt (cc fr to k)) (10 :: (body k (cc fr to k) ++ 10 :: r)) a (room + nt (cc fr to k)) = pres (tks k (cc fr to k) (a + 1)) (Lex.toks f (10 :: r) (a + 1 + wd (cc fr to k)) room) := by
 unfold cc
 split
 ·exact chunkC k hk to ht f a room r
 ·exact chunkN k hk f a room r
theorem chunk0 (ht : to < 10) (f a room : Nat) (r : List UInt8) : Lex.toks (f + nt (cc fr to 0)) (body 0 (cc fr to 0) ++ 10 :: r) a (room + nt (cc fr to 0)) = pres (tks 0 (cc fr to 0) a) (Lex.toks f (10 :: r) (a + wd (cc fr to 0)) room) := by
 unfold cc
 split
 ·exact chunk0C to ht f a room r
 ·exact chunk0N f a room r
theorem nt_le (c : Option Nat) : nt c ≤ 22 := by cases c <;> simp [nt]
theorem wd_ge (c : Option Nat) : 45 ≤ wd c ∧ wd c ≤ 49 := by cases c <;> simp [wd]
theorem body_len (k : Nat) (c : Option Nat) : (body k c).length = wd c := by cases c <;> simp [body, bh, val, wd]
theorem lexed (ht : to < 10) : ∀ (m k a f room : Nat), k + m ≤ 10 → 22 * m + 1 ≤ f → 22 * m + 1 ≤ room → Lex.toks f (10 :: suf fr to k m) a room = .ok (sufT fr to k m (a + 1))
 | 0, k, a, f, room, _, hf, hr => by
  obtain ⟨f, rfl⟩ : ∃ g, f = g + 1 := ⟨f - 1, by omega⟩
  obtain ⟨room, rfl⟩ : ∃ g, room = g + 1 := ⟨room - 1, by omega⟩
  rfl
 | m + 1, k, a, f, room, hk, hf, hr => by
  have hn := nt_le (cc fr to k)
  obtain ⟨f, rfl⟩ : ∃ g, f = g + nt (cc fr to k) := ⟨f - nt (cc fr to k), by omega⟩
  obtain ⟨room, rfl⟩ : ∃ g, room = g + nt (cc fr to k) := ⟨room - nt (cc fr to k), by omega⟩
  show Lex.toks _ (10 :: (body k (cc fr to k) ++ 10 :: suf fr to (k + 1) m)) a _ = _
  rw [chunk fr to ht k (by omega), lexed ht m (k + 1) _ f room (by omega) (by omega) (by omega), pres_ok]
  show _ = Lex.Res.ok (tks k (cc fr to k) (a + 1) ++ sufT fr to (k + 1) m (a + 1 + wd (cc fr to k) + 1))
  rfl
theorem suf_len : ∀ m k, (suf fr to k m).length ≤ 50 * m ∧ 46 * m ≤ (suf fr to k m).length
 | 0, k => by simp [suf]
 | m + 1, k => by
  have h1 := suf_len m (k + 1)
  have h2 := wd_ge (cc fr to k)
  simp only [suf, List.length_append, List.length_cons, body_len]
  omega
theorem tokens_suf (ht : to < 10) (m : Nat) (hm : m + 1 ≤ 10) : Lex.tokens (suf fr to 0 (m + 1)) = .ok (sufT fr to 0 (m + 1) 0) := by
 have hl := suf_len fr to (m + 1) 0
 unfold Lex.tokens
 rw [if_neg (by omega)]
 have hn := nt_le (cc fr to 0)
 obtain ⟨f, hf⟩ : ∃ g, (suf fr to 0 (m + 1)).length + 1 = g + nt (cc fr to 0) := ⟨(suf fr to 0 (m + 1)).length + 1 - nt (cc fr to 0), by omega⟩
 obtain ⟨room, hr⟩ : ∃ g, 20000 = g + nt (cc fr to 0) := ⟨20000 - nt (cc fr to 0), by omega⟩
 rw [hf, hr]
 show Lex.toks _ (body 0 (cc fr to 0) ++ 10 :: suf fr to 1 m) 0 _ = _
 rw [chunk0 fr to ht, lexed fr to ht m 1 _ f room (by omega) (by omega) (by omega), pres_ok]
 show _ = Lex.Res.ok (tks 0 (cc fr to 0) 0 ++ sufT fr to (0 + 1) m (0 + wd (cc fr to 0) + 1))
 rfl
/-- a node -/
def nd (k : Nat) (c : Option Nat) (a : Nat) : Gram.Node := ⟨[110, dg k], [⟨[120], 2, 0, [], ((a + 8 : Nat) : Int)⟩], [⟨[121], 2, 0, [], ((a + 24 : Nat) : Int)⟩], [], [.mk [[121]] (match c with | none => .mk 2 0 [120] 0 0 0 0 [] ((a + 39 : Nat) : Int) | some j => .mk 13 0 [110, dg j] 0 0 0 0 [.mk 2 0 [120] 0 0 0 0 [] ((a + 42 : Nat) : Int)] ((a + 39 : Nat) : Int)) [] ((a + 35 : Nat) : Int)], (a : Int)⟩
def sufN : Nat → Nat → Nat → List Gram.Node
 | _, 0, _ => []
 | k, m + 1, a => nd k (cc fr to k) a :: sufN (k + 1) m (a + wd (cc fr to k) + 1)
end
def Pr (fr to n : Nat) : Prop := Gram.Rf.nodes (sufT fr to 0 n 0) (20 * (sufT fr to 0 n 0).length + 100) [] ⟨0, 0, 0, 0⟩ = some (sufN fr to 0 n 0, ⟨(sufT fr to 0 n 0).length - 1, 0, 0, 0⟩)
theorem pr_of {fr to n : Nat} (h : Gram.Rf.nodes (sufT fr to 0 n 0) (20 * (sufT fr to 0 n 0).length + 100) [] ⟨0, 0, 0, 0⟩ = some (sufN fr to 0 n 0, ⟨(sufT fr to 0 n 0).length - 1, 0, 0, 0⟩)) : fr < n → Pr fr to n := fun _ => h
theorem nl {k j : Nat} {p : Prop} (h : decide (k < j) = false) : k < j → p := fun e => absurd e (of_decide_eq_false h)
theorem pr1 (to fr : Nat) (h : fr < 10) : fr < 1 → Pr fr to 1 :=
 dig (P := fun x => x < 1 → Pr x to 1) (pr_of (by kernel_rfl)) (nl rfl) (nl rfl) (nl rfl) (nl rfl) (nl rfl) (nl rfl) (nl rfl) (nl rfl) (nl rfl) fr h
theorem pr2 (to fr : Nat) (h : fr < 10) : fr < 2 → Pr fr to 2 :=
 dig (P := fun x => x < 2 → Pr x to 2) (pr_of (by kernel_rfl)) (pr_of (by kernel_rfl)) (nl rfl) (nl rfl) (nl rfl) (nl rfl) (nl rfl) (nl rfl) (nl rfl) (nl rfl) fr h
theorem pr3 (to fr : Nat) (h : fr < 10) : fr < 3 → Pr fr to 3 :=
 dig (P := fun x => x < 3 → Pr x to 3) (pr_of (by kernel_rfl)) (pr_of (by kernel_rfl)) (pr_of (by kernel_rfl)) (nl rfl) (nl rfl) (nl rfl) (nl rfl) (nl rfl) (nl rfl) (nl rfl) fr h
theorem pr4 (to fr : Nat) (h : fr < 10) : fr < 4 → Pr fr to 4 :=
 dig (P := fun x => x < 4 → Pr x to 4) (pr_of (by kernel_rfl)) (pr_of (by kernel_rfl)) (pr_of (by kernel_rfl)) (pr_of (by kernel_rfl)) (nl rfl) (nl rfl) (nl rfl) (nl rfl) (nl rfl) (nl rfl) fr h
theorem pr5 (to fr : Nat) (h : fr < 10) : fr < 5 → Pr fr to 5 :=
 dig (P := fun x => x < 5 → Pr x to 5) (pr_of (by kernel_rfl)) (pr_of (by kernel_rfl)) (pr_of (by kernel_rfl)) (pr_of (by kernel_rfl)) (pr_of (by kernel_rfl)) (nl rfl) (nl rfl) (nl rfl) (nl rfl) (nl rfl) fr h
theorem pr6 (to fr : Nat) (h : fr < 10) : fr < 6 → Pr fr to 6 :=
 dig (P := fun x => x < 6 → Pr x to 6) (pr_of (by kernel_rfl)) (pr_of (by kernel_rfl)) (pr_of (by kernel_rfl)) (pr_of (by kernel_rfl)) (pr_of (by kernel_rfl)) (pr_of (by kernel_rfl)) (nl rfl) (nl rfl) (nl rfl) (nl rfl) fr h
theorem pr7 (to fr : Nat) (h : fr < 10) : fr < 7 → Pr fr to 7 :=
 dig (P := fun x => x < 7 → Pr x to 7) (pr_of (by kernel_rfl)) (pr_of (by kernel_rfl)) (pr_of (by kernel_rfl)) (pr_of (by kernel_rfl)) (pr_of (by kernel_rfl)) (pr_of (by kernel_rfl)) (pr_of (by kernel_rfl)) (nl rfl) (nl rfl) (nl rfl) fr h
theorem pr8 (to fr : Nat) (h : fr < 10) : fr < 8 → Pr fr to 8 :=
 dig (P := fun x => x < 8 → Pr x to 8) (pr_of (by kernel_rfl)) (pr_of (by kernel_rfl)) (pr_of (by kernel_rfl)) (pr_of (by kernel_rfl)) (pr_of (by kernel_rfl)) (pr_of (by kernel_rfl)) (pr_of (by kernel_rfl)) (pr_of (by kernel_rfl)) (nl rfl) (nl rfl) fr h
theorem pr9 (to fr : Nat) (h : fr < 10) : fr < 9 → Pr fr to 9 :=
 dig (P := fun x => x < 9 → Pr x to 9) (pr_of (by kernel_rfl)) (pr_of (by kernel_rfl)) (pr_of (by kernel_rfl)) (pr_of (by kernel_rfl)) (pr_of (by kernel_rfl)) (pr_of (by kernel_rfl)) (pr_of (by kernel_rfl)) (pr_of (by kernel_rfl)) (pr_of (by kernel_rfl)) (nl rfl) fr h
theorem nl' (fr : Nat) {p : Prop} : fr < 0 → p := fun e => absurd e (Nat.not_lt_zero _)
theorem parsed (n fr to : Nat) (h9 : n < 10) : fr < 10 → fr < n → Pr fr to n :=
 dig (P := fun x => fr < 10 → fr < x → Pr fr to x) (fun _ => nl' fr) (pr1 to fr) (pr2 to fr) (pr3 to fr) (pr4 to fr) (pr5 to fr) (pr6 to fr) (pr7 to fr) (pr8 to fr) (pr9 to fr) n h9
theorem parse_suf (n fr to : Nat) (h1 : 1 ≤ n) (h9 : n ≤ 9) (hf : fr < n) (ht : to < 10) : Gram.Rf.parse (suf fr to 0 n) = .ok (sufN fr to 0 n 0) := by
 obtain ⟨m, rfl⟩ : ∃ m, n = m + 1 := ⟨n - 1, by omega⟩
 have h := parsed (m + 1) fr to (by omega) (by omega) hf
 unfold Pr at h
 unfold Gram.Rf.parse
 rw [tokens_suf fr to ht m (by omega)]
 simp only [h]
 rfl
/-- the names that are there ahead of the k-th node -/
def stt (k : Nat) : Nam.St := ⟨(List.range k).map fun i => [110, dg i], [], [], 3 * k⟩
theorem plainOk (k : Nat) (hk : k < 10) (a : Nat) : Nam.node 60 (nd k none a) (stt k) = some ((0, 0), (stt (k + 1), some [[121]])) := by
 revert k
 exact dig (by kernel_rfl) (by kernel_rfl) (by kernel_rfl) (by kernel_rfl) (by kernel_rfl) (by kernel_rfl) (by kernel_rfl) (by kernel_rfl) (by kernel_rfl) (by kernel_rfl)
def CK (k j : Nat) : Prop := ∀ a, Nam.node 60 (nd k (some j) a) (stt k) = some ((0, 0), (stt (k + 1), some [[121]]))
def CB (k j : Nat) : Prop := ∀ a : Nat, (Nam.node 60 (nd k (some j) a) (stt k)).map (fun x => x.1) = some (((a + 39 : Nat) : Int), 21)
theorem ckf {k j : Nat} (h : ∀ a, Nam.node 60 (nd k (some j) a) (stt k) = some ((0, 0), (stt (k + 1), some [[121]]))) : j < k → CK k j := fun _ => h
theorem cbf {k j : Nat} (h : ∀ a : Nat, (Nam.node 60 (nd k (some j) a) (stt k)).map (fun x => x.1) = some (((a + 39 : Nat) : Int), 21)) : ¬ j < k → CB k j := fun _ => h
theorem nn {k j : Nat} {p : Prop} (h : decide (k < j) = true) : ¬ k < j → p := fun e => absurd (of_decide_eq_true h) e
theorem ck1 (j : Nat) (h : j < 10) : j < 1 → CK 1 j :=
 dig (P := fun x => x < 1 → CK 1 x) (ckf fun a => by kernel_rfl) (nl rfl) (nl rfl) (nl rfl) (nl rfl) (nl rfl) (nl rfl) (nl rfl) (nl rfl) (nl rfl) j h
theorem ck2 (j : Nat) (h : j < 10) : j < 2 → CK 2 j :=
 dig (P := fun x => x < 2 → CK 2 x) (ckf fun a => by kernel_rfl) (ckf fun a => by kernel_rfl) (nl rfl) (nl rfl) (nl rfl) (nl rfl) (nl rfl) (nl rfl) (nl rfl) (nl rfl) j h
theorem ck3 (j : Nat) (h : j < 10) : j < 3 → CK 3 j :=
 dig (P := fun x => x < 3 → CK 3 x) (ckf fun a => by kernel_rfl) (ckf fun a => by kernel_rfl) (ckf fun a => by kernel_rfl) (nl rfl) (nl rfl) (nl rfl) (nl rfl) (nl rfl) (nl rfl) (nl rfl) j h
theorem ck4 (j : Nat) (h : j < 10) : j < 4 → CK 4 j :=
 dig (P := fun x => x < 4 → CK 4 x) (ckf fun a => by kernel_rfl) (ckf fun a => by kernel_rfl) (ckf fun a => by kernel_rfl) (ckf fun a => by kernel_rfl) (nl rfl) (nl rfl) (nl rfl) (nl rfl) (nl rfl) (nl rfl) j h
theorem ck5 (j : Nat) (h : j < 10) : j < 5 → CK 5 j :=
 dig (P := fun x => x < 5 → CK 5 x) (ckf fun a => by kernel_rfl) (ckf fun a => by kernel_rfl) (ckf fun a => by kernel_rfl) (ckf fun a => by kernel_rfl) (ckf fun a => by kernel_rfl) (nl rfl) (nl rfl) (nl rfl) (nl rfl) (nl rfl) j h
theorem ck6 (j : Nat) (h : j < 10) : j < 6 → CK 6 j :=
 dig (P := fun x => x < 6 → CK 6 x) (ckf fun a => by kernel_rfl) (ckf fun a => by kernel_rfl) (ckf fun a => by kernel_rfl) (ckf fun a => by kernel_rfl) (ckf fun a => by kernel_rfl) (ckf fun a => by kernel_rfl) (nl rfl) (nl rfl) (nl rfl) (nl rfl) j h
theorem ck7 (j : Nat) (h : j < 10) : j < 7 → CK 7 j :=
 dig (P := fun x => x < 7 → CK 7 x) (ckf fun a => by kernel_rfl) (ckf fun a => by kernel_rfl) (ckf fun a => by kernel_rfl) (ckf fun a => by kernel_rfl) (ckf fun a => by kernel_rfl) (ckf fun a => by kernel_rfl) (ckf fun a => by kernel_rfl) (nl rfl) (nl rfl) (nl rfl) j h
theorem ck8 (j : Nat) (h : j < 10) : j < 8 → CK 8 j :=
 dig (P := fun x => x < 8 → CK 8 x) (ckf fun a => by kernel_rfl) (ckf fun a => by kernel_rfl) (ckf fun a => by kernel_rfl) (ckf fun a => by kernel_rfl) (ckf fun a => by kernel_rfl) (ckf fun a => by kernel_rfl) (ckf fun a => by kernel_rfl) (ckf fun a => by kernel_rfl) (nl rfl) (nl rfl) j h
theorem ck9 (j : Nat) (h : j < 10) : j < 9 → CK 9 j :=
 dig (P := fun x => x < 9 → CK 9 x) (ckf fun a => by kernel_rfl) (ckf fun a => by kernel_rfl) (ckf fun a => by kernel_rfl) (ckf fun a => by kernel_rfl) (ckf fun a => by kernel_rfl) (ckf fun a => by kernel_rfl) (ckf fun a => by kernel_rfl) (ckf fun a => by kernel_rfl) (ckf fun a => by kernel_rfl) (nl rfl) j h
theorem cb0 (j : Nat) (h : j < 10) : ¬ j < 0 → CB 0 j :=
 dig (P := fun x => ¬ x < 0 → CB 0 x) (cbf fun a => by kernel_rfl) (cbf fun a => by kernel_rfl) (cbf fun a => by kernel_rfl) (cbf fun a => by kernel_rfl) (cbf fun a => by kernel_rfl) (cbf fun a => by kernel_rfl) (cbf fun a => by kernel_rfl) (cbf fun a => by kernel_rfl) (cbf fun a => by kernel_rfl) (cbf fun a => by kernel_rfl) j h
theorem cb1 (j : Nat) (h : j < 10) : ¬ j < 1 → CB 1 j :=
 dig (P := fun x => ¬ x < 1 → CB 1 x) (nn rfl) (cbf fun a => by kernel_rfl) (cbf fun a => by kernel_rfl) (cbf fun a => by kernel_rfl) (cbf fun a => by kernel_rfl) (cbf fun a => by kernel_rfl) (cbf fun a => by kernel_rfl) (cbf fun a => by kernel_rfl) (cbf fun a => by kernel_rfl) (cbf fun a => by kernel_rfl) j h
theorem cb2 (j : Nat) (h : j < 10) : ¬ j < 2 → CB 2 j :=
 dig (P := fun x => ¬ x < 2 → CB 2 x) (nn rfl) (nn rfl) (cbf fun a => by kernel_rfl) (cbf fun a => by kernel_rfl) (cbf fun a => by kernel_rfl) (cbf fun a => by kernel_rfl) (cbf fun a => by kernel_rfl) (cbf fun a => by kernel_rfl) (cbf fun a => by kernel_rfl) (cbf fun a => by kernel_rfl) j h
theorem cb3 (j : Nat) (h : j < 10) : ¬ j < 3 → CB 3 j :=
 dig (P := fun x => ¬ x < 3 → CB 3 x) (nn rfl) (nn rfl) (nn rfl) (cbf fun a => by kernel_rfl) (cbf fun a => by kernel_rfl) (cbf fun a => by kernel_rfl) (cbf fun a => by kernel_rfl) (cbf fun a => by kernel_rfl) (cbf fun a => by kernel_rfl) (cbf fun a => by kernel_rfl) j h
theorem cb4 (j : Nat) (h : j < 10) : ¬ j < 4 → CB 4 j :=
 dig (P := fun x => ¬ x < 4 → CB 4 x) (nn rfl) (nn rfl) (nn rfl) (nn rfl) (cbf fun a => by kernel_rfl) (cbf fun a => by kernel_rfl) (cbf fun a => by kernel_rfl) (cbf fun a => by kernel_rfl) (cbf fun a => by kernel_rfl) (cbf fun a => by kernel_rfl) j h
theorem cb5 (j : Nat) (h : j < 10) : ¬ j < 5 → CB 5 j :=
 dig (P := fun x => ¬ x < 5 → CB 5 x) (nn rfl) (nn rfl) (nn rfl) (nn rfl) (nn rfl) (cbf fun a => by kernel_rfl) (cbf fun a => by kernel_rfl) (cbf fun a => by kernel_rfl) (cbf fun a => by kernel_rfl) (cbf fun a => by kernel_rfl) j h
theorem cb6 (j : Nat) (h : j < 10) : ¬ j < 6 → CB 6 j :=
 dig (P := fun x => ¬ x < 6 → CB 6 x) (nn rfl) (nn rfl) (nn rfl) (nn rfl) (nn rfl) (nn rfl) (cbf fun a => by kernel_rfl) (cbf fun a => by kernel_rfl) (cbf fun a => by kernel_rfl) (cbf fun a => by kernel_rfl) j h
theorem cb7 (j : Nat) (h : j < 10) : ¬ j < 7 → CB 7 j :=
 dig (P := fun x => ¬ x < 7 → CB 7 x) (nn rfl) (nn rfl) (nn rfl) (nn rfl) (nn rfl) (nn rfl) (nn rfl) (cbf fun a => by kernel_rfl) (cbf fun a => by kernel_rfl) (cbf fun a => by kernel_rfl) j h
theorem cb8 (j : Nat) (h : j < 10) : ¬ j < 8 → CB 8 j :=
 dig (P := fun x => ¬ x < 8 → CB 8 x) (nn rfl) (nn rfl) (nn rfl) (nn rfl) (nn rfl) (nn rfl) (nn rfl) (nn rfl) (cbf fun a => by kernel_rfl) (cbf fun a => by kernel_rfl) j h
theorem callOk (k : Nat) (hk : k < 10) (j : Nat) : j < 10 → j < k → CK k j :=
 dig (P := fun x => j < 10 → j < x → CK x j) (fun _ => nl' j) (ck1 j) (ck2 j) (ck3 j) (ck4 j) (ck5 j) (ck6 j) (ck7 j) (ck8 j) (ck9 j) k hk
theorem callBad (k : Nat) (hk : k < 9) (j : Nat) (hj : j < 10) (h : ¬ j < k) : CB k j := by
 rcases k with _ | _ | _ | _ | _ | _ | _ | _ | _ | k
 ·exact cb0 j hj h
 ·exact cb1 j hj h
 ·exact cb2 j hj h
 ·exact cb3 j hj h
 ·exact cb4 j hj h
 ·exact cb5 j hj h
 ·exact cb6 j hj h
 ·exact cb7 j hj h
 ·exact cb8 j hj h
 ·omega
section
variable (fr to : Nat)
theorem nodes_plain : ∀ (m k a : Nat), k + m ≤ 9 → (fr < k ∨ k + m ≤ fr) → Nam.nodes 60 (sufN fr to k m a) (stt k) = some (0, 0)
 | 0, k, a, _, _ => rfl
 | m + 1, k, a, hk, hf => by
  have hc : cc fr to k = none := by unfold cc; rw [if_neg (by omega)]
  show Nam.nodes 60 (nd k (cc fr to k) a :: sufN fr to (k + 1) m (a + wd (cc fr to k) + 1)) (stt k) = _
  unfold Nam.nodes
  rw [hc, plainOk k (by omega) a]
  exact nodes_plain m (k + 1) _ (by omega) (by omega)
theorem nodes_any (ht : to < 10) : ∀ (m k a : Nat), k + m ≤ 9 → k ≤ fr → fr < k + m → Nam.nodes 60 (sufN fr to k m a) (stt k) = some (if to < fr then (0, 0) else (((a + 46 * (fr - k) + 39 : Nat) : Int), 21))
 | 0, k, a, _, h1, h2 => by omega
 | m + 1, k, a, hk, h1, h2 => by
  show Nam.nodes 60 (nd k (cc fr to k) a :: sufN fr to (k + 1) m (a + wd (cc fr to k) + 1)) (stt k) = _
  unfold Nam.nodes
  by_cases hf : k = fr
  ·subst hf
   have hc : cc k to k = some to := by unfold cc; rw [if_pos rfl]
   rw [hc]
   by_cases hj : to < k
   ·rw [callOk k (by omega) to ht hj a, if_pos hj]
    exact nodes_plain k to m (k + 1) _ (by omega) (by omega)
   ·rw [if_neg hj]
    have hb := callBad k (by omega) to ht hj a
    cases hx : Nam.node 60 (nd k (some to) a) (stt k) with
    | none => rw [hx] at hb; cases hb
    | some x =>
     rw [hx] at hb
     have e : x.1 = (((a + 39 : Nat) : Int), 21) := Option.some.inj hb
     simp only
     rw [if_neg (by rw [e]; show ¬ (21 : Int) = 0; decide), e, show a + 46 * (k - k) + 39 = a + 39 from by omega]
  ·have hc : cc fr to k = none := by unfold cc; rw [if_neg hf]
   rw [hc, plainOk k (by omega) a]
   have h := nodes_any ht m (k + 1) (a + wd none + 1) (by omega) (by omega) (by omega)
   rw [show a + wd none + 1 + 46 * (fr - (k + 1)) + 39 = a + 46 * (fr - k) + 39 from by simp only [wd]; omega] at h
   exact h
theorem check_suf (n : Nat) (h1 : 1 ≤ n) (h9 : n ≤ 9) (hf : fr < n) (ht : to < 10) : Nam.check (sufN fr to 0 n 0) = some (if to < fr then (0, 0) else (((46 * fr + 39 : Nat) : Int), 21)) := by
 have h := nodes_any fr to ht n 0 0 (by omega) (by omega) (by omega)
 rw [show 0 + 46 * (fr - 0) + 39 = 46 * fr + 39 from by omega] at h
 exact h
/-- rows laid from behind -/
theorem suf_snoc : ∀ (m k : Nat), suf fr to k (m + 1) = suf fr to k m ++ (body (k + m) (cc fr to (k + m)) ++ [10])
 | 0, k => by simp [suf]
 | m + 1, k => by
  show body k (cc fr to k) ++ 10 :: suf fr to (k + 1) (m + 1) = (body k (cc fr to k) ++ 10 :: suf fr to (k + 1) m) ++ _
  rw [suf_snoc m (k + 1), show k + 1 + m = k + (m + 1) from by omega]
  simp
end
end Go.Proofs.YtonafedbehnneaaGreat.Ord
