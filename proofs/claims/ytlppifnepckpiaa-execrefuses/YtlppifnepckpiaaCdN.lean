/- The plain mathematics of code's Check (chapter 19): what the stack's kinds are, and what is wrong first; no program in sight. -/
import Derived.Test.YtlppifnepckpiaaCdM
import Derived.Test.YtlppifnepckpiaaBvM
namespace Go.Proofs.Ytlppifnepckpiaa.Cd
open Go.RowKit

/-- the stack's kinds (the top first) behind an instruction -/
def step (c : Code) (x : Ins) (l : List Int) : Option (List Int) :=
  if x.op = 1 then (if Bv.isv x.k x.n then some (x.k :: l) else none)
  else if x.op = 2 then (if x.k = 0 ∧ 0 ≤ x.n ∧ x.n < c.kinds.length then some (c.kinds.getD x.n.toNat 0 :: l) else none)
  else if x.op = 3 then (match l with
    | [] => none
    | a :: r => if x.k = 0 ∧ c.ins ≤ x.n ∧ x.n < c.kinds.length ∧ a = c.kinds.getD x.n.toNat 0 then some r else none)
  else if x.op = 4 then (match l with
    | [] => none
    | a :: r => if a = x.k ∧ Bv.unB x.n x.k 0 = true then some (a :: r) else none)
  else if x.op = 5 then (match l with
    | a :: b :: r => if a = x.k ∧ b = x.k ∧ Bv.binB x.n x.k 0 0 = true then some (Bv.toK x.n x.k :: r) else none
    | _ => none)
  else if x.op = 6 then (match l with
    | [] => none
    | a :: r => if a = x.n ∧ 0 < Bv.wid x.k then some (x.k :: r) else none)
  else if x.op = 7 then (if x.k = 0 then some l else none)
  else if x.op = 8 then (match l with
    | [] => none
    | a :: r => if x.k = 0 ∧ a = 1 then some r else none)
  else if x.n = 0 ∧ x.k = 0 ∧ l = [] then some [] else none

/-- l is the stack so many places further on: it must be what it is there, if that is known -/
def meet (l : List Int) : Nat → List (Option (List Int)) → Option (List (Option (List Int)))
  | _, [] => none
  | 0, none :: ps => some (some l :: ps)
  | 0, some m :: ps => if m = l then some (some l :: ps) else none
  | n + 1, p :: ps => (meet l n ps).map (p :: ·)

/-- the instructions in order; ps: what is known of the stack at each of them -/
def go (c : Code) : List Ins → List (Option (List Int)) → Bool
  | [], _ => true
  | _ :: _, [] => false
  | _ :: b, none :: ps => go c b ps
  | x :: b, some l :: ps =>
    match step c x l with
    | none => false
    | some m =>
      if c.stack < m.length then false
      else if x.op = 9 then go c b ps
      else if x.op = 7 then (if x.n < 0 then false else match meet m x.n.toNat ps with | none => false | some q => go c b q)
      else if x.op = 8 then (if x.n < 0 then false else match meet m 0 ps with | none => false | some q => match meet m x.n.toNat q with | none => false | some r => go c b r)
      else match meet m 0 ps with | none => false | some q => go c b q

def bad (c : Code) : Bool :=
  decide (c.ins < 0) || decide (c.outs < 0) || decide (c.cells < 0) || decide (c.stack < 0) || decide ((c.kinds.length : Int) < c.ins) || decide ((c.kinds.length : Int) < c.outs) || decide ((c.kinds.length : Int) < c.cells) || decide ((c.kinds.length : Int) < c.ins + c.outs + c.cells)
    || !(c.kinds.all fun k => decide (0 < Bv.wid k)) || ((c.init.length : Int) != c.cells) || !((c.init.zip (c.kinds.drop (c.ins + c.outs).toNat)).all fun p => Bv.isv p.2 p.1)
    || (match c.body.getLast? with | none => true | some x => x.op != 9) || !(c.body.all fun x => decide (1 ≤ x.op) && decide (x.op ≤ 9))
/-- what Check tells -/
def check (c : Code) : Int :=
  if 60000 < c.body.length ∨ 8000 < c.kinds.length ∨ 64 < c.stack then 2
  else if bad c then 40
  else if go c c.body (some [] :: List.replicate (c.body.length - 1) none) then 0 else 50

/-! the document's example, and what is wrong with codes like it -/
def small : Code := ⟨[2, 2], 1, 1, 0, [], 2, [⟨2, 0, 0⟩, ⟨1, 1, 2⟩, ⟨5, 3, 2⟩, ⟨3, 1, 0⟩, ⟨9, 0, 0⟩]⟩
theorem small_ok : check small = 0 := by decide +kernel
theorem small_1 : check { small with stack := 1 } = 50 := by decide +kernel
def wrongs : List Code :=
  [small, { small with ins := -1 }, { small with outs := 3 }, { small with kinds := [0, 2] }, { small with init := [1] }, { small with body := [] }, { small with body := small.body.take 4 }, { small with body := small.body.set 1 ⟨10, 1, 2⟩ },
   { small with body := small.body.set 1 ⟨1, 200, 2⟩ }, { small with body := small.body.set 0 ⟨2, 2, 0⟩ }, { small with body := small.body.set 3 ⟨3, 0, 0⟩ }, { small with body := small.body.set 2 ⟨5, 3, 6⟩ }, { small with body := small.body.set 2 ⟨5, 11, 2⟩ }, { small with body := small.body.set 0 ⟨2, 0, 1⟩ }, { small with body := small.body.set 4 ⟨9, 1, 0⟩ },
   { small with body := small.body.take 3 ++ [⟨9, 0, 0⟩] }, { small with body := small.body.set 3 ⟨8, 0, 0⟩ }, { small with body := small.body.set 1 ⟨3, 1, 0⟩ }, { small with body := [⟨7, 1, 0⟩, ⟨5, 99, 99⟩] ++ small.body }, { small with stack := 65 }, { small with stack := -1 }, { small with body := small.body.set 2 ⟨6, 6, 2⟩ }]
theorem wrongs_are : wrongs.map check = [0, 40, 40, 40, 40, 40, 40, 40, 50, 50, 50, 50, 50, 50, 50, 50, 50, 50, 0, 2, 40, 50] := by decide +kernel

/-! a value that is pushed -/
def pushC (n : Int) : Code := ⟨[5], 0, 1, 0, [], 1, [⟨1, n, 5⟩, ⟨3, 0, 0⟩, ⟨9, 0, 0⟩]⟩
theorem push_ok (n : Int) : check (pushC n) = 0 := by
  have h1 : step (pushC n) ⟨1, n, 5⟩ [] = some [5] := by
    have : Bv.isv 5 n = true := by simp [Bv.isv, Bv.wid, Bv.wrp]
    simp [step, this]
  unfold check
  rw [if_neg (by simp [pushC]), if_neg (by simp [bad, pushC, Bv.wid])]
  have hg : go (pushC n) (pushC n).body (some [] :: List.replicate ((pushC n).body.length - 1) none) = true := by
    show go (pushC n) [⟨1, n, 5⟩, ⟨3, 0, 0⟩, ⟨9, 0, 0⟩] [some [], none, none] = true
    rw [go, h1]
    simp [pushC, meet, go, step]
  rw [if_pos hg]
theorem push_len {n : Int} : (write (pushC n)).length = 4 + 5 + 1 + 1 + 2 + (num n).length + 6 := by
  have e : ∀ z, z < 128 → (bytes z).length = 1 := fun z h => by rw [bytes_small h]; rfl
  have e2 : ∀ n : Int, 0 ≤ n → n < 64 → (num n).length = 1 := fun n h0 h1 => by unfold num; exact e _ (by unfold zig; rw [if_pos h0]; omega)
  simp only [write, allL, heads, pushC, insL, nums, magic, List.map_cons, List.map_nil, List.flatten_cons, List.flatten_nil, List.length_append, List.length_cons, List.length_nil, List.cons_append, List.nil_append, List.append_nil]
  rw [e2 5 (by decide) (by decide), e2 0 (by decide) (by decide), e2 1 (by decide) (by decide), e2 3 (by decide) (by decide), e2 9 (by decide) (by decide)]
  have h3 := e2 ((0 + 1 : Nat) : Int) (by decide) (by decide)
  have h4 := e2 ((0 + 1 + 1 + 1 : Nat) : Int) (by decide) (by decide)
  simp only [Nat.zero_add] at h3 h4 ⊢
  rw [h3, h4]
  omega

/-! values that lie n high -/
def stackC (n : Nat) (s : Int) : Code := ⟨[2], 0, 1, 0, [], s, (List.range n).map (fun i => ⟨1, ((i % 100 : Nat) : Int), 2⟩) ++ (List.replicate (n - 1) ⟨5, 3, 2⟩ ++ [⟨3, 0, 0⟩, ⟨9, 0, 0⟩])⟩
end Go.Proofs.Ytlppifnepckpiaa.Cd
