/- My texts GrM GrA GrB GrC GrD GrE GrF GrG GrH GrI GrJ GrK GrO GrL0, joined. -/
import Derived.Test.YtachmiajldeakaaGreatDoorMgA
import Derived.WalkLawsBesides
import Derived.Deep.RegionHeld3
set_option linter.unusedVariables false
/- The plain mathematics of the grammar (no program in sight): the expressions, variables, items and nodes that tokens are, or where and why they are none. -/
namespace Go.Proofs.YtachmiajldeakaaGreatDoor.Gram
open Go.RowKit
open Lex (Tk)

abbrev B := List UInt8

inductive Exp where
  | mk (form sub : Int) (name : B) (tk tl n m : Int) (kids : List Exp) (at_ : Int)
def Exp.at_ : Exp → Int | .mk _ _ _ _ _ _ _ _ a => a
def Exp.kids : Exp → List Exp | .mk _ _ _ _ _ _ _ k _ => k
def Exp.form : Exp → Int | .mk f _ _ _ _ _ _ _ _ => f
def Exp.name : Exp → B | .mk _ _ n _ _ _ _ _ _ => n
structure Edge where
  name : B
  on : Bool
structure Var where
  name : B
  tk : Int
  tl : Int
  clock : List Edge
  at_ : Int
structure Trans where
  cond : Exp
  to : B
  cont : Bool
  at_ : Int
mutual
inductive Item where
  | mk (names : List B) (e : Exp) (states : List State) (at_ : Int)
inductive State where
  | mk (name : B) (unless_ until_ : List Trans) (locals : List Var) (items : List Item) (at_ : Int)
end
structure Node where
  name : B
  ins : List Var
  outs : List Var
  locals : List Var
  items : List Item
  at_ : Int

/-- what a part of the parser tells: what it read and where it stands then; or the place and what is wrong; or that it was not given enough steps -/
inductive PR (α : Type) where
  | ok (x : α) (i : Nat)
  | bad (a e : Int)
  | fuel
def PR.bind {α β : Type} (r : PR α) (f : α → Nat → PR β) : PR β :=
  match r with
  | .ok x i => f x i
  | .bad a e => .bad a e
  | .fuel => .fuel
def PR.isFuel {α : Type} : PR α → Bool
  | .fuel => true
  | _ => false

def endTk : Tk := ⟨5, [], 0, 0, 0⟩
def tk (T : List Tk) (i : Nat) : Tk := T.getD i endTk
def sees (T : List Tk) (i : Nat) (s : B) : Bool := (tk T i).text == s
def isName (T : List Tk) (i : Nat) : Bool := (tk T i).kind == 1
def isNum (T : List Tk) (i : Nat) : Bool := (tk T i).kind == 2
def isVal (T : List Tk) (i : Nat) : Bool := isNum T i && ((tk T i).t != 0)
def fail {α : Type} (T : List Tk) (i : Nat) (e : Int) : PR α := .bad ((tk T i).at_ : Int) e
def need {α : Type} (T : List Tk) (i : Nat) (b : Bool) (r : PR α) : PR α := if b then r else fail T i 12
def room {α : Type} (T : List Tk) (i : Nat) (has most : Nat) (r : PR α) : PR α := if most ≤ has then fail T i 2 else r
def expect (T : List Tk) (i : Nat) (s : B) : PR Tk := need T i (sees T i s) (.ok (tk T i) (i + 1))
def name (T : List Tk) (i : Nat) : PR B := need T i (isName T i) (.ok (tk T i).text (i + 1))
def size (T : List Tk) (i : Nat) : PR Int := need T i (isNum T i && ((tk T i).t == 0)) (.ok (tk T i).n (i + 1))
def kind (T : List Tk) (i : Nat) : PR Int := need T i (Lex.kindOf (tk T i).text != 0) (.ok (Lex.kindOf (tk T i).text) (i + 1))

/-- the words and signs that begin an expression -/
def expWords : List B :=
  [110, 111, 116] :: [45] :: [112, 114, 101] :: [40] :: [91] :: [116, 114, 117, 101] :: [102, 97, 108, 115, 101] :: [105, 102] :: [119, 104, 101, 110] :: [109, 101, 114, 103, 101] :: [99, 97, 115, 116] :: [116, 105, 99, 107] :: [114, 101, 115, 101, 116] :: [114, 101, 112] :: [109, 97, 112] :: [102, 111, 108, 100] :: []
def seesExp (T : List Tk) (i : Nat) : Bool := expWords.contains (tk T i).text || isName T i || isVal T i

/-- the signs of a level, each with its form and operation -/
def signs (lv : Nat) : List (B × Int × Int) :=
  match lv with
  | 0 => [([45, 62], 7, 0)]
  | 1 => [([102, 98, 121], 8, 0)]
  | 2 => [([61, 62], 4, 11)]
  | 3 => [([111, 114], 4, 9), ([120, 111, 114], 4, 10)]
  | 4 => [([97, 110, 100], 4, 8)]
  | 5 => [([61], 4, 14), ([60, 62], 4, 15), ([60], 4, 16), ([60, 61], 4, 17), ([62], 4, 18), ([62, 61], 4, 19)]
  | 6 => [([124], 4, 9), ([94], 4, 10)]
  | 7 => [([38], 4, 8)]
  | 8 => [([60, 60], 4, 12), ([62, 62], 4, 13)]
  | 9 => [([43], 4, 3), ([45], 4, 4)]
  | 10 => [([42], 4, 5), ([47], 4, 6), ([109, 111, 100], 4, 7)]
  | _ => []
def sign (T : List Tk) (i : Nat) (lv : Nat) : Option (B × Int × Int) := (signs lv).find? (fun s => (tk T i).text == s.1)
def join (s : B × Int × Int) (a b : Exp) : Exp := .mk s.2.1 s.2.2 [] 0 0 0 0 [a, b] a.at_
def literal (k n a : Int) : Exp := .mk 1 0 [] k 0 n 0 [] a

/-- the indices behind an expression -/
def indexed (T : List Tk) : Nat → Exp → Nat → PR Exp
  | 0, _, _ => .fuel
  | f + 1, e, i =>
    if sees T i [91] then (size T (i + 1)).bind fun n j => (expect T j [93]).bind fun _ k => indexed T f (.mk 16 0 [] 0 0 n 0 [e] e.at_) k
    else .ok e i

def edge (T : List Tk) (i : Nat) : PR Edge :=
  if sees T i [110, 111, 116] then (name T (i + 1)).bind fun n j => .ok ⟨n, false⟩ j else (name T i).bind fun n j => .ok ⟨n, true⟩ j

mutual
def exp (T : List Tk) : Nat → Nat → Nat → PR Exp
  | 0, _, _ => .fuel
  | f + 1, d, i => need T i (seesExp T i) (room T i d 40 (read T f (d + 1) 0 i))
def read (T : List Tk) : Nat → Nat → Nat → Nat → PR Exp
  | 0, _, _, _ => .fuel
  | f + 1, d, lv, i =>
    if lv ≤ 2 then
      (read T f d (lv + 1) i).bind fun a j =>
        match sign T j lv with
        | none => .ok a j
        | some s => (read T f d lv (j + 1)).bind fun b k => .ok (join s a b) k
    else if lv = 5 then
      (read T f d (lv + 1) i).bind fun a j =>
        match sign T j lv with
        | none => .ok a j
        | some s => (read T f d (lv + 1) (j + 1)).bind fun b k => .ok (join s a b) k
    else if lv ≤ 10 then (read T f d (lv + 1) i).bind fun a j => lefts T f d lv a j
    else if sees T i [110, 111, 116] || sees T i [45] || sees T i [112, 114, 101] then room T i d 40 (prefixed T f (d + 1) i)
    else (prim T f d i).bind fun e j => indexed T f e j
def lefts (T : List Tk) : Nat → Nat → Nat → Exp → Nat → PR Exp
  | 0, _, _, _, _ => .fuel
  | f + 1, d, lv, a, j =>
    match sign T j lv with
    | none => .ok a j
    | some s => (read T f d (lv + 1) (j + 1)).bind fun b k => lefts T f d lv (join s a b) k
def prefixed (T : List Tk) : Nat → Nat → Nat → PR Exp
  | 0, _, _ => .fuel
  | f + 1, d, i =>
    if sees T i [112, 114, 101] then (read T f d 11 (i + 1)).bind fun x j => .ok (.mk 6 0 [] 0 0 0 0 [x] (tk T i).at_) j
    else if sees T i [110, 111, 116] then (read T f d 11 (i + 1)).bind fun x j => .ok (.mk 3 1 [] 0 0 0 0 [x] (tk T i).at_) j
    else if isVal T (i + 1) then indexed T f (literal (tk T (i + 1)).t (Bv.wrp (tk T (i + 1)).t (wrap64 (-(tk T (i + 1)).n))) (tk T i).at_) (i + 2)
    else (read T f d 11 (i + 1)).bind fun x j => .ok (.mk 3 2 [] 0 0 0 0 [x] (tk T i).at_) j
def prim (T : List Tk) : Nat → Nat → Nat → PR Exp
  | 0, _, _ => .fuel
  | f + 1, d, i =>
    if isVal T i then need T i (decide (5 < (tk T i).t) || decide (0 ≤ (tk T i).n)) (.ok (literal (tk T i).t (tk T i).n (tk T i).at_) (i + 1))
    else if isName T i then
      (if sees T (i + 1) [40] then (args T f d (i + 1)).bind fun l j => .ok (.mk 13 0 (tk T i).text 0 0 0 0 l (tk T i).at_) j
       else .ok (.mk 2 0 (tk T i).text 0 0 0 0 [] (tk T i).at_) (i + 1))
    else if sees T i [40] then (exp T f d (i + 1)).bind fun e j => (expect T j [41]).bind fun _ k => .ok e k
    else need T i (seesExp T i) (form T f d (tk T i) (i + 1))
def args (T : List Tk) : Nat → Nat → Nat → PR (List Exp)
  | 0, _, _ => .fuel
  | f + 1, d, i =>
    (expect T i [40]).bind fun _ j =>
      (if sees T j [41] then PR.ok [] j else exps T f d [] j).bind fun l k => (expect T k [41]).bind fun _ m => .ok l m
def exps (T : List Tk) : Nat → Nat → List Exp → Nat → PR (List Exp)
  | 0, _, _, _ => .fuel
  | f + 1, d, acc, i =>
    need T i (seesExp T i) (room T i acc.length 16 ((exp T f d i).bind fun e j =>
      if sees T j [44] then exps T f d (acc ++ [e]) (j + 1) else .ok (acc ++ [e]) j))
/-- the forms that begin with a word of their own, or with a bracket of arrays; t: that token -/
def form (T : List Tk) : Nat → Nat → Tk → Nat → PR Exp
  | 0, _, _, _ => .fuel
  | f + 1, d, t, i =>
    let a : Int := t.at_
    if t.text = [116, 114, 117, 101] then .ok (.mk 1 0 [] 1 0 1 0 [] a) i
    else if t.text = [102, 97, 108, 115, 101] then .ok (.mk 1 0 [] 1 0 0 0 [] a) i
    else if t.text = [91] then (exps T f d [] i).bind fun l j => (expect T j [93]).bind fun _ k => .ok (.mk 15 0 [] 0 0 0 0 l a) k
    else if t.text = [105, 102] then
      (exp T f d i).bind fun x j => (expect T j [116, 104, 101, 110]).bind fun _ j => (exp T f d j).bind fun y j => (expect T j [101, 108, 115, 101]).bind fun _ j => (exp T f d j).bind fun z j => .ok (.mk 5 0 [] 0 0 0 0 [x, y, z] a) j
    else if t.text = [119, 104, 101, 110] then
      (expect T i [40]).bind fun _ j => (exp T f d j).bind fun x j => (expect T j [44]).bind fun _ j => (edge T j).bind fun g j => (expect T j [41]).bind fun _ j => .ok (.mk 9 0 g.name 0 0 (if g.on then 1 else 0) 0 [x] a) j
    else if t.text = [99, 97, 115, 116] then
      (expect T i [40]).bind fun _ j => (kind T j).bind fun k j => (expect T j [44]).bind fun _ j => (exp T f d j).bind fun x j => (expect T j [41]).bind fun _ j => .ok (.mk 11 0 [] k 0 0 0 [x] a) j
    else if t.text = [116, 105, 99, 107] then
      (expect T i [40]).bind fun _ j => (size T j).bind fun n j => (expect T j [44]).bind fun _ j => (size T j).bind fun m j => (expect T j [41]).bind fun _ j => .ok (.mk 12 0 [] 0 0 n m [] a) j
    else if t.text = [114, 101, 115, 101, 116] then
      (expect T i [40]).bind fun _ j => (name T j).bind fun n j => (args T f d j).bind fun l j => (expect T j [44]).bind fun _ j => (exp T f d j).bind fun x j => (expect T j [41]).bind fun _ j => .ok (.mk 14 0 n 0 0 0 0 (l ++ [x]) a) j
    else if t.text = [114, 101, 112] then
      (expect T i [40]).bind fun _ j => (exp T f d j).bind fun x j => (expect T j [44]).bind fun _ j => (size T j).bind fun n j => (expect T j [41]).bind fun _ j => .ok (.mk 17 0 [] 0 0 n 0 [x] a) j
    else if t.text = [109, 97, 112] then
      (expect T i [40]).bind fun _ j => (name T j).bind fun n j => (expect T j [44]).bind fun _ j => (exps T f d [] j).bind fun l j => (expect T j [41]).bind fun _ j => .ok (.mk 18 0 n 0 0 0 0 l a) j
    else if t.text = [109, 101, 114, 103, 101] then
      (expect T i [40]).bind fun _ j => (name T j).bind fun n j => (expect T j [44]).bind fun _ j => (exp T f d j).bind fun x j => (expect T j [44]).bind fun _ j => (exp T f d j).bind fun y j => (expect T j [41]).bind fun _ j => .ok (.mk 10 0 n 0 0 0 0 [x, y] a) j
    else
      (expect T i [40]).bind fun _ j => (name T j).bind fun n j => (expect T j [44]).bind fun _ j => (exp T f d j).bind fun x j => (expect T j [44]).bind fun _ j => (exp T f d j).bind fun y j => (expect T j [41]).bind fun _ j => .ok (.mk 19 0 n 0 0 0 0 [x, y] a) j
end

/-! declarations -/
/-- the names of one declaration, behind those of its list -/
def names (T : List Tk) : Nat → List (B × Int) → Nat → Nat → PR (List (B × Int))
  | 0, _, _, _ => .fuel
  | f + 1, acc, has, i =>
    need T i (isName T i) (room T i (has + acc.length) 200
      (if sees T (i + 1) [44] then names T f (acc ++ [((tk T i).text, ((tk T i).at_ : Int))]) has (i + 2) else .ok (acc ++ [((tk T i).text, ((tk T i).at_ : Int))]) (i + 1)))
def ty (T : List Tk) (i : Nat) : PR (Int × Int) :=
  (kind T i).bind fun k j => if sees T j [94] then (size T (j + 1)).bind fun n m => .ok (k, n) m else .ok (k, 0) j
def decl (T : List Tk) (f : Nat) (vars : List Var) (i : Nat) : PR (List Var) :=
  (names T f [] vars.length i).bind fun ns j => (expect T j [58]).bind fun _ j => (ty T j).bind fun t j =>
    .ok (vars ++ ns.map fun n => ⟨n.1, t.1, t.2, [], n.2⟩) j
def decls (T : List Tk) : Nat → List Var → Nat → PR (List Var)
  | 0, _, _ => .fuel
  | f + 1, vars, i => (decl T f vars i).bind fun vs j => if sees T j [59] then decls T f vs (j + 1) else .ok vs j
def edges (T : List Tk) : Nat → List Edge → Nat → PR (List Edge)
  | 0, _, _ => .fuel
  | f + 1, acc, i =>
    need T i (isName T i || sees T i [110, 111, 116]) (room T i acc.length 16 ((edge T i).bind fun g j =>
      if sees T j [97, 110, 100] then edges T f (acc ++ [g]) (j + 1) else .ok (acc ++ [g]) j))
def local_ (T : List Tk) (f : Nat) (vars : List Var) (i : Nat) : PR (List Var) :=
  (decl T f vars i).bind fun vs j =>
    (if sees T j [119, 104, 101, 110] then (edges T f [] (j + 1)).bind fun c k => .ok (vs.take vars.length ++ (vs.drop vars.length).map fun v => { v with clock := c }) k else .ok vs j).bind fun vs k =>
      (expect T k [59]).bind fun _ m => .ok vs m
def localsL (T : List Tk) : Nat → List Var → Nat → PR (List Var)
  | 0, _, _ => .fuel
  | f + 1, vars, i => (local_ T f vars i).bind fun vs j => if isName T j then localsL T f vs j else .ok vs j
def locals (T : List Tk) (f : Nat) (i : Nat) : PR (List Var) := if sees T i [118, 97, 114] then localsL T f [] (i + 1) else .ok [] i

/-! items, states, nodes -/
def lhs (T : List Tk) : Nat → List B → Nat → PR (List B)
  | 0, _, _ => .fuel
  | f + 1, acc, i =>
    need T i (isName T i) (room T i acc.length 16 ((name T i).bind fun n j => if sees T j [44] then lhs T f (acc ++ [n]) (j + 1) else .ok (acc ++ [n]) j))
def equation (T : List Tk) (f d i : Nat) : PR Item :=
  (if sees T i [40] then (lhs T f [] (i + 1)).bind fun ns j => (expect T j [41]).bind fun _ k => .ok ns k else (name T i).bind fun n j => .ok [n] j).bind fun ns j =>
    (expect T j [61]).bind fun _ j => (exp T f d j).bind fun e j => (expect T j [59]).bind fun _ j => .ok (.mk ns e [] (tk T i).at_) j
def trans (T : List Tk) (f d i : Nat) : PR Trans :=
  (exp T f d (i + 1)).bind fun c j =>
    (if sees T j [99, 111, 110, 116, 105, 110, 117, 101] then PR.ok true (j + 1) else (expect T j [116, 104, 101, 110]).bind fun _ k => .ok false k).bind fun ct j =>
      (name T j).bind fun n j => (expect T j [59]).bind fun _ j => .ok ⟨c, n, ct, c.at_⟩ j
def transs (T : List Tk) (w : B) (d : Nat) : Nat → List Trans → Nat → PR (List Trans)
  | 0, _, _ => .fuel
  | f + 1, acc, i => if sees T i w then room T i acc.length 16 ((trans T f d i).bind fun t j => transs T w d f (acc ++ [t]) j) else .ok acc i
def seesItem (T : List Tk) (i : Nat) : Bool := isName T i || sees T i [40] || sees T i [97, 117, 116, 111, 109, 97, 116, 111, 110]
def zeroExp : Exp := .mk 0 0 [] 0 0 0 0 [] 0
mutual
def items (T : List Tk) : Nat → Nat → List Item → Nat → PR (List Item)
  | 0, _, _, _ => .fuel
  | f + 1, d, acc, i => if seesItem T i then room T i acc.length 200 ((item T f d i).bind fun x j => items T f d (acc ++ [x]) j) else .ok acc i
def item (T : List Tk) : Nat → Nat → Nat → PR Item
  | 0, _, _ => .fuel
  | f + 1, d, i =>
    if sees T i [97, 117, 116, 111, 109, 97, 116, 111, 110] then
      room T i d 40 (need T (i + 1) (sees T (i + 1) [115, 116, 97, 116, 101]) ((states T f (d + 1) [] (i + 1)).bind fun ss j => (expect T j [101, 110, 100]).bind fun _ k => .ok (.mk [] zeroExp ss (tk T i).at_) k))
    else equation T f d i
def states (T : List Tk) : Nat → Nat → List State → Nat → PR (List State)
  | 0, _, _, _ => .fuel
  | f + 1, d, acc, i => if sees T i [115, 116, 97, 116, 101] then room T i acc.length 16 ((state T f d i).bind fun x j => states T f d (acc ++ [x]) j) else .ok acc i
def state (T : List Tk) : Nat → Nat → Nat → PR State
  | 0, _, _ => .fuel
  | f + 1, d, i =>
    (name T (i + 1)).bind fun n j => (transs T [117, 110, 108, 101, 115, 115] d f [] j).bind fun us j => (locals T f j).bind fun ls j => (expect T j [100, 111]).bind fun _ j =>
      need T j (seesItem T j) ((items T f d [] j).bind fun its j => (transs T [117, 110, 116, 105, 108] d f [] j).bind fun ut j => .ok (.mk n us ut ls its (tk T i).at_) j)
end
def node (T : List Tk) (f i : Nat) : PR Node :=
  (expect T i [110, 111, 100, 101]).bind fun t j => (name T j).bind fun n j => (expect T j [40]).bind fun _ j =>
    (if sees T j [41] then PR.ok [] j else decls T f [] j).bind fun ins j => (expect T j [41]).bind fun _ j => (expect T j [114, 101, 116, 117, 114, 110, 115]).bind fun _ j => (expect T j [40]).bind fun _ j =>
      (decls T f [] j).bind fun outs j => (expect T j [41]).bind fun _ j => (locals T f j).bind fun ls j => (expect T j [108, 101, 116]).bind fun _ j =>
        need T j (seesItem T j) ((items T f 0 [] j).bind fun its j => (expect T j [116, 101, 108]).bind fun _ j => .ok ⟨n, ins, outs, ls, its, t.at_⟩ j)
def nodes (T : List Tk) : Nat → List Node → Nat → PR (List Node)
  | 0, _, _ => .fuel
  | f + 1, acc, i => if sees T i [110, 111, 100, 101] then room T i acc.length 60 ((node T f i).bind fun n j => nodes T f (acc ++ [n]) j) else .ok acc i
def program (T : List Tk) (f : Nat) : PR (List Node) := (nodes T f [] 0).bind fun ns j => need T j ((tk T j).kind == 5) (.ok ns j)

/-- what Parse tells -/
inductive Res where
  | ok (l : List Node)
  | bad (a e : Int)
  | fuel
def parse (s : B) : Res :=
  match Lex.tokens s with
  | .err a e => .bad a e
  | .ok T => match program T (20 * T.length + 100) with
    | .ok l _ => .ok l
    | .bad a e => .bad a e
    | .fuel => .fuel
end Go.Proofs.YtachmiajldeakaaGreatDoor.Gram

/- gram's parser in memory: a block of four cells, the tokens, the rules; and the walks of its small methods: next, sees, take, fail, need, room and what is made of them. -/
namespace Go.Proofs.YtachmiajldeakaaGreatDoor
open Go.RowKit Go.Maps Go.WideMaps

/-- block b is a parser that stands at i, within d others, its tokens in tv, its rules in rv -/
def Pst (w : World) (b : Nat) (tv rv : Value) (i d : Nat) : Prop := w.heap[b]? = some (.cells #[tv, .int .i64 (i : Int), .int .i64 (d : Int), rv] 94 (0, 0))
/-- the tokens, which nothing writes -/
structure Toks (w : World) (b : Nat) (T : List Lex.Tk) (g cap : Nat) : Prop where
  own : w.ownsRow 0 100 6 (.slice (some ⟨g, 0, none⟩) T.length cap) T.length (Lex.row T)
  ne : g ≠ b
  most : T.length ≤ 20000
  last : ∀ i, i < T.length → ((Gram.tk T i).kind ≠ 5 ∨ (Gram.tk T i).text ≠ []) → i + 1 < T.length

/-- the signs of a level, as they lie in memory -/
def signCells (k : Nat) : List Value := (Gram.signs k).flatMap fun s => [.string ⟨s.1.toArray⟩, .int .i64 s.2.1, .int .i64 s.2.2]
def ruleFn (k : Nat) : Nat := if k ≤ 2 then 71 else if k = 5 then 73 else if k ≤ 10 then 72 else 74
def ruleCells (b h : Nat) : List Value := (List.range 12).flatMap fun k => [.func (.func (ruleFn k)) #[.pointer (some ⟨b, 0, none⟩)] #[], if k < 11 then .slice (some ⟨h + k, 0, none⟩) (Gram.signs k).length (Gram.signs k).length else .slice none 0 0]
def ruleBlk (b h k : Nat) : Obj := if k < 11 then .cells (signCells k).toArray 125 (0, 0) else .cells (ruleCells b h).toArray 128 (0, 0)
/-- the rules, which nothing writes -/
def Rls (w : World) (b : Nat) (rv : Value) : Prop := ∃ h, rv = .slice (some ⟨h + 11, 0, none⟩) 12 12 ∧ b < h ∧ ∀ k, k < 12 → w.heap[h + k]? = some (ruleBlk b h k)
theorem Rls.kept {w w' : World} {b : Nat} {rv : Value} {row : Option Nat} (h : Rls w b rv) (hg : w.grownBy w' row) (hr : row = none ∨ row = some b) : Rls w' b rv := by
  obtain ⟨g, h1, h2, h3⟩ := h
  refine ⟨g, h1, h2, fun k hk => ?_⟩
  have h4 := h3 k hk
  refine (hg.block (g + k) (Array.getElem?_eq_some_iff.1 h4).1 ?_).trans h4
  rcases hr with rfl | rfl
  · simp
  · intro e; have := Option.some.inj e; omega

section
variable {w : World} {b : Nat} {tv rv : Value} {i d : Nat}
theorem Pst.c0 (h : Pst w b tv rv i d) : w.cell? ⟨b, 0, none⟩ = some tv := cell_of_row w b 0 _ _ _ h
theorem Pst.c1 (h : Pst w b tv rv i d) : w.cell? ⟨b, 1, none⟩ = some (.int .i64 (i : Int)) := cell_of_row w b 1 _ _ _ h
theorem Pst.c2 (h : Pst w b tv rv i d) : w.cell? ⟨b, 2, none⟩ = some (.int .i64 (d : Int)) := cell_of_row w b 2 _ _ _ h
theorem Pst.c3 (h : Pst w b tv rv i d) : w.cell? ⟨b, 3, none⟩ = some rv := cell_of_row w b 3 _ _ _ h
theorem Pst.fr (h : Pst w b tv rv i d) (j : Nat) : w.frozen? ⟨b, j, none⟩ = false := by
  unfold Pst at h; simp [World.frozen?, h]
theorem Pst.lt (h : Pst w b tv rv i d) : b < w.heap.size := (Array.getElem?_eq_some_iff.1 h).1
theorem Pst.setAt (h : Pst w b tv rv i d) (j : Nat) : Pst (w.setCell ⟨b, 1, none⟩ (.int .i64 (j : Int))) b tv rv j d := by
  unfold Pst at h ⊢
  simp only [World.setCell, Array.getElem?_modify, if_true, h, Option.map_some]
  rfl
theorem Pst.setDeep (h : Pst w b tv rv i d) (j : Nat) : Pst (w.setCell ⟨b, 2, none⟩ (.int .i64 (j : Int))) b tv rv i j := by
  unfold Pst at h ⊢
  simp only [World.setCell, Array.getElem?_modify, if_true, h, Option.map_some]
  rfl
theorem Pst.kept {w' : World} {row : Option Nat} (h : Pst w b tv rv i d) (hg : w.grownBy w' row) (hne : some b ≠ row) : Pst w' b tv rv i d :=
  (hg.block b h.lt hne).trans h
theorem Toks.kept {T : List Lex.Tk} {g cap : Nat} {w' : World} (h : Toks w b T g cap) (hg : w.grownBy w' (some b)) : Toks w' b T g cap :=
  ⟨h.own.kept hg (.inr (by simpa [Value.ownBlock] using h.ne)), h.ne, h.most, h.last⟩
theorem Toks.kept0 {T : List Lex.Tk} {g cap : Nat} {w' : World} (h : Toks w b T g cap) (hg : w.grownBy w' none) : Toks w' b T g cap :=
  ⟨h.own.kept hg (by simp [Value.ownBlock]), h.ne, h.most, h.last⟩
end
theorem gdrew {w wx : World} {row : Option Nat} (h : w.grownBy wx row) : w.grownBy wx.drew row := ⟨h.os, h.tape, h.output, h.size, h.block⟩
theorem grown_some {w w' : World} (h : w.grownBy w' none) (b : Nat) : w.grownBy w' (some b) := ⟨h.os, h.tape, h.output, h.size, fun k hk _ => h.block k hk (by simp)⟩

theorem tk_get (T : List Lex.Tk) (i : Nat) (h : i < T.length) : Gram.tk T i = T[i] := by
  unfold Gram.tk; simp [List.getD, h]

/-- a token as a value -/
def tokV (x : Lex.Tk) : Value := .agg #[.int .i64 x.kind, .string ⟨x.text.toArray⟩, .int .i64 x.n, .int .i64 x.t, .int .i64 0, .int .i64 (x.at_ : Int)]

theorem fldText (x : Lex.Tk) (wx : World) : (Instr.field 100 (tokV x) 1).run Tryz.prog wx = .ok (.string ⟨x.text.toArray⟩) wx := by kernel_rfl
theorem fldKind (x : Lex.Tk) (wx : World) : (Instr.field 100 (tokV x) 0).run Tryz.prog wx = .ok (.int .i64 x.kind) wx := by kernel_rfl
theorem fldN (x : Lex.Tk) (wx : World) : (Instr.field 100 (tokV x) 2).run Tryz.prog wx = .ok (.int .i64 x.n) wx := by kernel_rfl
theorem fldT (x : Lex.Tk) (wx : World) : (Instr.field 100 (tokV x) 3).run Tryz.prog wx = .ok (.agg #[.int .i64 x.t, .int .i64 0]) wx := by kernel_rfl
theorem fldAt (x : Lex.Tk) (wx : World) : (Instr.field 100 (tokV x) 4).run Tryz.prog wx = .ok (.int .i64 (x.at_ : Int)) wx := by kernel_rfl
theorem fldTk (a c : Int) (wx : World) : (Instr.field 25 (.agg #[.int .i64 a, .int .i64 c]) 0).run Tryz.prog wx = .ok (.int .i64 a) wx := by kernel_rfl
theorem Toks.cells {w : World} {b : Nat} {T : List Lex.Tk} {g cap : Nat} (h : Toks w b T g cap) {i : Nat} (hi : i < T.length) :
    w.cell? ⟨g, i * 6, none⟩ = some (.int .i64 (Gram.tk T i).kind) ∧ w.cell? ⟨g, i * 6 + 1, none⟩ = some (.string ⟨(Gram.tk T i).text.toArray⟩) ∧ w.cell? ⟨g, i * 6 + 2, none⟩ = some (.int .i64 (Gram.tk T i).n) ∧
    w.cell? ⟨g, i * 6 + 3, none⟩ = some (.int .i64 (Gram.tk T i).t) ∧ w.cell? ⟨g, i * 6 + 4, none⟩ = some (.int .i64 0) ∧ w.cell? ⟨g, i * 6 + 5, none⟩ = some (.int .i64 ((Gram.tk T i).at_ : Int)) := by
  have c : ∀ j, j < 6 → w.cell? ⟨g, i * 6 + j, none⟩ = (Lex.cells T[i])[j]? := fun j hj => by
    rw [h.own.cellAt (i * 6 + j) (by omega)]; exact row_at T i hi j hj
  rw [tk_get T i hi]
  exact ⟨c 0 (by decide), c 1 (by decide), c 2 (by decide), c 3 (by decide), c 4 (by decide), c 5 (by decide)⟩

/-- a parser that stands at token i of T, within d others -/
structure Pa (w : World) (b g cap : Nat) (rv : Value) (T : List Lex.Tk) (i d : Nat) : Prop where
  toks : Toks w b T g cap
  st : Pst w b (.slice (some ⟨g, 0, none⟩) T.length cap) rv i d
  lt : i < T.length
  rl : Rls w b rv
section
variable {w w' : World} {b g cap : Nat} {rv : Value} {T : List Lex.Tk} {i d : Nat}
theorem Pa.kept (h : Pa w b g cap rv T i d) (hg : w.grownBy w' none) : Pa w' b g cap rv T i d :=
  ⟨h.toks.kept0 hg, h.st.kept hg (by simp), h.lt, h.rl.kept hg (.inl rfl)⟩
theorem Pa.alloc (h : Pa w b g cap rv T i d) (o : Obj) : Pa (w.alloc o) b g cap rv T i d := h.kept (World.grownBy_alloc w o none)
theorem Pa.bl (h : Pa w b g cap rv T i d) : b < w.heap.size := h.st.lt
/-- it has gone on -/
theorem Pa.to {j e : Nat} (h : Pa w b g cap rv T i d) (hg : w.grownBy w' (some b)) (hs : Pst w' b (.slice (some ⟨g, 0, none⟩) T.length cap) rv j e) (hj : j < T.length) : Pa w' b g cap rv T j e :=
  ⟨h.toks.kept hg, hs, hj, h.rl.kept hg (.inr rfl)⟩
theorem Pa.next (h : Pa w b g cap rv T i d) (hk : (Gram.tk T i).kind ≠ 5 ∨ (Gram.tk T i).text ≠ []) : i + 1 < T.length := h.toks.last i h.lt hk
theorem Pa.nextSees (h : Pa w b g cap rv T i d) {s : List UInt8} (hs : Gram.sees T i s = true) (hne : s ≠ []) : i + 1 < T.length :=
  h.next (.inr (by unfold Gram.sees at hs; rw [beq_iff_eq] at hs; rw [hs]; exact hne))
end
/-- the parser gives up -/
def gBad (w : World) (b : Nat) (a er : Int) (e : Ending) (w' : World) : Prop :=
  e = .panicked [{ v := .iface 86 (.agg #[.int .i64 a, .int .i64 er]), recovered := false }] ∧ w.grownBy w' (some b)

/-- a walk stands still at a store through that slot -/
theorem hold_st (k : Nat) {P : Program} {ops : Array Oper} {Q : Exit → Act → World → Prop} {dd : Option Tmp} {t ty : TypeId} {y : Operand} {ps : String} {af : Array Edge} {gg : Option (Nat × Bool)} {rest : List Oper} {a : Act} {w : World}
    (h : Hid (wpList P ops Q ({ dst := dd, op := Op.store t (.tmp k) y, type := ty, pos := ps, after := af, guard := gg } :: rest) a w)) : wpList P ops Q ({ dst := dd, op := Op.store t (.tmp k) y, type := ty, pos := ps, after := af, guard := gg } :: rest) a w := h
/-- a whole block is written -/
theorem wpList_store_gen {P : Program} {ops : Array Oper} {rest : List Oper} {o : Oper} {a : Act} {w : World} {Q : Exit → Act → World → Prop} (hgd : o.guard = none) (ty : TypeId) (x y : Operand) (ho : o.op = .store ty x y)
    (g : Nat) (cells : Array Value) (hx : a.eval x = .pointer (some ⟨g, 0, none⟩)) (hy : a.eval y = .agg cells)
    (t : TypeId) (old : Array Value) (hg : w.heap[g]? = some (.cells old t (0, 0))) (hi : (P.info? ty).map (·.size) = some cells.size)
    (hold : old.size = cells.size) (h1 : cells.all (·.oneCell') = true)
    (h : ∀ w', w'.heap[g]? = some (.cells cells t (0, 0)) → w.grownBy w' (some g) → wpList P ops Q rest (a.put o.dst undef) w') : wpList P ops Q (o :: rest) a w := by
  refine wpList_store_row hgd ty x y ho g cells hx hy t old hg hi hold h1 (h _ ?_ ?_)
  · simp [World.setRow, Array.getElem?_modify, hg]
  · refine ⟨rfl, rfl, rfl, by simp [World.setRow], fun k _ hk => ?_⟩
    have hne : g ≠ k := fun e => hk (by rw [e])
    simp [World.setRow, Array.getElem?_modify, hne]
theorem sg {P : Program} {ops : Array Oper} {rest : List Oper} {o : Oper} {a : Act} {w : World} {Q : Exit → Act → World → Prop} {ty : TypeId} {x y : Operand} {g : Nat} {cells : Array Value} {t : TypeId} {old : Array Value} (hg : w.heap[g]? = some (.cells old t (0, 0)))
    (h : ∀ w', w'.heap[g]? = some (.cells cells t (0, 0)) → w.grownBy w' (some g) → wpList P ops Q rest (a.put o.dst undef) w') (hgd : o.guard = none := by exact rfl) (ho : o.op = .store ty x y := by exact rfl) (hx : a.eval x = .pointer (some ⟨g, 0, none⟩) := by exact rfl) (hy : a.eval y = .agg cells := by exact rfl)
    (hi : (P.info? ty).map (·.size) = some cells.size := by kernel_rfl) (hold : old.size = cells.size := by exact rfl) (h1 : cells.all (·.oneCell') = true := by simp [Value.oneCell']) : wpList P ops Q (o :: rest) a w :=
  wpList_store_gen hgd ty x y ho g cells hx hy t old hg hi hold h1 h
theorem br {P : Program} {fn : Func} {R : Ending → World → Prop} {a : Act} {w : World} {p : Tmp} {ty t : TypeId} {g : Nat} {cs : Array Value} {d : TypeDesc} (hg : w.heap[g]? = some (.cells cs t (0, 0))) (hu : P.underlying ty = some d) (hR : R (.returned (.agg cs)) w)
    (h : fn.results = #[.cell p ty] := by exact rfl) (hp : a.tmps.getD p undef = .pointer (some ⟨g, 0, none⟩) := by exact rfl) (hd : (match d with | .struct _ | .array _ _ => true | _ => false) = true := by exact rfl) (hi : (P.info? ty).map (·.size) = some cs.size := by kernel_rfl) (hf : a.defers = [] := by exact rfl) : bodyPost P fn R .ret a w :=
  bodyPost_ret (results_cell_row h _ _ g t cs (0, 0) d hp hg hu hd hi) hf hR

def tok0 : Obj := .cells #[.int .i64 0, .string ⟨#[]⟩, .int .i64 0, .int .i64 0, .int .i64 0, .int .i64 0] 100

section
variable (b g cap : Nat) (rv : Value) (T : List Lex.Tk) (i d : Nat)

set_option maxHeartbeats 1600000 in
theorem gnext_any (w : World) (h : Pa w b g cap rv T i d) :
    Calls Tryz.prog 37 #[.pointer (some ⟨b, 0, none⟩)] w fun e w' => e = .returned (tokV (Gram.tk T i)) ∧ w.grownBy w' none := by
  obtain ⟨c0, c1, c2, c3, c4, c5⟩ := h.toks.cells h.lt
  have p0 := h.st.c0
  have p1 := h.st.c1
  have hm := h.toks.most
  have hi := h.lt
  have hlt : b < w.heap.size := h.bl
  have hlg : g < w.heap.size := World.block_lt_of_cell? w _ c0
  have n1 : ¬ b = w.heap.size := by omega
  have n2 : ¬ g = w.heap.size := by omega
  unfold tokV
  generalize Gram.tk T i = x at c0 c1 c2 c3 c4 c5
  clear h
  go_enter Tryz.func37, Tryz.ntmps37
  go_wp2
  go_region
  go_wp2
  (try simp only [Exit.inBlock, Exit.then])
  exact bodyPost_ret (results_cell_row rfl _ _ w.heap.size 100 _ (0, 0) _ rfl (heap_alloc_new w _) Tryz.underlying100 rfl (by kernel_rfl)) rfl ⟨rfl, gdrew (World.grownBy_alloc w _ none)⟩

set_option maxHeartbeats 800000 in
set_option maxRecDepth 20000 in
theorem gfail_any (er : Int) (w : World) (h : Pa w b g cap rv T i d) :
    Calls Tryz.prog 82 #[.pointer (some ⟨b, 0, none⟩), .int .i64 er] w fun e w' => gBad w b ((Gram.tk T i).at_ : Int) er e w' := by
  have hn := gnext_any b g cap rv T i d w h
  generalize Gram.tk T i = x at hn
  have hf := fldAt x
  go_enter Tryz.func82, Tryz.ntmps82
  go_wp2_with (go_at_call 37; refine hn.mono ?_; rintro e w1 ⟨rfl, hg1⟩)
  exact ⟨rfl, rfl, grown_some hg1 b⟩

set_option maxHeartbeats 800000 in
set_option maxRecDepth 20000 in
theorem gsees_any (s : ByteArray) (w : World) (h : Pa w b g cap rv T i d) :
    Calls Tryz.prog 76 #[.pointer (some ⟨b, 0, none⟩), .string s] w fun e w' => e = .returned (.bool (Gram.sees T i s.data.toList)) ∧ w.grownBy w' none := by
  have hn := gnext_any b g cap rv T i d w h
  unfold Gram.sees
  generalize Gram.tk T i = x at hn
  have hf := fldText x
  go_enter Tryz.func76, Tryz.ntmps76
  go_wp2_with (go_at_call 37; refine hn.mono ?_; rintro e w1 ⟨rfl, hg1⟩)
  go_ret
  exact ⟨ret_bool (by rw [ByteArray.toList_eq]), hg1⟩

set_option maxHeartbeats 800000 in
set_option maxRecDepth 20000 in
theorem gname_sees (w : World) (h : Pa w b g cap rv T i d) :
    Calls Tryz.prog 121 #[.pointer (some ⟨b, 0, none⟩)] w fun e w' => e = .returned (.bool (Gram.isName T i)) ∧ w.grownBy w' none := by
  have hn := gnext_any b g cap rv T i d w h
  unfold Gram.isName
  generalize Gram.tk T i = x at hn
  have hf := fldKind x
  go_enter Tryz.func121, Tryz.ntmps121
  go_wp2_with (go_at_call 37; refine hn.mono ?_; rintro e w1 ⟨rfl, hg1⟩)
  go_ret
  exact ⟨rfl, hg1⟩

set_option maxHeartbeats 800000 in
set_option maxRecDepth 20000 in
theorem gnum_sees (w : World) (h : Pa w b g cap rv T i d) :
    Calls Tryz.prog 167 #[.pointer (some ⟨b, 0, none⟩)] w fun e w' => e = .returned (.bool (Gram.isNum T i)) ∧ w.grownBy w' none := by
  have hn := gnext_any b g cap rv T i d w h
  unfold Gram.isNum
  generalize Gram.tk T i = x at hn
  have hf := fldKind x
  go_enter Tryz.func167, Tryz.ntmps167
  go_wp2_with (go_at_call 37; refine hn.mono ?_; rintro e w1 ⟨rfl, hg1⟩)
  go_ret
  exact ⟨rfl, hg1⟩

set_option maxHeartbeats 800000 in
set_option maxRecDepth 20000 in
theorem gtake_any (w : World) (h : Pa w b g cap rv T i d) (hi : i + 1 < T.length) :
    Calls Tryz.prog 120 #[.pointer (some ⟨b, 0, none⟩)] w fun e w' => e = .returned (tokV (Gram.tk T i)) ∧ Pa w' b g cap rv T (i + 1) d ∧ w.grownBy w' (some b) := by
  have hm := h.toks.most
  have hP := h.alloc (.cells #[.int .i64 0, .string ⟨#[]⟩, .int .i64 0, .int .i64 0, .int .i64 0, .int .i64 0] 100)
  have hn := gnext_any b g cap rv T i d _ hP
  have hx : tokV (Gram.tk T i) = .agg #[.int .i64 (Gram.tk T i).kind, .string ⟨(Gram.tk T i).text.toArray⟩, .int .i64 (Gram.tk T i).n, .int .i64 (Gram.tk T i).t, .int .i64 0, .int .i64 ((Gram.tk T i).at_ : Int)] := rfl
  rw [hx] at hn ⊢
  generalize Gram.tk T i = x at hn
  clear hx
  have HH := Lib.hid h
  have HP := Lib.hid hP
  clear h hP
  go_enter Tryz.func120, Tryz.ntmps120
  go_wp2_with (go_at_call 37; refine hn.mono ?_; rintro e w1 ⟨rfl, hg1⟩; refine Hid.out ?_)
  have hP1 := HP.out.kept hg1
  have p1 := hP1.st.c1
  have f1 := hP1.st.fr 1
  have hbl := hP1.bl
  have hne : ¬ b = w1.heap.size := by omega
  refine Lib.hid ?_
  go_wp2_with (with_reducible refine hold_st 2 ?_)
  obtain ⟨W, hW⟩ : ∃ W, W = (w1.setCell ⟨b, 1, none⟩ (.int .i64 ((i : Int) + 1))).alloc (.cells #[.int .i64 x.kind, .string ⟨x.text.toArray⟩, .int .i64 x.n, .int .i64 x.t, .int .i64 0, .int .i64 (x.at_ : Int)] 100) := ⟨_, rfl⟩
  rw [← hW]
  have hgW : (w.alloc tok0).grownBy W (some b) := by rw [hW]; exact galloc (gset (grown_some hg1 b) (.inr rfl) _) _
  have hPW : Pst W b (.slice (some ⟨g, 0, none⟩) T.length cap) rv (i + 1) d := by
    have := (hP1.st.setAt (i + 1)).kept (World.grownBy_alloc _ (.cells #[.int .i64 x.kind, .string ⟨x.text.toArray⟩, .int .i64 x.n, .int .i64 x.t, .int .i64 0, .int .i64 (x.at_ : Int)] 100) none) (by simp)
    rw [hW]; exact this
  clear hW
  have hbw : b < w.heap.size := HH.out.bl
  refine Lib.hid ?_
  refine wpList_store_gen rfl _ _ _ rfl w.heap.size _ rfl rfl 100 _ ((hgW.block w.heap.size (by simp) (by simp; omega)).trans (heap_alloc_new w tok0)) (by kernel_rfl) rfl (by simp [Value.oneCell']) ?_
  intro w3 hh3 hg3
  go_wp2
  (try simp only [Exit.inBlock, Exit.then])
  refine bodyPost_ret (results_cell_row rfl _ _ w.heap.size 100 _ (0, 0) _ rfl hh3 Tryz.underlying100 rfl (by kernel_rfl)) rfl ?_
  have hG : w.grownBy w3 (some b) := (grown_some (World.grownBy_alloc w tok0 none) b).trans hgW |>.andThen hg3 (fun j e => .inl (by cases e; exact Nat.le_refl _))
  exact ⟨rfl, HH.out.to hG (hPW.kept hg3 (by simp; omega)) hi, hG⟩

set_option maxHeartbeats 800000 in
set_option maxRecDepth 20000 in
theorem gneed_yes (w : World) : Calls Tryz.prog 36 #[.pointer (some ⟨b, 0, none⟩), .bool true] w fun e w' => e = .returned (.tuple #[]) ∧ w' = w := by
  go_enter Tryz.func36, Tryz.ntmps36
  go_wp2
  go_end0
  exact ⟨rfl, rfl⟩

set_option maxHeartbeats 800000 in
set_option maxRecDepth 20000 in
theorem gneed_no (w : World) (h : Pa w b g cap rv T i d) : Calls Tryz.prog 36 #[.pointer (some ⟨b, 0, none⟩), .bool false] w fun e w' => gBad w b ((Gram.tk T i).at_ : Int) 12 e w' := by
  have hf := gfail_any b g cap rv T i d 12 w h
  go_enter Tryz.func36, Tryz.ntmps36
  go_wp2_with (go_at_call 82; refine hf.mono ?_; rintro e w1 ⟨rfl, hg1⟩)
  exact ⟨rfl, rfl, hg1⟩

set_option maxHeartbeats 800000 in
set_option maxRecDepth 20000 in
theorem groom_yes (has most : Int) (hm : has < most) (w : World) : Calls Tryz.prog 75 #[.pointer (some ⟨b, 0, none⟩), .int .i64 has, .int .i64 most] w fun e w' => e = .returned (.tuple #[]) ∧ w' = w := by
  go_enter Tryz.func75, Tryz.ntmps75
  go_wp2
  go_end0
  exact ⟨rfl, rfl⟩

set_option maxHeartbeats 800000 in
set_option maxRecDepth 20000 in
theorem groom_no (has most : Int) (hm : most ≤ has) (w : World) (h : Pa w b g cap rv T i d) : Calls Tryz.prog 75 #[.pointer (some ⟨b, 0, none⟩), .int .i64 has, .int .i64 most] w fun e w' => gBad w b ((Gram.tk T i).at_ : Int) 2 e w' := by
  have hf := gfail_any b g cap rv T i d 2 w h
  go_enter Tryz.func75, Tryz.ntmps75
  go_wp2_with (go_at_call 82; refine hf.mono ?_; rintro e w1 ⟨rfl, hg1⟩)
  exact ⟨rfl, rfl, hg1⟩
end

end Go.Proofs.YtachmiajldeakaaGreatDoor

/- gram's small methods, on: accept, expect, name, size, kind, and the tests of what stands next. -/
namespace Go.Proofs.YtachmiajldeakaaGreatDoor
open Go.RowKit Go.Maps Go.WideMaps

section
variable (b g cap : Nat) (rv : Value) (T : List Lex.Tk) (i d : Nat)

set_option maxHeartbeats 800000 in
set_option maxRecDepth 20000 in
theorem gaccept_no (s : ByteArray) (w : World) (h : Pa w b g cap rv T i d) (hs : Gram.sees T i s.data.toList = false) :
    Calls Tryz.prog 123 #[.pointer (some ⟨b, 0, none⟩), .string s] w fun e w' => e = .returned (.bool false) ∧ w.grownBy w' none := by
  have hn := gsees_any b g cap rv T i d s w h
  rw [hs] at hn
  go_enter Tryz.func123, Tryz.ntmps123
  go_wp2_with (go_at_call 76; refine hn.mono ?_; rintro e w1 ⟨rfl, hg1⟩)
  go_ret
  exact ⟨rfl, hg1⟩

set_option maxHeartbeats 800000 in
set_option maxRecDepth 20000 in
theorem gaccept_yes (s : ByteArray) (w : World) (h : Pa w b g cap rv T i d) (hs : Gram.sees T i s.data.toList = true) (hi : i + 1 < T.length) :
    Calls Tryz.prog 123 #[.pointer (some ⟨b, 0, none⟩), .string s] w fun e w' => e = .returned (.bool true) ∧ Pa w' b g cap rv T (i + 1) d ∧ w.grownBy w' (some b) := by
  have hn := gsees_any b g cap rv T i d s w h
  rw [hs] at hn
  have ht := fun wx (hx : w.grownBy wx none) => gtake_any b g cap rv T i d wx (h.kept hx) hi
  go_enter Tryz.func123, Tryz.ntmps123
  go_wp2_with (first | (go_at_call 76; refine hn.mono ?_; rintro e w1 ⟨rfl, hg1⟩) | (go_at_call 120; refine (ht _ hg1).mono ?_; rintro e w2 ⟨rfl, hP2, hg2⟩))
  go_ret
  exact ⟨rfl, hP2, (grown_some hg1 b).trans hg2⟩

set_option maxHeartbeats 800000 in
set_option maxRecDepth 20000 in
theorem gexpect_no (s : ByteArray) (w : World) (h : Pa w b g cap rv T i d) (hs : Gram.sees T i s.data.toList = false) :
    Calls Tryz.prog 77 #[.pointer (some ⟨b, 0, none⟩), .string s] w fun e w' => gBad w b ((Gram.tk T i).at_ : Int) 12 e w' := by
  have hn := gsees_any b g cap rv T i d s _ (h.alloc tok0)
  rw [hs] at hn
  have ht := fun wx (hx : (w.alloc tok0).grownBy wx none) => gneed_no b g cap rv T i d wx ((h.alloc tok0).kept hx)
  have HH := Lib.hid h
  clear h
  go_enter Tryz.func77, Tryz.ntmps77
  go_wp2_with (first | (go_at_call 76; refine hn.mono ?_; rintro e w1 ⟨rfl, hg1⟩) | (go_at_call 36; refine (ht _ hg1).mono ?_; rintro e w2 ⟨rfl, hg2⟩))
  exact ⟨rfl, rfl, (grown_some ((World.grownBy_alloc w tok0 none).trans hg1) b).trans hg2⟩

set_option maxHeartbeats 800000 in
set_option maxRecDepth 20000 in
theorem gexpect_yes (s : ByteArray) (w : World) (h : Pa w b g cap rv T i d) (hs : Gram.sees T i s.data.toList = true) (hi : i + 1 < T.length) :
    Calls Tryz.prog 77 #[.pointer (some ⟨b, 0, none⟩), .string s] w fun e w' => e = .returned (tokV (Gram.tk T i)) ∧ Pa w' b g cap rv T (i + 1) d ∧ w.grownBy w' (some b) := by
  have hn := gsees_any b g cap rv T i d s _ (h.alloc tok0)
  rw [hs] at hn
  have ht := fun wx (hx : (w.alloc tok0).grownBy wx none) => gtake_any b g cap rv T i d wx ((h.alloc tok0).kept hx) hi
  have hy := fun wx => gneed_yes b wx
  have hbw : b < w.heap.size := h.bl
  have hx : tokV (Gram.tk T i) = .agg #[.int .i64 (Gram.tk T i).kind, .string ⟨(Gram.tk T i).text.toArray⟩, .int .i64 (Gram.tk T i).n, .int .i64 (Gram.tk T i).t, .int .i64 0, .int .i64 ((Gram.tk T i).at_ : Int)] := rfl
  rw [hx] at ht ⊢
  generalize Gram.tk T i = x at ht
  clear hx
  have HH := Lib.hid h
  clear h
  go_enter Tryz.func77, Tryz.ntmps77
  go_wp2_with (first | (go_at_call 76; refine hn.mono ?_; rintro e w1 ⟨rfl, hg1⟩) | (go_at_call 36; refine (hy _).mono ?_; rintro e w' ⟨rfl, hw9⟩; rw [hw9]; clear hw9) | (go_at_call 120; refine (ht _ hg1).mono ?_; rintro e w2 ⟨rfl, hP2, hg2⟩) | (with_reducible refine hold_st 4 ?_))
  have hgW : (w.alloc tok0).grownBy w2 (some b) := (grown_some hg1 b).trans hg2
  refine Lib.hid ?_
  refine wpList_store_gen rfl _ _ _ rfl w.heap.size _ rfl rfl 100 _ ((hgW.block w.heap.size (by simp) (by simp; omega)).trans (heap_alloc_new w tok0)) (by kernel_rfl) rfl (by simp [Value.oneCell']) ?_
  intro w3 hh3 hg3
  go_wp2
  (try simp only [Exit.inBlock, Exit.then])
  refine bodyPost_ret (results_cell_row rfl _ _ w.heap.size 100 _ (0, 0) _ rfl hh3 Tryz.underlying100 rfl (by kernel_rfl)) rfl ?_
  have hG : w.grownBy w3 (some b) := (grown_some (World.grownBy_alloc w tok0 none) b).trans hgW |>.andThen hg3 (fun j e => .inl (by cases e; exact Nat.le_refl _))
  exact ⟨rfl, HH.out.to hG (hP2.st.kept hg3 (by simp; omega)) hi, hG⟩

set_option maxHeartbeats 800000 in
set_option maxRecDepth 20000 in
theorem gname_no (w : World) (h : Pa w b g cap rv T i d) (hs : Gram.isName T i = false) :
    Calls Tryz.prog 78 #[.pointer (some ⟨b, 0, none⟩)] w fun e w' => gBad w b ((Gram.tk T i).at_ : Int) 12 e w' := by
  have hn := gname_sees b g cap rv T i d w h
  rw [hs] at hn
  have ht := fun wx (hx : w.grownBy wx none) => gneed_no b g cap rv T i d wx (h.kept hx)
  go_enter Tryz.func78, Tryz.ntmps78
  go_wp2_with (first | (go_at_call 121; refine hn.mono ?_; rintro e w1 ⟨rfl, hg1⟩) | (go_at_call 36; refine (ht _ hg1).mono ?_; rintro e w2 ⟨rfl, hg2⟩))
  exact ⟨rfl, rfl, (grown_some hg1 b).trans hg2⟩

theorem name_adv {w : World} {b g cap : Nat} {rv : Value} {T : List Lex.Tk} {i d : Nat} (h : Pa w b g cap rv T i d) (hs : Gram.isName T i = true) : i + 1 < T.length :=
  h.next (.inl (by unfold Gram.isName at hs; rw [beq_iff_eq] at hs; rw [hs]; decide))
theorem num_adv {w : World} {b g cap : Nat} {rv : Value} {T : List Lex.Tk} {i d : Nat} (h : Pa w b g cap rv T i d) (hs : Gram.isNum T i = true) : i + 1 < T.length :=
  h.next (.inl (by unfold Gram.isNum at hs; rw [beq_iff_eq] at hs; rw [hs]; decide))

set_option maxHeartbeats 800000 in
set_option maxRecDepth 20000 in
theorem gname_yes (w : World) (h : Pa w b g cap rv T i d) (hs : Gram.isName T i = true) :
    Calls Tryz.prog 78 #[.pointer (some ⟨b, 0, none⟩)] w fun e w' => e = .returned (.string ⟨(Gram.tk T i).text.toArray⟩) ∧ Pa w' b g cap rv T (i + 1) d ∧ w.grownBy w' (some b) := by
  have hn := gname_sees b g cap rv T i d w h
  have hi := name_adv h hs
  rw [hs] at hn
  have ht := fun wx (hx : w.grownBy wx none) => gtake_any b g cap rv T i d wx (h.kept hx) hi
  have hy := fun wx => gneed_yes b wx
  generalize Gram.tk T i = x at ht
  have hf := fldText x
  go_enter Tryz.func78, Tryz.ntmps78
  go_wp2_with (first | (go_at_call 121; refine hn.mono ?_; rintro e w1 ⟨rfl, hg1⟩) | (go_at_call 36; refine (hy _).mono ?_; rintro e w' ⟨rfl, hw9⟩; rw [hw9]; clear hw9) | (go_at_call 120; refine (ht _ hg1).mono ?_; rintro e w2 ⟨rfl, hP2, hg2⟩))
  go_ret
  exact ⟨rfl, hP2, (grown_some hg1 b).trans hg2⟩

set_option maxHeartbeats 800000 in
set_option maxRecDepth 20000 in
theorem gval_sees (w : World) (h : Pa w b g cap rv T i d) :
    Calls Tryz.prog 139 #[.pointer (some ⟨b, 0, none⟩)] w fun e w' => e = .returned (.bool (Gram.isVal T i)) ∧ w.grownBy w' none := by
  have hn := gnum_sees b g cap rv T i d w h
  have hx := fun wx (hx : w.grownBy wx none) => gnext_any b g cap rv T i d wx (h.kept hx)
  unfold Gram.isVal
  generalize Gram.tk T i = x at hx
  have hf := fldT x
  have hf2 := fldTk x.t 0
  rcases Bool.eq_false_or_eq_true (Gram.isNum T i) with hb | hb
  · rw [hb] at hn ⊢
    go_enter Tryz.func139, Tryz.ntmps139
    go_wp2_with (first | (go_at_call 167; refine hn.mono ?_; rintro e w1 ⟨rfl, hg1⟩) | (go_at_call 37; refine (hx _ hg1).mono ?_; rintro e w2 ⟨rfl, hg2⟩))
    go_ret
    exact ⟨ret_bool (by simp [bne]), hg1.trans hg2⟩
  · rw [hb] at hn ⊢
    go_enter Tryz.func139, Tryz.ntmps139
    go_wp2_with (first | (go_at_call 167; refine hn.mono ?_; rintro e w1 ⟨rfl, hg1⟩))
    go_ret
    exact ⟨rfl, hg1⟩

set_option maxHeartbeats 800000 in
set_option maxRecDepth 20000 in
theorem gsize_no (w : World) (h : Pa w b g cap rv T i d) (hs : (Gram.isNum T i && ((Gram.tk T i).t == 0)) = false) :
    Calls Tryz.prog 142 #[.pointer (some ⟨b, 0, none⟩)] w fun e w' => gBad w b ((Gram.tk T i).at_ : Int) 12 e w' := by
  have hn := gnum_sees b g cap rv T i d w h
  have hx := fun wx (hx : w.grownBy wx none) => gnext_any b g cap rv T i d wx (h.kept hx)
  have ht := fun wx (hx : w.grownBy wx none) => gneed_no b g cap rv T i d wx (h.kept hx)
  generalize Gram.tk T i = x at hx ht hs
  have hf := fldT x
  have hf2 := fldTk x.t 0
  rcases Bool.eq_false_or_eq_true (Gram.isNum T i) with hb | hb
  · rw [hb] at hn hs
    have hq : (x.t == 0) = false := by simpa using hs
    clear hs
    go_enter Tryz.func142, Tryz.ntmps142
    go_wp2_with (first | (go_at_call 167; refine hn.mono ?_; rintro e w1 ⟨rfl, hg1⟩) | (go_at_call 37; refine (hx _ hg1).mono ?_; rintro e w2 ⟨rfl, hg2⟩) | (go_at_call 36; refine (ht _ (hg1.trans hg2)).mono ?_; rintro e w3 ⟨rfl, hg3⟩))
    exact ⟨rfl, rfl, (grown_some (hg1.trans hg2) b).trans hg3⟩
  · rw [hb] at hn
    clear hs
    go_enter Tryz.func142, Tryz.ntmps142
    go_wp2_with (first | (go_at_call 167; refine hn.mono ?_; rintro e w1 ⟨rfl, hg1⟩) | (go_at_call 36; refine (ht _ hg1).mono ?_; rintro e w3 ⟨rfl, hg3⟩))
    exact ⟨rfl, rfl, (grown_some hg1 b).trans hg3⟩

set_option maxHeartbeats 800000 in
set_option maxRecDepth 20000 in
theorem gsize_yes (w : World) (h : Pa w b g cap rv T i d) (hs : (Gram.isNum T i && ((Gram.tk T i).t == 0)) = true) :
    Calls Tryz.prog 142 #[.pointer (some ⟨b, 0, none⟩)] w fun e w' => e = .returned (.int .i64 (Gram.tk T i).n) ∧ Pa w' b g cap rv T (i + 1) d ∧ w.grownBy w' (some b) := by
  rw [Bool.and_eq_true] at hs
  have hi := num_adv h hs.1
  have hn := gnum_sees b g cap rv T i d w h
  rw [hs.1] at hn
  have hx := fun wx (hx : w.grownBy wx none) => gnext_any b g cap rv T i d wx (h.kept hx)
  have ht := fun wx (hx : w.grownBy wx none) => gtake_any b g cap rv T i d wx (h.kept hx) hi
  have hy := fun wx => gneed_yes b wx
  have hq := hs.2
  clear hs
  generalize Gram.tk T i = x at hx ht hq
  have hf := fldT x
  have hf2 := fldTk x.t 0
  have hf3 := fldN x
  go_enter Tryz.func142, Tryz.ntmps142
  go_wp2_with (first | (go_at_call 167; refine hn.mono ?_; rintro e w1 ⟨rfl, hg1⟩) | (go_at_call 37; refine (hx _ hg1).mono ?_; rintro e w2 ⟨rfl, hg2⟩) | (go_at_call 36; refine (hy _).mono ?_; rintro e w' ⟨rfl, hw9⟩; rw [hw9]; clear hw9) | (go_at_call 120; refine (ht _ (hg1.trans hg2)).mono ?_; rintro e w3 ⟨rfl, hP3, hg3⟩))
  go_ret
  exact ⟨rfl, hP3, (grown_some (hg1.trans hg2) b).trans hg3⟩
end

end Go.Proofs.YtachmiajldeakaaGreatDoor

/- How lists and expressions lie in memory; and the walks of literal and join. -/
namespace Go.Proofs.YtachmiajldeakaaGreatDoor
open Go.RowKit Go.Maps Go.WideMaps

/-- what a cell holds: a plain value, or a list of rows of cells -/
inductive D where
  | c (v : Value)
  | l (e : TypeId) (sz : Nat) (rows : List (List D))

mutual
/-- a value is that datum, all its lists in blocks from B on, none of them in a block of E -/
inductive RepC (w : World) (B : Nat) (E : List Nat) : D → Value → Prop
  | c (v : Value) : RepC w B E (.c v) v
  | l {e : TypeId} {sz : Nat} {rows : List (List D)} {v : Value} {xs : List Value} : w.ownsRow B e sz v rows.length xs → (∀ k ∈ E, v.ownBlock ≠ some k) → RepRow w B E rows.flatten xs → RepC w B E (.l e sz rows) v
inductive RepRow (w : World) (B : Nat) (E : List Nat) : List D → List Value → Prop
  | nil : RepRow w B E [] []
  | cons {d : D} {v : Value} {ds : List D} {vs : List Value} : RepC w B E d v → RepRow w B E ds vs → RepRow w B E (d :: ds) (v :: vs)
end

mutual
theorem RepC.keptX {w w' : World} {B : Nat} {E : List Nat} {row : Option Nat} (hg : w.grownBy w' row) (hr : ∀ k, row = some k → k < B ∨ k ∈ E) : ∀ {d : D} {v : Value}, RepC w B E d v → RepC w' B E d v
  | _, _, .c v => .c v
  | _, v, .l ho hE h => .l (ho.kept hg (by
      cases hv : v.ownBlock with
      | none => exact .inl rfl
      | some k => exact .inr (fun e => by
          rcases hr k e.symm with h2 | h2
          · have h1 := (ho.lt k hv).1; omega
          · exact hE k h2 hv))) hE (RepRow.keptX hg hr h)
theorem RepRow.keptX {w w' : World} {B : Nat} {E : List Nat} {row : Option Nat} (hg : w.grownBy w' row) (hr : ∀ k, row = some k → k < B ∨ k ∈ E) : ∀ {ds : List D} {vs : List Value}, RepRow w B E ds vs → RepRow w' B E ds vs
  | _, _, .nil => .nil
  | _, _, .cons h t => .cons (RepC.keptX hg hr h) (RepRow.keptX hg hr t)
end
theorem RepC.kept {w w' : World} {B : Nat} {E : List Nat} {row : Option Nat} (hg : w.grownBy w' row) (hr : ∀ k, row = some k → k < B) {d : D} {v : Value} (h : RepC w B E d v) : RepC w' B E d v := RepC.keptX hg (fun k e => .inl (hr k e)) h
mutual
theorem RepC.mono {w : World} {B B' : Nat} {E : List Nat} (hB : B' ≤ B) : ∀ {d : D} {v : Value}, RepC w B E d v → RepC w B' E d v
  | _, _, .c v => .c v
  | _, _, .l ho hE h => .l (ho.mono hB) hE (RepRow.mono hB h)
theorem RepRow.mono {w : World} {B B' : Nat} {E : List Nat} (hB : B' ≤ B) : ∀ {ds : List D} {vs : List Value}, RepRow w B E ds vs → RepRow w B' E ds vs
  | _, _, .nil => .nil
  | _, _, .cons h t => .cons (RepC.mono hB h) (RepRow.mono hB t)
end
mutual
theorem RepC.noX {w : World} {B : Nat} {E : List Nat} : ∀ {d : D} {v : Value}, RepC w B E d v → RepC w B [] d v
  | _, _, .c v => .c v
  | _, _, .l ho _ h => .l ho (fun _ e => by cases e) (RepRow.noX h)
theorem RepRow.noX {w : World} {B : Nat} {E : List Nat} : ∀ {ds : List D} {vs : List Value}, RepRow w B E ds vs → RepRow w B [] ds vs
  | _, _, .nil => .nil
  | _, _, .cons h t => .cons (RepC.noX h) (RepRow.noX t)
end
mutual
/-- a block that is not there yet, or lies ahead of all, is none of them -/
theorem RepC.toX {w : World} {B : Nat} (E : List Nat) (hE : ∀ k ∈ E, w.heap.size ≤ k ∨ k < B) : ∀ {d : D} {v : Value}, RepC w B [] d v → RepC w B E d v
  | _, _, .c v => .c v
  | _, _, .l ho _ h => .l ho (fun k e hv => by have h1 := hE k e; have h2 := ho.lt _ hv; omega) (RepRow.toX E hE h)
theorem RepRow.toX {w : World} {B : Nat} (E : List Nat) (hE : ∀ k ∈ E, w.heap.size ≤ k ∨ k < B) : ∀ {ds : List D} {vs : List Value}, RepRow w B [] ds vs → RepRow w B E ds vs
  | _, _, .nil => .nil
  | _, _, .cons h t => .cons (RepC.toX E hE h) (RepRow.toX E hE t)
end
theorem RepRow.append {w : World} {B : Nat} {E : List Nat} : ∀ {ds : List D} {vs : List Value} {es : List D} {us : List Value}, RepRow w B E ds vs → RepRow w B E es us → RepRow w B E (ds ++ es) (vs ++ us)
  | _, _, _, _, .nil, h => h
  | _, _, _, _, .cons a t, h => .cons a (RepRow.append t h)
theorem RepC.nil (w : World) (B : Nat) (E : List Nat) (e : TypeId) (sz : Nat) : RepC w B E (.l e sz []) (.slice none 0 0) := .l (World.ownsRow_nil w B e sz) (fun _ _ h => by simp [Value.ownBlock] at h) .nil
/-- a list of one row more -/
theorem RepC.snoc {w : World} {B : Nat} {e : TypeId} {sz : Nat} {rows : List (List D)} {r : List D} {v : Value} {xs ys : List Value} (ho : w.ownsRow B e sz v (rows.length + 1) (xs ++ ys)) (h : RepRow w B [] rows.flatten xs) (hr : RepRow w B [] r ys) : RepC w B [] (.l e sz (rows ++ [r])) v := by
  refine .l (xs := xs ++ ys) (by simpa using ho) (fun _ e => by cases e) ?_
  rw [List.flatten_append]
  simpa using h.append hr
/-- a row that was just laid -/
theorem owns_new {w : World} {B : Nat} (e : TypeId) (sz n : Nat) (cs : List Value) (hB : B ≤ w.heap.size) (hl : cs.length = n * sz) (hn : n ≤ maxLen) : (w.alloc (.cells cs.toArray e)).ownsRow B e sz (.slice (some ⟨w.heap.size, 0, none⟩) n n) n cs :=
  ⟨hl, .inr ⟨w.heap.size, n, cs.toArray, rfl, hB, heap_alloc_new w _, Nat.le_refl _, hn, by simpa using hl, by rw [← hl]; simp⟩⟩

mutual
/-- an expression's nine cells -/
def expD : Gram.Exp → List D
  | .mk f s nm tk tl n m ks a => [.c (.int .i64 f), .c (.int .i64 s), .c (.string ⟨nm.toArray⟩), .c (.int .i64 tk), .c (.int .i64 tl), .c (.int .i64 n), .c (.int .i64 m), .l 28 9 (expsD ks), .c (.int .i64 a)]
def expsD : List Gram.Exp → List (List D)
  | [] => []
  | e :: r => expD e :: expsD r
end
theorem expsD_append : ∀ (l m : List Gram.Exp), expsD (l ++ m) = expsD l ++ expsD m
  | [], _ => by simp [expsD]
  | e :: r, m => by simp [expsD, expsD_append r m]
theorem expsD_len : ∀ l : List Gram.Exp, (expsD l).length = l.length
  | [] => rfl
  | e :: r => by simp [expsD, expsD_len r]
/-- an expression as a value, its list of parts in k -/
def expV (x : Gram.Exp) (k : Value) : Value :=
  match x with
  | .mk f s nm tk tl n m _ a => .agg #[.int .i64 f, .int .i64 s, .string ⟨nm.toArray⟩, .int .i64 tk, .int .i64 tl, .int .i64 n, .int .i64 m, k, .int .i64 a]
/-- k is the list of these expressions -/
def Kids (w : World) (B : Nat) (l : List Gram.Exp) (k : Value) : Prop := RepC w B [] (.l 28 9 (expsD l)) k
/-- and none of its lists lies in block E -/
def KidsX (w : World) (B : Nat) (E : List Nat) (l : List Gram.Exp) (k : Value) : Prop := RepC w B E (.l 28 9 (expsD l)) k
theorem Kids.kept {w w' : World} {B : Nat} {l : List Gram.Exp} {k : Value} {b : Nat} (h : Kids w B l k) (hg : w.grownBy w' (some b)) (hb : b < B) : Kids w' B l k := RepC.kept hg (fun k e => by cases e; exact hb) h
theorem Kids.kept0 {w w' : World} {B : Nat} {l : List Gram.Exp} {k : Value} (h : Kids w B l k) (hg : w.grownBy w' none) : Kids w' B l k := RepC.kept hg (fun k e => by cases e) h
theorem Kids.mono {w : World} {B B' : Nat} {l : List Gram.Exp} {k : Value} (h : Kids w B l k) (hB : B' ≤ B) : Kids w B' l k := RepC.mono hB h
theorem Kids.nil (w : World) (B : Nat) : Kids w B [] (.slice none 0 0) := RepC.nil w B _ _ _
/-- the nine cells of an expression -/
def expCells (x : Gram.Exp) (k : Value) : List Value :=
  match x with
  | .mk f s nm tk tl n m _ a => [.int .i64 f, .int .i64 s, .string ⟨nm.toArray⟩, .int .i64 tk, .int .i64 tl, .int .i64 n, .int .i64 m, k, .int .i64 a]
theorem expV_cells (x : Gram.Exp) (k : Value) : expV x k = .agg (expCells x k).toArray := by cases x; rfl
theorem exp_row {w : World} {B : Nat} {E : List Nat} {x : Gram.Exp} {k : Value} (h : KidsX w B E x.kids k) : RepRow w B E (expD x) (expCells x k) := by
  cases x with
  | mk f s nm tk tl n m ks a =>
    simp only [expD, expCells]
    exact .cons (.c _) (.cons (.c _) (.cons (.c _) (.cons (.c _) (.cons (.c _) (.cons (.c _) (.cons (.c _) (.cons h (.cons (.c _) .nil))))))))
theorem Kids.one {w : World} {B : Nat} {x : Gram.Exp} {k v : Value} (ho : w.ownsRow B 28 9 v 1 (expCells x k)) (h : Kids w B x.kids k) : Kids w B [x] v := by
  refine .l (xs := expCells x k) (by simpa [expsD] using ho) (fun _ e => by cases e) ?_
  simpa [expsD] using exp_row (E := []) h
theorem KidsX.two {w : World} {B : Nat} {E : List Nat} {x y : Gram.Exp} {k l v : Value} (ho : w.ownsRow B 28 9 v 2 (expCells x k ++ expCells y l)) (hE : ∀ k ∈ E, v.ownBlock ≠ some k) (h : KidsX w B E x.kids k) (h2 : KidsX w B E y.kids l) : KidsX w B E [x, y] v := by
  refine .l (xs := expCells x k ++ expCells y l) (by simpa [expsD] using ho) hE ?_
  simpa [expsD] using (exp_row h).append (exp_row h2)

/-- what a part of the parser that reads an expression does -/
def ePost (w : World) (b g cap : Nat) (rv : Value) (T : List Lex.Tk) (d : Nat) (r : Gram.PR Gram.Exp) (e : Ending) (w' : World) : Prop :=
  match r with
  | .ok x i => ∃ k, e = .returned (expV x k) ∧ Kids w' w.heap.size x.kids k ∧ Pa w' b g cap rv T i d ∧ w.grownBy w' (some b)
  | .bad a er => gBad w b a er e w'
  | .fuel => False

def exp0 : Obj := .cells #[.int .i64 0, .int .i64 0, .string ⟨#[]⟩, .int .i64 0, .int .i64 0, .int .i64 0, .int .i64 0, .slice none 0 0, .int .i64 0] 28

set_option maxHeartbeats 800000 in
set_option maxRecDepth 20000 in
theorem gliteral_any (k n a : Int) (w : World) :
    Calls Tryz.prog 168 #[.int .i64 k, .int .i64 n, .int .i64 a] w fun e w' => e = .returned (expV (Gram.literal k n a) (.slice none 0 0)) ∧ w.grownBy w' none := by
  unfold Gram.literal expV
  go_enter Tryz.func168, Tryz.ntmps168
  go_wp2
  (try simp only [Exit.inBlock, Exit.then])
  exact bodyPost_ret (results_cell_row rfl _ _ w.heap.size 28 _ (0, 0) _ rfl (heap_alloc_new w _) Tryz.underlying28 rfl (by kernel_rfl)) rfl ⟨rfl, World.grownBy_alloc w _ none⟩

/-- a sign as a value -/
def signV (s : Gram.B × Int × Int) : Value := .agg #[.string ⟨s.1.toArray⟩, .int .i64 s.2.1, .int .i64 s.2.2]

theorem heap_at3 (w : World) (A X Y R S : Obj) : (((((w.alloc A).alloc X).alloc Y).alloc R).alloc S).heap[w.heap.size + 1 + 1 + 1]? = some R := by
  have h := heap_alloc2_old (((w.alloc A).alloc X).alloc Y) R S
  rw [World.size_alloc, World.size_alloc, World.size_alloc] at h
  exact h
theorem owns_at4 (w : World) (A X Y R : Obj) {B : Nat} (e : TypeId) (sz n : Nat) (cs : List Value) (hB : B ≤ w.heap.size) (hl : cs.length = n * sz) (hn : n ≤ maxLen) :
    (((((w.alloc A).alloc X).alloc Y).alloc R).alloc (.cells cs.toArray e)).ownsRow B e sz (.slice (some ⟨w.heap.size + 1 + 1 + 1 + 1, 0, none⟩) n n) n cs := by
  have h := owns_new (w := (((w.alloc A).alloc X).alloc Y).alloc R) (B := B) e sz n cs (by simp only [World.size_alloc]; omega) hl hn
  rw [World.size_alloc, World.size_alloc, World.size_alloc, World.size_alloc] at h
  exact h

set_option maxHeartbeats 1600000 in
set_option maxRecDepth 20000 in
theorem gjoinX_any (s : Gram.B × Int × Int) (x y : Gram.Exp) (k l : Value) (B : Nat) (E : List Nat) (w : World) (hB : B ≤ w.heap.size) (hE : ∀ k ∈ E, k < w.heap.size) (hx : KidsX w B E x.kids k) (hy : KidsX w B E y.kids l) :
    Calls Tryz.prog 115 #[signV s, expV x k, expV y l] w fun e w' => (∃ v, e = .returned (expV (Gram.join s x y) v) ∧ KidsX w' B E [x, y] v) ∧ w.grownBy w' none := by
  have hx0 := hx
  have hy0 := hy
  clear hx hy
  unfold Gram.join
  cases x with
  | mk f1 s1 nm1 tk1 tl1 n1 m1 ks1 a1 =>
  cases y with
  | mk f2 s2 nm2 tk2 tl2 n2 m2 ks2 a2 =>
  have HX := Lib.hid hx0
  have HY := Lib.hid hy0
  clear hx0 hy0
  unfold expV signV
  simp only [Gram.Exp.at_]
  go_enter Tryz.func115, Tryz.ntmps115
  go_wp2
  refine bodyPost_ret (results_cell_row rfl _ _ (w.heap.size + 1 + 1 + 1) 28 _ (0, 0) _ rfl (heap_at3 _ _ _ _ _ _) Tryz.underlying28 rfl (by kernel_rfl)) rfl ?_
  have hg := fun A X Y R S => galloc (galloc (galloc (galloc (World.grownBy_alloc w A none) X) Y) R) S
  refine ⟨⟨_, rfl, KidsX.two (owns_at4 w _ _ _ _ 28 9 2 (expCells (.mk f1 s1 nm1 tk1 tl1 n1 m1 ks1 a1) k ++ expCells (.mk f2 s2 nm2 tk2 tl2 n2 m2 ks2 a2) l) hB rfl (by unfold maxLen; omega)) (fun k e hv => by have := hE k e; simp [Value.ownBlock] at hv; omega) (RepC.kept (hg _ _ _ _ _) (fun k e => by cases e) HX.out) (RepC.kept (hg _ _ _ _ _) (fun k e => by cases e) HY.out)⟩, hg _ _ _ _ _⟩

theorem gjoin_any (s : Gram.B × Int × Int) (x y : Gram.Exp) (k l : Value) (B : Nat) (w : World) (hB : B ≤ w.heap.size) (hx : Kids w B x.kids k) (hy : Kids w B y.kids l) :
    Calls Tryz.prog 115 #[signV s, expV x k, expV y l] w fun e w' => (∃ v, e = .returned (expV (Gram.join s x y) v) ∧ Kids w' B [x, y] v) ∧ w.grownBy w' none :=
  gjoinX_any s x y k l B [] w hB (fun _ e => by cases e) hx hy

end Go.Proofs.YtachmiajldeakaaGreatDoor

/- gram's tests of what stands next, kinds and signs. -/
namespace Go.Proofs.YtachmiajldeakaaGreatDoor
open Go.RowKit Go.Maps Go.WideMaps

theorem ret_t' {b : Bool} (h : b = true) : Ending.returned (.bool true) = .returned (.bool b) := by rw [h]

section
variable (b g cap : Nat) (rv : Value) (T : List Lex.Tk) (i d : Nat)

set_option maxHeartbeats 3200000 in
set_option maxRecDepth 20000 in
theorem gexp_sees (w : World) (h : Pa w b g cap rv T i d) :
    Calls Tryz.prog 170 #[.pointer (some ⟨b, 0, none⟩)] w fun e w' => e = .returned (.bool (Gram.seesExp T i)) ∧ w.grownBy w' none := by
  have hn := gnext_any b g cap rv T i d w h
  have hN := fun wx (hx : w.grownBy wx none) => gname_sees b g cap rv T i d wx (h.kept hx)
  have hV := fun wx (hx : w.grownBy wx none) => gval_sees b g cap rv T i d wx (h.kept hx)
  unfold Gram.seesExp
  generalize Gram.tk T i = x at hn
  have hf := fldText x
  generalize Gram.isName T i = bn at hN
  generalize Gram.isVal T i = bv at hV
  clear h
  rcases Bool.eq_false_or_eq_true (Gram.expWords.contains x.text) with hc | hc
  · rw [hc]
    have HC : Hid (x.text ∈ Gram.expWords) := Lib.hid (by simpa using hc)
    clear hc hN hV
    go_enter Tryz.func170, Tryz.ntmps170
    go_wp2_with (first | (go_at_call 37; refine hn.mono ?_; rintro e w1 ⟨rfl, hg1⟩) | (go_at_call 121; refine Hid.out ?_))
    all_goals first
      | (go_ret; exact ⟨by simp, hg1⟩)
      | (exfalso
         have hm := HC.out
         clear HC hn hf
         simp only [Gram.expWords, List.mem_cons, List.not_mem_nil, or_false] at hm
         simp only [beq_eq_false_iff_ne, ne_eq] at *
         simp_all)
  · rw [hc]
    have HC : Hid (¬ x.text ∈ Gram.expWords) := Lib.hid (by simpa using hc)
    clear hc
    rcases Bool.eq_false_or_eq_true bn with hb | hb
    · subst hb
      go_enter Tryz.func170, Tryz.ntmps170
      go_wp2_with (first | (go_at_call 37; refine hn.mono ?_; rintro e w1 ⟨rfl, hg1⟩) | (go_at_call 121; refine (hN _ hg1).mono ?_; rintro e w2 ⟨rfl, hg2⟩))
      all_goals first
        | (go_ret; exact ⟨by simp, hg1.trans hg2⟩)
        | (exfalso; rename_i hq; exact HC.out (by rw [beq_iff_eq.1 hq]; decide))
    · subst hb
      go_enter Tryz.func170, Tryz.ntmps170
      go_wp2_with (first | (go_at_call 37; refine hn.mono ?_; rintro e w1 ⟨rfl, hg1⟩) | (go_at_call 121; refine (hN _ hg1).mono ?_; rintro e w2 ⟨rfl, hg2⟩) | (go_at_call 139; refine (hV _ (hg1.trans hg2)).mono ?_; rintro e w3 ⟨rfl, hg3⟩))
      all_goals first
        | (go_ret; exact ⟨by simp, (hg1.trans hg2).trans hg3⟩)
        | (exfalso; rename_i hq; exact HC.out (by rw [beq_iff_eq.1 hq]; decide))
end

end Go.Proofs.YtachmiajldeakaaGreatDoor

/- gram's signs: the one of a level's signs that stands next is taken. -/
namespace Go.Proofs.YtachmiajldeakaaGreatDoor
open Go.RowKit Go.Maps Go.WideMaps

theorem flat3 {α : Type} (f : α → List Value) (hf : ∀ x, (f x).length = 3) (l : List α) (t : Nat) (h : t < l.length) (j : Nat) (hj : j < 3) : (l.flatMap f)[t * 3 + j]? = (f l[t])[j]? := by
  induction l generalizing t with
  | nil => simp at h
  | cons x r ih =>
    cases t with
    | zero =>
      simp only [List.flatMap_cons, Nat.zero_mul, Nat.zero_add, List.getElem_cons_zero]
      rw [List.getElem?_append_left (by rw [hf]; exact hj)]
    | succ t =>
      simp only [List.flatMap_cons, List.getElem_cons_succ]
      rw [List.getElem?_append_right (by rw [hf]; omega), ← ih t (by simpa using h), hf]
      congr 1
      omega
theorem rule_fn (b h lv : Nat) (hl : lv < 12) : (ruleCells b h)[lv * 2]? = some (.func (.func (ruleFn lv)) #[.pointer (some ⟨b, 0, none⟩)] #[]) := by
  have hc : lv = 0 ∨ lv = 1 ∨ lv = 2 ∨ lv = 3 ∨ lv = 4 ∨ lv = 5 ∨ lv = 6 ∨ lv = 7 ∨ lv = 8 ∨ lv = 9 ∨ lv = 10 ∨ lv = 11 := by omega
  rcases hc with rfl | rfl | rfl | rfl | rfl | rfl | rfl | rfl | rfl | rfl | rfl | rfl <;> rfl
theorem rule_signs (b h lv : Nat) (hl : lv < 11) : (ruleCells b h)[lv * 2 + 1]? = some (.slice (some ⟨h + lv, 0, none⟩) (Gram.signs lv).length (Gram.signs lv).length) := by
  have hc : lv = 0 ∨ lv = 1 ∨ lv = 2 ∨ lv = 3 ∨ lv = 4 ∨ lv = 5 ∨ lv = 6 ∨ lv = 7 ∨ lv = 8 ∨ lv = 9 ∨ lv = 10 := by omega
  rcases hc with rfl | rfl | rfl | rfl | rfl | rfl | rfl | rfl | rfl | rfl | rfl <;> rfl
theorem signs_len (lv : Nat) : (Gram.signs lv).length ≤ 6 := by
  unfold Gram.signs; split <;> decide
theorem sign_ne (lv : Nat) : ∀ s ∈ Gram.signs lv, s.1 ≠ [] := by
  unfold Gram.signs; split <;> decide

def sign0 : Obj := .cells #[.string ⟨#[]⟩, .int .i64 0, .int .i64 0] 125
/-- what sign does -/
def sPost (w : World) (b g cap : Nat) (rv : Value) (T : List Lex.Tk) (i d : Nat) (r : Option (Gram.B × Int × Int)) (e : Ending) (w' : World) : Prop :=
  match r with
  | some s => e = .returned (.tuple #[signV s, .bool true]) ∧ Pa w' b g cap rv T (i + 1) d ∧ w.grownBy w' (some b)
  | none => e = .returned (.tuple #[.agg #[.string ⟨#[]⟩, .int .i64 0, .int .i64 0], .bool false]) ∧ w.grownBy w' none

section
variable (b g cap : Nat) (rv : Value) (T : List Lex.Tk) (i d : Nat)

theorem len_signs (a : Option Addr) (len cap : Nat) (ty : TypeId) (wx : World) : (Builtin.len_ #[126] ty #[.slice a len cap]).run Tryz.prog wx = .ok (.int .i64 (len : Int)) wx := by
  simp [Builtin.len_, run_underlying Tryz.underlying126, goInt, Result.andThen]

set_option maxHeartbeats 1600000 in
set_option maxRecDepth 20000 in
theorem gsign_any (lv : Nat) (hlv : lv < 11) (w : World) (h : Pa w b g cap rv T i d) :
    Calls Tryz.prog 114 #[.pointer (some ⟨b, 0, none⟩), .int .i64 (lv : Int)] w fun e w' => sPost w b g cap rv T i d (Gram.sign T i lv) e w' := by
  obtain ⟨hb, hrv, hbh, hrl⟩ := h.rl
  subst hrv
  have hbw := h.bl
  have r11 := hrl 11 (by decide)
  have r11' : w.heap[hb + 11]? = some (.cells (ruleCells b hb).toArray 128 (0, 0)) := r11
  have rlv : w.heap[hb + lv]? = some (.cells (signCells lv).toArray 125 (0, 0)) := by
    have := hrl lv (by omega)
    unfold ruleBlk at this
    rw [if_pos hlv] at this
    exact this
  have cR : w.cell? ⟨hb + 11, lv * 2 + 1, none⟩ = some (.slice (some ⟨hb + lv, 0, none⟩) (Gram.signs lv).length (Gram.signs lv).length) := by
    rw [cell_of_row w (hb + 11) _ _ _ _ r11', List.getElem?_toArray]; exact rule_signs b hb lv hlv
  have hl11 : hb + 11 < w.heap.size := (Array.getElem?_eq_some_iff.1 r11).1
  have hllv : hb + lv < w.heap.size := (Array.getElem?_eq_some_iff.1 rlv).1
  have p3 := h.st.c3
  have hne : ¬ b = w.heap.size := by omega
  have hne2 : ¬ hb + 11 = w.heap.size := by omega
  have hlen := signs_len lv
  have hls := len_signs (some ⟨hb + lv, 0, none⟩) (Gram.signs lv).length (Gram.signs lv).length
  have hlvi : (lv : Int) < 12 := by omega
  have HH := Lib.hid h
  have HRL := Lib.hid rlv
  clear h r11 r11' rlv hrl
  go_enter Tryz.func114, Tryz.ntmps114
  go_wp2
  go_loopw [17] (fun jv wr => ∃ j : Nat, j ≤ (Gram.signs lv).length ∧ jv = .int .i64 (j : Int) ∧ Hid ((w.alloc sign0).grownBy wr none ∧ ∀ k, k < j → ∀ s, (Gram.signs lv)[k]? = some s → ¬ (Gram.tk T i).text = s.1)) (fun jv _ => (Gram.signs lv).length - (intOf jv).toNat)
  case atStart => exact ⟨0, Nat.zero_le _, rfl, Lib.hid ⟨World.grownBy.refl _ _, fun k hk => by omega⟩⟩
  case round =>
    obtain ⟨j, hj, rfl, HG⟩ := hrel
    have hG := HG.out.1
    have hP : Pa wr b g cap _ T i d := (HH.out.alloc sign0).kept hG
    have hszr := hG.size
    by_cases hlt : j < (Gram.signs lv).length
    · obtain ⟨s, hs⟩ : ∃ s, s = (Gram.signs lv)[j] := ⟨_, rfl⟩
      have rr : wr.heap[hb + lv]? = some (.cells (signCells lv).toArray 125 (0, 0)) := by
        rw [hG.block (hb + lv) (by simp; omega) (by simp), heap_alloc_old _ _ hllv]; exact HRL.out
      have cc : ∀ t, t < 3 → wr.cell? ⟨hb + lv, j * 3 + t, none⟩ = [Value.string ⟨s.1.toArray⟩, .int .i64 s.2.1, .int .i64 s.2.2][t]? := fun t ht => by
        rw [cell_of_row wr (hb + lv) _ _ _ _ rr, List.getElem?_toArray, hs]
        exact flat3 (fun s : Gram.B × Int × Int => [Value.string ⟨s.1.toArray⟩, .int .i64 s.2.1, .int .i64 s.2.2]) (fun _ => rfl) (Gram.signs lv) j hlt t ht
      have k0 : wr.cell? ⟨hb + lv, j * 3, none⟩ = some (.string ⟨s.1.toArray⟩) := cc 0 (by decide)
      have k1 : wr.cell? ⟨hb + lv, j * 3 + 1, none⟩ = some (.int .i64 s.2.1) := cc 1 (by decide)
      have k2 : wr.cell? ⟨hb + lv, j * 3 + 2, none⟩ = some (.int .i64 s.2.2) := cc 2 (by decide)
      have hne5 : s.1 ≠ [] := sign_ne lv s (by rw [hs]; exact List.getElem_mem hlt)
      have HS : Hid ((Gram.signs lv)[j]? = some s) := Lib.hid (by rw [hs]; exact List.getElem?_eq_getElem hlt)
      clear cc rr hs
      have hPa := hP.alloc (.cells #[.string ⟨s.1.toArray⟩, .int .i64 s.2.1, .int .i64 s.2.2] 125)
      rcases Bool.eq_false_or_eq_true (Gram.sees T i s.1) with hq | hq
      · have hi := hP.nextSees hq hne5
        have ha := gaccept_yes b g cap _ T i d ⟨s.1.toArray⟩ _ hPa hq hi
        have HR : Hid (Gram.sign T i lv = some s) := by
          refine Lib.hid ?_
          unfold Gram.sign
          refine List.find?_eq_some_iff_getElem.2 ⟨hq, j, hlt, ?_, fun k hk => ?_⟩
          · have := HS.out; rw [List.getElem?_eq_getElem hlt] at this; exact Option.some.inj this
          · have hkl : k < (Gram.signs lv).length := by omega
            have := HG.out.2 k hk ((Gram.signs lv)[k]) (List.getElem?_eq_getElem hkl)
            simpa using this
        go_wp2_with (first | (go_at_call 123; refine ha.mono ?_; rintro e w2 ⟨rfl, hP2, hg2⟩; refine Hid.out ?_))
        have hgW : (w.alloc sign0).grownBy w2 (some b) := (grown_some (galloc hG _) b).trans hg2
        have hsb : w2.heap[wr.heap.size]? = some (.cells #[.string ⟨s.1.toArray⟩, .int .i64 s.2.1, .int .i64 s.2.2] 125 (0, 0)) :=
          (hg2.block wr.heap.size (by simp) (by have := hP.bl; simp; omega)).trans (heap_alloc_new wr _)
        have s0 : w2.cell? ⟨wr.heap.size, 0, none⟩ = some (.string ⟨s.1.toArray⟩) := cell_of_row w2 _ 0 _ _ _ hsb
        have s1 : w2.cell? ⟨wr.heap.size, 1, none⟩ = some (.int .i64 s.2.1) := cell_of_row w2 _ 1 _ _ _ hsb
        have s2 : w2.cell? ⟨wr.heap.size, 2, none⟩ = some (.int .i64 s.2.2) := cell_of_row w2 _ 2 _ _ _ hsb
        clear hsb
        refine Lib.hid ?_
        go_wp2_with (with_reducible refine hold_st 4 ?_)
        refine Lib.hid ?_
        refine wpList_store_gen rfl _ _ _ rfl w.heap.size _ rfl rfl 125 _ ((hgW.block w.heap.size (by simp) (by simp; omega)).trans (heap_alloc_new w sign0)) (by kernel_rfl) rfl (by simp [Value.oneCell']) ?_
        intro w3 hh3 hg3
        have q0 : w3.cell? ⟨w.heap.size, 0, none⟩ = some (.string ⟨s.1.toArray⟩) := cell_of_row w3 _ 0 _ _ _ hh3
        have q1 : w3.cell? ⟨w.heap.size, 1, none⟩ = some (.int .i64 s.2.1) := cell_of_row w3 _ 1 _ _ _ hh3
        have q2 : w3.cell? ⟨w.heap.size, 2, none⟩ = some (.int .i64 s.2.2) := cell_of_row w3 _ 2 _ _ _ hh3
        go_wp2
        (try simp only [Exit.inBlock, Exit.then])
        refine bodyPost_ret (v := .tuple #[signV s, .bool true]) ?_ rfl ?_
        · rw [results_cell_tmp rfl]
          unfold signV
          go_simp
        · have hG3 : w.grownBy w3 (some b) := (grown_some (World.grownBy_alloc w sign0 none) b).trans hgW |>.andThen hg3 (fun j e => .inl (by cases e; exact Nat.le_refl _))
          rw [HR.out]
          exact ⟨rfl, HH.out.to hG3 (hP2.st.kept hg3 (by simp; omega)) hi, hG3⟩
      · have ha := gaccept_no b g cap _ T i d ⟨s.1.toArray⟩ _ hPa hq
        have HN : Hid (∀ k, k < j + 1 → ∀ s, (Gram.signs lv)[k]? = some s → ¬ (Gram.tk T i).text = s.1) := by
          refine Lib.hid ?_
          intro k hk s' hs'
          by_cases e : k = j
          · subst e
            have e2 := Option.some.inj (HS.out.symm.trans hs')
            subst e2
            unfold Gram.sees at hq
            simpa using hq
          · exact HG.out.2 k (by omega) s' hs'
        go_wp2_with (first | (go_at_call 123; refine ha.mono ?_; rintro e w2 ⟨rfl, hg2⟩))
        go_light
        exact ⟨⟨j + 1, by omega, by go_num, Lib.hid ⟨(galloc hG _).trans hg2, HN.out⟩⟩, by simp [intOf]; omega⟩
    · have HR : Hid (Gram.sign T i lv = none) := by
        refine Lib.hid ?_
        unfold Gram.sign
        rw [List.find?_eq_none]
        intro s hs
        obtain ⟨k, hk, e⟩ := List.getElem_of_mem hs
        have := HG.out.2 k (by omega) s (by rw [← e]; exact List.getElem?_eq_getElem hk)
        simpa using this
      go_wp2_with (with_reducible refine hold_st 4 ?_)
      refine Lib.hid ?_
      refine wpList_store_gen rfl _ _ _ rfl w.heap.size _ rfl rfl 125 _ ((hG.block w.heap.size (by simp) (by simp)).trans (heap_alloc_new w sign0)) (by kernel_rfl) rfl (by simp [Value.oneCell']) ?_
      intro w3 hh3 hg3
      have q0 : w3.cell? ⟨w.heap.size, 0, none⟩ = some (.string ⟨#[]⟩) := cell_of_row w3 _ 0 _ _ _ hh3
      have q1 : w3.cell? ⟨w.heap.size, 1, none⟩ = some (.int .i64 0) := cell_of_row w3 _ 1 _ _ _ hh3
      have q2 : w3.cell? ⟨w.heap.size, 2, none⟩ = some (.int .i64 0) := cell_of_row w3 _ 2 _ _ _ hh3
      go_wp2
      (try simp only [Exit.inBlock, Exit.then])
      refine bodyPost_ret (v := .tuple #[.agg #[.string ⟨#[]⟩, .int .i64 0, .int .i64 0], .bool false]) ?_ rfl ?_
      · rw [results_cell_tmp rfl]
        go_simp
      · have hG3 : w.grownBy w3 none := ((World.grownBy_alloc w sign0 none).trans hG).andThen hg3 (fun j e => .inl (by cases e; exact Nat.le_refl _))
        rw [HR.out]
        exact ⟨rfl, hG3⟩
end

end Go.Proofs.YtachmiajldeakaaGreatDoor

/- gram's levels: the rules from the right, from the left and once; each by what read does one level on. -/
namespace Go.Proofs.YtachmiajldeakaaGreatDoor
open Go.RowKit Go.Maps Go.WideMaps

/-- a block of nine cells -/
def Nn (w : World) (g : Nat) : Prop := ∃ y0 y1 y2 y3 y4 y5 y6 y7 y8, w.heap[g]? = some (.cells #[y0, y1, y2, y3, y4, y5, y6, y7, y8] 28 (0, 0))
/-- nine cells that may be written -/
structure Nc (w : World) (g : Nat) (x0 x1 x2 x3 x4 x5 x6 x7 x8 : Value) : Prop where
  c0 : w.cell? ⟨g, 0, none⟩ = some x0
  c1 : w.cell? ⟨g, 1, none⟩ = some x1
  c2 : w.cell? ⟨g, 2, none⟩ = some x2
  c3 : w.cell? ⟨g, 3, none⟩ = some x3
  c4 : w.cell? ⟨g, 4, none⟩ = some x4
  c5 : w.cell? ⟨g, 5, none⟩ = some x5
  c6 : w.cell? ⟨g, 6, none⟩ = some x6
  c7 : w.cell? ⟨g, 7, none⟩ = some x7
  c8 : w.cell? ⟨g, 8, none⟩ = some x8
  f : ∀ j, w.frozen? ⟨g, j, none⟩ = false
theorem Nc.of {w : World} {g : Nat} {x0 x1 x2 x3 x4 x5 x6 x7 x8 : Value} (h : w.heap[g]? = some (.cells #[x0, x1, x2, x3, x4, x5, x6, x7, x8] 28 (0, 0))) : Nc w g x0 x1 x2 x3 x4 x5 x6 x7 x8 := by
  constructor
  case f => exact fun j => frozen_of_row w g j _ _ h
  all_goals (rw [cell_of_row w g _ _ _ _ h]; simp)
theorem stored9 {W : World} {g : Nat} {v0 v1 v2 v3 v4 v5 v6 v7 v8 : Value} (h : Nn W g) :
    (((((((((W.setCell ⟨g, 0, none⟩ v0).setCell ⟨g, 1, none⟩ v1).setCell ⟨g, 2, none⟩ v2).setCell ⟨g, 3, none⟩ v3).setCell ⟨g, 4, none⟩ v4).setCell ⟨g, 5, none⟩ v5).setCell ⟨g, 6, none⟩ v6).setCell ⟨g, 7, none⟩ v7).setCell ⟨g, 8, none⟩ v8).heap[g]? = some (.cells #[v0, v1, v2, v3, v4, v5, v6, v7, v8] 28 (0, 0)) := by
  obtain ⟨x0, x1, x2, x3, x4, x5, x6, x7, x8, h⟩ := h
  have h0 := heap_setCell_same _ g 0 _ _ v0 h
  have h1 := heap_setCell_same _ g 1 _ _ v1 h0
  have h2 := heap_setCell_same _ g 2 _ _ v2 h1
  have h3 := heap_setCell_same _ g 3 _ _ v3 h2
  have h4 := heap_setCell_same _ g 4 _ _ v4 h3
  have h5 := heap_setCell_same _ g 5 _ _ v5 h4
  have h6 := heap_setCell_same _ g 6 _ _ v6 h5
  have h7 := heap_setCell_same _ g 7 _ _ v7 h6
  have h8 := heap_setCell_same _ g 8 _ _ v8 h7
  rw [h8]
  simp
theorem gset9 {w W : World} {g : Nat} {v0 v1 v2 v3 v4 v5 v6 v7 v8 : Value} {r : Option Nat} (h : w.grownBy W r) (hb : w.heap.size ≤ g ∨ r = some g) :
    w.grownBy (((((((((W.setCell ⟨g, 0, none⟩ v0).setCell ⟨g, 1, none⟩ v1).setCell ⟨g, 2, none⟩ v2).setCell ⟨g, 3, none⟩ v3).setCell ⟨g, 4, none⟩ v4).setCell ⟨g, 5, none⟩ v5).setCell ⟨g, 6, none⟩ v6).setCell ⟨g, 7, none⟩ v7).setCell ⟨g, 8, none⟩ v8) r :=
  gset (gset (gset (gset (gset (gset (gset (gset (gset h hb _) hb _) hb _) hb _) hb _) hb _) hb _) hb _) hb _
theorem grown9 (W : World) (g : Nat) (v0 v1 v2 v3 v4 v5 v6 v7 v8 : Value) :
    W.grownBy (((((((((W.setCell ⟨g, 0, none⟩ v0).setCell ⟨g, 1, none⟩ v1).setCell ⟨g, 2, none⟩ v2).setCell ⟨g, 3, none⟩ v3).setCell ⟨g, 4, none⟩ v4).setCell ⟨g, 5, none⟩ v5).setCell ⟨g, 6, none⟩ v6).setCell ⟨g, 7, none⟩ v7).setCell ⟨g, 8, none⟩ v8) (some g) :=
  gset9 (World.grownBy.refl _ _) (.inr rfl)

theorem Kids.form {w : World} {B : Nat} {l : List Gram.Exp} {k : Value} (h : Kids w B l k) : ∃ a n c, k = .slice a n c := by
  unfold Kids at h
  cases h with
  | l ho _ _ =>
    rcases ho.2 with ⟨rfl, _⟩ | ⟨g, cap, cur, rfl, _⟩
    · exact ⟨_, _, _, rfl⟩
    · exact ⟨_, _, _, rfl⟩

/-- read does as the model does with so many steps -/
def CRead (b g cap : Nat) (rv : Value) (T : List Lex.Tk) (f : Nat) : Prop :=
  ∀ (d lv i : Nat) (w : World), lv ≤ 11 → Pa w b g cap rv T i d → (Gram.read T f d lv i).isFuel = false →
    Calls Tryz.prog 113 #[.pointer (some ⟨b, 0, none⟩), .int .i64 (lv : Int)] w fun e w' => ePost w b g cap rv T d (Gram.read T f d lv i) e w'

/-- what one rule does, in parts: the first expression, the sign behind it, the second -/
def tail1 (T : List Lex.Tk) (f d lv lv2 : Nat) (a : Gram.Exp) (j : Nat) : Gram.PR Gram.Exp :=
  match Gram.sign T j lv with
  | none => .ok a j
  | some s => (Gram.read T f d lv2 (j + 1)).bind fun x k => .ok (Gram.join s a x) k

section
variable (b g cap : Nat) (rv : Value) (T : List Lex.Tk)

set_option maxHeartbeats 3200000 in
set_option maxRecDepth 20000 in
theorem gright_any (f : Nat) (hR : CRead b g cap rv T f) (d lv i : Nat) (w : World) (hlv : lv < 11) (h : Pa w b g cap rv T i d) (hf : ((Gram.read T f d (lv + 1) i).bind fun a j => tail1 T f d lv lv a j).isFuel = false) :
    Calls Tryz.prog 71 #[.pointer (some ⟨b, 0, none⟩), .int .i64 (lv : Int)] w fun e w' => ePost w b g cap rv T d ((Gram.read T f d (lv + 1) i).bind fun a j => tail1 T f d lv lv a j) e w' := by
  have hP0 := h.alloc exp0
  have hbw := h.bl
  cases hr1 : Gram.read T f d (lv + 1) i with
  | fuel => rw [hr1] at hf; cases hf
  | bad a er =>
    have hc := hR d (lv + 1) i _ (by omega) hP0 (by rw [hr1]; rfl)
    rw [hr1] at hc
    have hc2 : Calls Tryz.prog 113 #[.pointer (some ⟨b, 0, none⟩), .int .i64 ((lv : Int) + 1)] (w.alloc exp0) fun e w' => gBad (w.alloc exp0) b a er e w' := hc
    clear hc hf hr1 hR
    go_enter Tryz.func71, Tryz.ntmps71
    go_wp2_with (go_at_call 113; refine hc2.mono ?_; rintro e w1 ⟨rfl, hg1⟩)
    exact ⟨rfl, rfl, (grown_some (World.grownBy_alloc w exp0 none) b).trans hg1⟩
  | ok x j =>
    rw [hr1] at hf
    have hc := hR d (lv + 1) i _ (by omega) hP0 (by rw [hr1]; rfl)
    rw [hr1] at hc
    have hc2 : Calls Tryz.prog 113 #[.pointer (some ⟨b, 0, none⟩), .int .i64 ((lv : Int) + 1)] (w.alloc exp0) fun e w' => ∃ k, e = .returned (expV x k) ∧ Kids w' (w.alloc exp0).heap.size x.kids k ∧ Pa w' b g cap rv T j d ∧ (w.alloc exp0).grownBy w' (some b) := hc
    clear hc
    have hf1 : (tail1 T f d lv lv x j).isFuel = false := hf
    show Calls _ _ _ _ fun e w' => ePost w b g cap rv T d (tail1 T f d lv lv x j) e w'
    clear hf hr1
    cases x with
    | mk f1 s1 nm1 tk1 tl1 n1 m1 ks1 a1 =>
    simp only [expV] at hc2
    have HH := Lib.hid h
    have HP0 := Lib.hid hP0
    clear h hP0
    go_enter Tryz.func71, Tryz.ntmps71
    go_wp2_with (go_at_call 113; refine hc2.mono ?_; rintro e w1 ⟨k1, rfl, hk1, hP1, hg1⟩; refine Hid.out ?_)
    obtain ⟨ka, kn, kc, rfl⟩ := hk1.form
    have hPs := hP1.alloc (.cells #[.int .i64 f1, .int .i64 s1, .string ⟨nm1.toArray⟩, .int .i64 tk1, .int .i64 tl1, .int .i64 n1, .int .i64 m1, .slice ka kn kc, .int .i64 a1] 28)
    have hS := gsign_any b g cap rv T j d lv hlv _ hPs
    have hs1 := hg1.size
    rw [World.size_alloc] at hs1
    cases hsg : Gram.sign T j lv with
    | none =>
      rw [hsg] at hS
      have ht : tail1 T f d lv lv (.mk f1 s1 nm1 tk1 tl1 n1 m1 ks1 a1) j = .ok (.mk f1 s1 nm1 tk1 tl1 n1 m1 ks1 a1) j := by unfold tail1; rw [hsg]
      have HT := Lib.hid ht
      clear ht hf1
      refine Lib.hid ?_
      go_wp2_with (go_at_call 114; refine hS.mono ?_; rintro e w2 ⟨rfl, hg2⟩; refine Hid.out ?_)
      have hgW : (w.alloc exp0).grownBy w2 (some b) := (galloc hg1 _).trans (grown_some hg2 b)
      obtain ⟨c0, c1, c2, c3, c4, c5, c6, c7, c8, cf⟩ := Nc.of ((hg2.block w1.heap.size (by simp) (by simp)).trans (heap_alloc_new w1 _))
      have hlt2 : w1.heap.size < w2.heap.size := by have := hg2.size; rw [World.size_alloc] at this; omega
      have hne2 : ¬ w1.heap.size = w2.heap.size := by omega
      refine Lib.hid ?_
      go_wp2_with (with_reducible refine hold_st 4 ?_)
      obtain ⟨W, hW⟩ : ∃ W, W = w2.alloc (.cells #[.string ⟨#[]⟩, .int .i64 0, .int .i64 0] 125) := ⟨_, rfl⟩
      rw [← hW]
      have hg3 : w2.grownBy W none := by rw [hW]; exact World.grownBy_alloc w2 _ none
      clear hW
      refine Lib.hid ?_
      refine wpList_store_gen rfl _ _ _ rfl w.heap.size _ rfl rfl 28 _ (((hgW.trans (grown_some hg3 b)).block w.heap.size (by simp) (by simp; omega)).trans (heap_alloc_new w exp0)) (by kernel_rfl) rfl (by simp [Value.oneCell']) ?_
      intro w4 hh4 hg4
      go_wp2
      (try simp only [Exit.inBlock, Exit.then])
      refine bodyPost_ret (results_cell_row rfl _ _ w.heap.size 28 _ (0, 0) _ rfl hh4 Tryz.underlying28 rfl (by kernel_rfl)) rfl ?_
      rw [HT.out]
      have hgA : w1.grownBy w4 (some w.heap.size) := (grown_some ((World.grownBy_alloc w1 _ none).trans (hg2.trans hg3)) _).trans hg4
      have hG : w.grownBy w4 (some b) := ((grown_some (World.grownBy_alloc w exp0 none) b).trans (hgW.trans (grown_some hg3 b))).andThen hg4 (fun j e => .inl (by cases e; exact Nat.le_refl _))
      exact ⟨_, rfl, (hk1.kept hgA (by simp)).mono (by simp), HH.out.to hG (hP1.st.kept hgA (by simp; omega)) hP1.lt, hG⟩
    | some s =>
      rw [hsg] at hS
      have ht : tail1 T f d lv lv (.mk f1 s1 nm1 tk1 tl1 n1 m1 ks1 a1) j = (Gram.read T f d lv (j + 1)).bind fun x k => .ok (Gram.join s (.mk f1 s1 nm1 tk1 tl1 n1 m1 ks1 a1) x) k := by unfold tail1; rw [hsg]
      rw [ht] at hf1
      have HT := Lib.hid ht
      clear ht
      simp only [sPost, signV] at hS
      refine Lib.hid ?_
      go_wp2_with (go_at_call 114; refine hS.mono ?_; rintro e w2 ⟨rfl, hP2, hg2⟩; refine Hid.out ?_)
      have hgW : (w.alloc exp0).grownBy w2 (some b) := (galloc hg1 _).trans hg2
      obtain ⟨c0, c1, c2, c3, c4, c5, c6, c7, c8, cf⟩ := Nc.of ((hg2.block w1.heap.size (by simp) (by simp; omega)).trans (heap_alloc_new w1 _))
      have hlt2 : w1.heap.size < w2.heap.size := by have := hg2.size; rw [World.size_alloc] at this; omega
      have hne2 : ¬ w1.heap.size = w2.heap.size := by omega
      obtain ⟨SG, hSG⟩ : ∃ SG : Obj, SG = .cells #[.string ⟨s.1.toArray⟩, .int .i64 s.2.1, .int .i64 s.2.2] 125 := ⟨_, rfl⟩
      have hsb : (w2.alloc SG).heap[w2.heap.size]? = some (.cells #[.string ⟨s.1.toArray⟩, .int .i64 s.2.1, .int .i64 s.2.2] 125 (0, 0)) := by rw [heap_alloc_new, hSG]
      have hPd : Pa ((w2.alloc SG).drew) b g cap rv T (j + 1) d := (hP2.alloc SG).kept (gdrew (World.grownBy.refl _ _))
      have hc3 := hR d lv (j + 1) _ (by omega) hPd
      have hgD : (w.alloc exp0).grownBy ((w2.alloc SG).drew) (some b) := gdrew (galloc hgW SG)
      have hS : (((w2.alloc SG).drew).cell? ⟨w2.heap.size, 0, none⟩ = some (.string ⟨s.1.toArray⟩) ∧ ((w2.alloc SG).drew).cell? ⟨w2.heap.size, 1, none⟩ = some (.int .i64 s.2.1) ∧ ((w2.alloc SG).drew).cell? ⟨w2.heap.size, 2, none⟩ = some (.int .i64 s.2.2)) ∧
          Nc ((w2.alloc SG).drew) w1.heap.size (.int .i64 f1) (.int .i64 s1) (.string ⟨nm1.toArray⟩) (.int .i64 tk1) (.int .i64 tl1) (.int .i64 n1) (.int .i64 m1) (.slice ka kn kc) (.int .i64 a1) :=
        ⟨⟨cell_of_row _ _ 0 _ _ _ hsb, cell_of_row _ _ 1 _ _ _ hsb, cell_of_row _ _ 2 _ _ _ hsb⟩, Nc.of (((gdrew (World.grownBy_alloc w2 SG none)).block w1.heap.size hlt2 (by simp)).trans ((hg2.block w1.heap.size (by simp) (by simp; omega)).trans (heap_alloc_new w1 _)))⟩
      obtain ⟨⟨t0, t1, t2⟩, u0, u1, u2, u3, u4, u5, u6, u7, u8, uf⟩ := hS
      have hgE : w1.grownBy ((w2.alloc SG).drew) (some b) := gdrew (galloc ((grown_some (World.grownBy_alloc w1 _ none) b).trans hg2) SG)
      have HSG := Lib.hid hSG
      clear hsb hSG
      refine Lib.hid ?_
      cases hr2 : Gram.read T f d lv (j + 1) with
      | fuel => rw [hr2] at hf1; cases hf1
      | bad a er =>
        have hc4 := hc3 (by rw [hr2]; rfl)
        rw [hr2] at hc4
        simp only [ePost] at hc4
        go_wp2
        rw [← HSG.out]
        refine wp_region_held_drew (S := fun w' => w' = (w2.alloc SG).drew) (by kernel_rfl) rfl (fun _ => ?_)
        refine wpAnyH_take (i := 0) (v := .agg #[.string ⟨s.1.toArray⟩, .int .i64 s.2.1, .int .i64 s.2.2]) rfl (by kernel_rfl) (by kernel_rfl) (by kernel_rfl) (fun _ _ _ h => h) (.inl ⟨rfl, fun w' hw' => ?_⟩) rfl ?_
        · subst hw'
          go_simp
        refine wpAnyH_take (i := 1) (v := .agg #[.int .i64 f1, .int .i64 s1, .string ⟨nm1.toArray⟩, .int .i64 tk1, .int .i64 tl1, .int .i64 n1, .int .i64 m1, .slice ka kn kc, .int .i64 a1]) rfl (by kernel_rfl) (by kernel_rfl) (by kernel_rfl) (fun _ _ _ h => h) (.inl ⟨rfl, fun w' hw' => ?_⟩) rfl ?_
        · subst hw'
          go_simp
        refine wpAnyH_take (i := 2) (v := .pointer (some ⟨b, 0, none⟩)) rfl (by kernel_rfl) (by kernel_rfl) (by kernel_rfl) (fun _ _ _ h => h) (.inl ⟨rfl, fun w' hw' => ?_⟩) rfl ?_
        · subst hw'
          go_simp
        refine wpAnyH_take (i := 3) (v := .int .i64 (lv : Int)) rfl (by kernel_rfl) (by kernel_rfl) (by kernel_rfl) (fun _ _ _ h => h) (.inl ⟨rfl, fun w' hw' => ?_⟩) rfl ?_
        · subst hw'
          go_simp
        refine wpAnyH_all (rs := [4]) (by kernel_rfl) (by simp) (fun i hi => ?_)
        obtain rfl := List.mem_singleton.1 hi
        refine wpOp_step rfl (fun K' hK => ?_)
        split
        case isFalse hno => exact absurd rfl hno
        unfold Oper.wp
        go_simp
        refine hc4.mono ?_
        rintro e w3 ⟨rfl, hg3⟩
        refine ⟨rfl, ?_⟩
        rw [HT.out, hr2]
        exact ⟨rfl, (grown_some (World.grownBy_alloc w exp0 none) b).trans (hgD.trans hg3)⟩
      | ok y m =>
        have hc4 := hc3 (by rw [hr2]; rfl)
        rw [hr2] at hc4
        cases y with
        | mk f2 s2 nm2 tk2 tl2 n2 m2 ks2 a2 =>
        simp only [ePost, expV] at hc4
        have hJ : ∀ (wx : World) (kb : Option Addr) (kn2 kc2 : Nat), w.heap.size + 1 ≤ wx.heap.size → Kids wx (w.heap.size + 1) ks1 (.slice ka kn kc) → Kids wx (w.heap.size + 1) ks2 (.slice kb kn2 kc2) → Calls Tryz.prog 115 #[.agg #[.string ⟨s.1.toArray⟩, .int .i64 s.2.1, .int .i64 s.2.2], .agg #[.int .i64 f1, .int .i64 s1, .string ⟨nm1.toArray⟩, .int .i64 tk1, .int .i64 tl1, .int .i64 n1, .int .i64 m1, .slice ka kn kc, .int .i64 a1], .agg #[.int .i64 f2, .int .i64 s2, .string ⟨nm2.toArray⟩, .int .i64 tk2, .int .i64 tl2, .int .i64 n2, .int .i64 m2, .slice kb kn2 kc2, .int .i64 a2]] wx fun e w' => (∃ v, e = .returned (expV (Gram.join s (.mk f1 s1 nm1 tk1 tl1 n1 m1 ks1 a1) (.mk f2 s2 nm2 tk2 tl2 n2 m2 ks2 a2)) v) ∧ Kids w' (w.heap.size + 1) [.mk f1 s1 nm1 tk1 tl1 n1 m1 ks1 a1, .mk f2 s2 nm2 tk2 tl2 n2 m2 ks2 a2] v) ∧ wx.grownBy w' none :=
          fun wx kb kn2 kc2 h1 h2 h3 => gjoin_any s (.mk f1 s1 nm1 tk1 tl1 n1 m1 ks1 a1) (.mk f2 s2 nm2 tk2 tl2 n2 m2 ks2 a2) _ _ (w.heap.size + 1) wx h1 h2 h3
        simp only [Gram.join, expV, Gram.Exp.at_] at hJ
        have hq1 : some w1.heap.size ≠ some b := by simp; omega
        have hq2 : some w2.heap.size ≠ some b := by simp; omega
        have hq3 : some w1.heap.size ≠ some w.heap.size := by simp; omega
        have hq4 : some w2.heap.size ≠ some w.heap.size := by simp; omega
        have hS0 : ((w2.alloc SG).drew).cell? ⟨w2.heap.size, 0, none⟩ = some (.string ⟨s.1.toArray⟩) ∧ ((w2.alloc SG).drew).cell? ⟨w2.heap.size, 1, none⟩ = some (.int .i64 s.2.1) ∧ ((w2.alloc SG).drew).cell? ⟨w2.heap.size, 2, none⟩ = some (.int .i64 s.2.2) ∧ ((w2.alloc SG).drew).cell? ⟨w1.heap.size, 0, none⟩ = some (.int .i64 f1) ∧ ((w2.alloc SG).drew).cell? ⟨w1.heap.size, 1, none⟩ = some (.int .i64 s1) ∧ ((w2.alloc SG).drew).cell? ⟨w1.heap.size, 2, none⟩ = some (.string ⟨nm1.toArray⟩) ∧ ((w2.alloc SG).drew).cell? ⟨w1.heap.size, 3, none⟩ = some (.int .i64 tk1) ∧ ((w2.alloc SG).drew).cell? ⟨w1.heap.size, 4, none⟩ = some (.int .i64 tl1) ∧ ((w2.alloc SG).drew).cell? ⟨w1.heap.size, 5, none⟩ = some (.int .i64 n1) ∧ ((w2.alloc SG).drew).cell? ⟨w1.heap.size, 6, none⟩ = some (.int .i64 m1) ∧ ((w2.alloc SG).drew).cell? ⟨w1.heap.size, 7, none⟩ = some (.slice ka kn kc) ∧ ((w2.alloc SG).drew).cell? ⟨w1.heap.size, 8, none⟩ = some (.int .i64 a1) := ⟨t0, t1, t2, u0, u1, u2, u3, u4, u5, u6, u7, u8⟩
        have hSk : ∀ (wx wy : World) (r : Option Nat), (wx.cell? ⟨w2.heap.size, 0, none⟩ = some (.string ⟨s.1.toArray⟩) ∧ wx.cell? ⟨w2.heap.size, 1, none⟩ = some (.int .i64 s.2.1) ∧ wx.cell? ⟨w2.heap.size, 2, none⟩ = some (.int .i64 s.2.2) ∧ wx.cell? ⟨w1.heap.size, 0, none⟩ = some (.int .i64 f1) ∧ wx.cell? ⟨w1.heap.size, 1, none⟩ = some (.int .i64 s1) ∧ wx.cell? ⟨w1.heap.size, 2, none⟩ = some (.string ⟨nm1.toArray⟩) ∧ wx.cell? ⟨w1.heap.size, 3, none⟩ = some (.int .i64 tk1) ∧ wx.cell? ⟨w1.heap.size, 4, none⟩ = some (.int .i64 tl1) ∧ wx.cell? ⟨w1.heap.size, 5, none⟩ = some (.int .i64 n1) ∧ wx.cell? ⟨w1.heap.size, 6, none⟩ = some (.int .i64 m1) ∧ wx.cell? ⟨w1.heap.size, 7, none⟩ = some (.slice ka kn kc) ∧ wx.cell? ⟨w1.heap.size, 8, none⟩ = some (.int .i64 a1)) → wx.grownBy wy r → some w1.heap.size ≠ r → some w2.heap.size ≠ r → (wy.cell? ⟨w2.heap.size, 0, none⟩ = some (.string ⟨s.1.toArray⟩) ∧ wy.cell? ⟨w2.heap.size, 1, none⟩ = some (.int .i64 s.2.1) ∧ wy.cell? ⟨w2.heap.size, 2, none⟩ = some (.int .i64 s.2.2) ∧ wy.cell? ⟨w1.heap.size, 0, none⟩ = some (.int .i64 f1) ∧ wy.cell? ⟨w1.heap.size, 1, none⟩ = some (.int .i64 s1) ∧ wy.cell? ⟨w1.heap.size, 2, none⟩ = some (.string ⟨nm1.toArray⟩) ∧ wy.cell? ⟨w1.heap.size, 3, none⟩ = some (.int .i64 tk1) ∧ wy.cell? ⟨w1.heap.size, 4, none⟩ = some (.int .i64 tl1) ∧ wy.cell? ⟨w1.heap.size, 5, none⟩ = some (.int .i64 n1) ∧ wy.cell? ⟨w1.heap.size, 6, none⟩ = some (.int .i64 m1) ∧ wy.cell? ⟨w1.heap.size, 7, none⟩ = some (.slice ka kn kc) ∧ wy.cell? ⟨w1.heap.size, 8, none⟩ = some (.int .i64 a1)) := fun _ _ _ h hg hq1 hq2 => ⟨hg.cell h.1 hq2, hg.cell h.2.1 hq2, hg.cell h.2.2.1 hq2, hg.cell h.2.2.2.1 hq1, hg.cell h.2.2.2.2.1 hq1, hg.cell h.2.2.2.2.2.1 hq1, hg.cell h.2.2.2.2.2.2.1 hq1, hg.cell h.2.2.2.2.2.2.2.1 hq1, hg.cell h.2.2.2.2.2.2.2.2.1 hq1, hg.cell h.2.2.2.2.2.2.2.2.2.1 hq1, hg.cell h.2.2.2.2.2.2.2.2.2.2.1 hq1, hg.cell h.2.2.2.2.2.2.2.2.2.2.2 hq1⟩
        have HSK := Lib.hid hSk
        clear hSk
        have hsD := hgD.size
        rw [World.size_alloc] at hsD
        go_wp2
        rw [← HSG.out]
        go_region_held3 (fun w' => w'.cell? ⟨w2.heap.size, 0, none⟩ = some (.string ⟨s.1.toArray⟩) ∧ w'.cell? ⟨w2.heap.size, 1, none⟩ = some (.int .i64 s.2.1) ∧ w'.cell? ⟨w2.heap.size, 2, none⟩ = some (.int .i64 s.2.2) ∧ w'.cell? ⟨w1.heap.size, 0, none⟩ = some (.int .i64 f1) ∧ w'.cell? ⟨w1.heap.size, 1, none⟩ = some (.int .i64 s1) ∧ w'.cell? ⟨w1.heap.size, 2, none⟩ = some (.string ⟨nm1.toArray⟩) ∧ w'.cell? ⟨w1.heap.size, 3, none⟩ = some (.int .i64 tk1) ∧ w'.cell? ⟨w1.heap.size, 4, none⟩ = some (.int .i64 tl1) ∧ w'.cell? ⟨w1.heap.size, 5, none⟩ = some (.int .i64 n1) ∧ w'.cell? ⟨w1.heap.size, 6, none⟩ = some (.int .i64 m1) ∧ w'.cell? ⟨w1.heap.size, 7, none⟩ = some (.slice ka kn kc) ∧ w'.cell? ⟨w1.heap.size, 8, none⟩ = some (.int .i64 a1)) (first | with_reducible exact hS0 | with_reducible exact hS3 | with_reducible exact hS4 | with_reducible exact HSK.out _ _ _ hS4 (grown9 _ _ _ _ _ _ _ _ _ _ _) hq3 hq4)
          (first
            | (go_at_call 113; refine hc4.mono ?_; rintro e w3 ⟨k3, rfl, hk3, hP3, hg3⟩; obtain ⟨kb, kn2, kc2, rfl⟩ := hk3.form; have hS3 := HSK.out _ _ _ hS0 hg3 hq1 hq2)
            | (go_at_call 115; refine (hJ _ _ _ _ (by have := hg3.size; omega) (((hk1.kept hgE (by simp; omega)).kept hg3 (by simp; omega)).mono (by simp)) (hk3.mono (by omega))).mono ?_; rintro e w4 ⟨⟨v4, rfl, hk4⟩, hg4⟩; obtain ⟨va, vn, vc, rfl⟩ := Kids.form hk4; have hS4 := HSK.out _ _ _ hS3 hg4 (by simp) (by simp); obtain ⟨z0, z1, z2, z3, z4, z5, z6, z7, z8, zf⟩ := Nc.of (((hgD.trans (hg3.trans (grown_some hg4 b))).block w.heap.size (by simp) (by simp; omega)).trans (heap_alloc_new w exp0))))
        go_wp2
        (try simp only [Exit.inBlock, Exit.then])
        have hgF := hgD.trans (hg3.trans (grown_some hg4 b))
        have hN : Nn w4 w.heap.size := ⟨_, _, _, _, _, _, _, _, _, (hgF.block w.heap.size (by simp) (by simp; omega)).trans (heap_alloc_new w exp0)⟩
        refine bodyPost_ret (results_cell_row rfl _ _ w.heap.size 28 _ (0, 0) _ rfl (stored9 hN) Tryz.underlying28 rfl (by kernel_rfl)) rfl ?_
        rw [HT.out, hr2]
        have hG := fun v0 v1 v2 v3 v4 v5 v6 v7 v8 => gset9 (g := w.heap.size) (v0 := v0) (v1 := v1) (v2 := v2) (v3 := v3) (v4 := v4) (v5 := v5) (v6 := v6) (v7 := v7) (v8 := v8) ((grown_some (World.grownBy_alloc w exp0 none) b).trans hgF) (.inl (Nat.le_refl _))
        exact ⟨_, rfl, RepC.mono (Nat.le_succ _) (RepC.kept (grown9 _ _ _ _ _ _ _ _ _ _ _) (fun k e => by cases e; exact Nat.lt_succ_self _) hk4), HH.out.to (hG _ _ _ _ _ _ _ _ _) ((hP3.st.kept (grown_some hg4 w.heap.size) (by simp; omega)).kept (grown9 _ _ _ _ _ _ _ _ _ _ _) (by simp; omega)) hP3.lt, hG _ _ _ _ _ _ _ _ _⟩
end

end Go.Proofs.YtachmiajldeakaaGreatDoor

/- gram's comparisons: one sign at the most. -/
namespace Go.Proofs.YtachmiajldeakaaGreatDoor
open Go.RowKit Go.Maps Go.WideMaps

section
variable (b g cap : Nat) (rv : Value) (T : List Lex.Tk)

set_option maxHeartbeats 3200000 in
set_option maxRecDepth 20000 in
theorem gonce_any (f : Nat) (hR : CRead b g cap rv T f) (d lv i : Nat) (w : World) (hlv : lv < 11) (h : Pa w b g cap rv T i d) (hf : ((Gram.read T f d (lv + 1) i).bind fun a j => tail1 T f d lv (lv + 1) a j).isFuel = false) :
    Calls Tryz.prog 73 #[.pointer (some ⟨b, 0, none⟩), .int .i64 (lv : Int)] w fun e w' => ePost w b g cap rv T d ((Gram.read T f d (lv + 1) i).bind fun a j => tail1 T f d lv (lv + 1) a j) e w' := by
  have hP0 := h.alloc exp0
  have hbw := h.bl
  have hwr : IntKind.i64.wrap ((lv : Int) + 1) = (lv : Int) + 1 := by rw [IntKind.wrap_i64]; omega
  cases hr1 : Gram.read T f d (lv + 1) i with
  | fuel => rw [hr1] at hf; cases hf
  | bad a er =>
    have hc := hR d (lv + 1) i _ (by omega) hP0 (by rw [hr1]; rfl)
    rw [hr1] at hc
    have hc2 : Calls Tryz.prog 113 #[.pointer (some ⟨b, 0, none⟩), .int .i64 ((lv : Int) + 1)] (w.alloc exp0) fun e w' => gBad (w.alloc exp0) b a er e w' := hc
    clear hc hf hr1 hR
    go_enter Tryz.func73, Tryz.ntmps73
    go_wp2_with (go_at_call 113; refine hc2.mono ?_; rintro e w1 ⟨rfl, hg1⟩)
    exact ⟨rfl, rfl, (grown_some (World.grownBy_alloc w exp0 none) b).trans hg1⟩
  | ok x j =>
    rw [hr1] at hf
    have hc := hR d (lv + 1) i _ (by omega) hP0 (by rw [hr1]; rfl)
    rw [hr1] at hc
    have hc2 : Calls Tryz.prog 113 #[.pointer (some ⟨b, 0, none⟩), .int .i64 ((lv : Int) + 1)] (w.alloc exp0) fun e w' => ∃ k, e = .returned (expV x k) ∧ Kids w' (w.alloc exp0).heap.size x.kids k ∧ Pa w' b g cap rv T j d ∧ (w.alloc exp0).grownBy w' (some b) := hc
    clear hc
    have hf1 : (tail1 T f d lv (lv + 1) x j).isFuel = false := hf
    show Calls _ _ _ _ fun e w' => ePost w b g cap rv T d (tail1 T f d lv (lv + 1) x j) e w'
    clear hf hr1
    cases x with
    | mk f1 s1 nm1 tk1 tl1 n1 m1 ks1 a1 =>
    simp only [expV] at hc2
    have HH := Lib.hid h
    have HP0 := Lib.hid hP0
    clear h hP0
    go_enter Tryz.func73, Tryz.ntmps73
    go_wp2_with (go_at_call 113; refine hc2.mono ?_; rintro e w1 ⟨k1, rfl, hk1, hP1, hg1⟩; refine Hid.out ?_)
    obtain ⟨ka, kn, kc, rfl⟩ := hk1.form
    have hPs := hP1.alloc (.cells #[.int .i64 f1, .int .i64 s1, .string ⟨nm1.toArray⟩, .int .i64 tk1, .int .i64 tl1, .int .i64 n1, .int .i64 m1, .slice ka kn kc, .int .i64 a1] 28)
    have hS := gsign_any b g cap rv T j d lv hlv _ hPs
    have hs1 := hg1.size
    rw [World.size_alloc] at hs1
    cases hsg : Gram.sign T j lv with
    | none =>
      rw [hsg] at hS
      have ht : tail1 T f d lv (lv + 1) (.mk f1 s1 nm1 tk1 tl1 n1 m1 ks1 a1) j = .ok (.mk f1 s1 nm1 tk1 tl1 n1 m1 ks1 a1) j := by unfold tail1; rw [hsg]
      have HT := Lib.hid ht
      clear ht hf1
      refine Lib.hid ?_
      go_wp2_with (go_at_call 114; refine hS.mono ?_; rintro e w2 ⟨rfl, hg2⟩; refine Hid.out ?_)
      have hgW : (w.alloc exp0).grownBy w2 (some b) := (galloc hg1 _).trans (grown_some hg2 b)
      obtain ⟨c0, c1, c2, c3, c4, c5, c6, c7, c8, cf⟩ := Nc.of ((hg2.block w1.heap.size (by simp) (by simp)).trans (heap_alloc_new w1 _))
      have hlt2 : w1.heap.size < w2.heap.size := by have := hg2.size; rw [World.size_alloc] at this; omega
      have hne2 : ¬ w1.heap.size = w2.heap.size := by omega
      refine Lib.hid ?_
      go_wp2_with (with_reducible refine hold_st 4 ?_)
      obtain ⟨W, hW⟩ : ∃ W, W = w2.alloc (.cells #[.string ⟨#[]⟩, .int .i64 0, .int .i64 0] 125) := ⟨_, rfl⟩
      rw [← hW]
      have hg3 : w2.grownBy W none := by rw [hW]; exact World.grownBy_alloc w2 _ none
      clear hW
      refine Lib.hid ?_
      refine wpList_store_gen rfl _ _ _ rfl w.heap.size _ rfl rfl 28 _ (((hgW.trans (grown_some hg3 b)).block w.heap.size (by simp) (by simp; omega)).trans (heap_alloc_new w exp0)) (by kernel_rfl) rfl (by simp [Value.oneCell']) ?_
      intro w4 hh4 hg4
      go_wp2
      (try simp only [Exit.inBlock, Exit.then])
      refine bodyPost_ret (results_cell_row rfl _ _ w.heap.size 28 _ (0, 0) _ rfl hh4 Tryz.underlying28 rfl (by kernel_rfl)) rfl ?_
      rw [HT.out]
      have hgA : w1.grownBy w4 (some w.heap.size) := (grown_some ((World.grownBy_alloc w1 _ none).trans (hg2.trans hg3)) _).trans hg4
      have hG : w.grownBy w4 (some b) := ((grown_some (World.grownBy_alloc w exp0 none) b).trans (hgW.trans (grown_some hg3 b))).andThen hg4 (fun j e => .inl (by cases e; exact Nat.le_refl _))
      exact ⟨_, rfl, (hk1.kept hgA (by simp)).mono (by simp), HH.out.to hG (hP1.st.kept hgA (by simp; omega)) hP1.lt, hG⟩
    | some s =>
      rw [hsg] at hS
      have ht : tail1 T f d lv (lv + 1) (.mk f1 s1 nm1 tk1 tl1 n1 m1 ks1 a1) j = (Gram.read T f d (lv + 1) (j + 1)).bind fun x k => .ok (Gram.join s (.mk f1 s1 nm1 tk1 tl1 n1 m1 ks1 a1) x) k := by unfold tail1; rw [hsg]
      rw [ht] at hf1
      have HT := Lib.hid ht
      clear ht
      simp only [sPost, signV] at hS
      refine Lib.hid ?_
      go_wp2_with (go_at_call 114; refine hS.mono ?_; rintro e w2 ⟨rfl, hP2, hg2⟩; refine Hid.out ?_)
      have hgW : (w.alloc exp0).grownBy w2 (some b) := (galloc hg1 _).trans hg2
      obtain ⟨c0, c1, c2, c3, c4, c5, c6, c7, c8, cf⟩ := Nc.of ((hg2.block w1.heap.size (by simp) (by simp; omega)).trans (heap_alloc_new w1 _))
      have hlt2 : w1.heap.size < w2.heap.size := by have := hg2.size; rw [World.size_alloc] at this; omega
      have hne2 : ¬ w1.heap.size = w2.heap.size := by omega
      obtain ⟨SG, hSG⟩ : ∃ SG : Obj, SG = .cells #[.string ⟨s.1.toArray⟩, .int .i64 s.2.1, .int .i64 s.2.2] 125 := ⟨_, rfl⟩
      have hsb : (w2.alloc SG).heap[w2.heap.size]? = some (.cells #[.string ⟨s.1.toArray⟩, .int .i64 s.2.1, .int .i64 s.2.2] 125 (0, 0)) := by rw [heap_alloc_new, hSG]
      have hPd : Pa ((w2.alloc SG).drew) b g cap rv T (j + 1) d := (hP2.alloc SG).kept (gdrew (World.grownBy.refl _ _))
      have hc3 : _ → Calls Tryz.prog 113 #[.pointer (some ⟨b, 0, none⟩), .int .i64 ((lv : Int) + 1)] ((w2.alloc SG).drew) fun e w' => ePost ((w2.alloc SG).drew) b g cap rv T d (Gram.read T f d (lv + 1) (j + 1)) e w' := hR d (lv + 1) (j + 1) _ (by omega) hPd
      have hgD : (w.alloc exp0).grownBy ((w2.alloc SG).drew) (some b) := gdrew (galloc hgW SG)
      have hS : (((w2.alloc SG).drew).cell? ⟨w2.heap.size, 0, none⟩ = some (.string ⟨s.1.toArray⟩) ∧ ((w2.alloc SG).drew).cell? ⟨w2.heap.size, 1, none⟩ = some (.int .i64 s.2.1) ∧ ((w2.alloc SG).drew).cell? ⟨w2.heap.size, 2, none⟩ = some (.int .i64 s.2.2)) ∧
          Nc ((w2.alloc SG).drew) w1.heap.size (.int .i64 f1) (.int .i64 s1) (.string ⟨nm1.toArray⟩) (.int .i64 tk1) (.int .i64 tl1) (.int .i64 n1) (.int .i64 m1) (.slice ka kn kc) (.int .i64 a1) :=
        ⟨⟨cell_of_row _ _ 0 _ _ _ hsb, cell_of_row _ _ 1 _ _ _ hsb, cell_of_row _ _ 2 _ _ _ hsb⟩, Nc.of (((gdrew (World.grownBy_alloc w2 SG none)).block w1.heap.size hlt2 (by simp)).trans ((hg2.block w1.heap.size (by simp) (by simp; omega)).trans (heap_alloc_new w1 _)))⟩
      obtain ⟨⟨t0, t1, t2⟩, u0, u1, u2, u3, u4, u5, u6, u7, u8, uf⟩ := hS
      have hgE : w1.grownBy ((w2.alloc SG).drew) (some b) := gdrew (galloc ((grown_some (World.grownBy_alloc w1 _ none) b).trans hg2) SG)
      have HSG := Lib.hid hSG
      clear hsb hSG
      refine Lib.hid ?_
      cases hr2 : Gram.read T f d (lv + 1) (j + 1) with
      | fuel => rw [hr2] at hf1; cases hf1
      | bad a er =>
        have hc4 := hc3 (by rw [hr2]; rfl)
        rw [hr2] at hc4
        simp only [ePost] at hc4
        go_wp2
        rw [← HSG.out]
        refine wp_region_held_drew (S := fun w' => w' = (w2.alloc SG).drew) (by kernel_rfl) rfl (fun _ => ?_)
        refine wpAnyH_take (i := 0) (v := .agg #[.string ⟨s.1.toArray⟩, .int .i64 s.2.1, .int .i64 s.2.2]) rfl (by kernel_rfl) (by kernel_rfl) (by kernel_rfl) (fun _ _ _ h => h) (.inl ⟨rfl, fun w' hw' => ?_⟩) rfl ?_
        · subst hw'
          go_simp
        refine wpAnyH_take (i := 1) (v := .agg #[.int .i64 f1, .int .i64 s1, .string ⟨nm1.toArray⟩, .int .i64 tk1, .int .i64 tl1, .int .i64 n1, .int .i64 m1, .slice ka kn kc, .int .i64 a1]) rfl (by kernel_rfl) (by kernel_rfl) (by kernel_rfl) (fun _ _ _ h => h) (.inl ⟨rfl, fun w' hw' => ?_⟩) rfl ?_
        · subst hw'
          go_simp
        refine wpAnyH_take (i := 2) (v := .pointer (some ⟨b, 0, none⟩)) rfl (by kernel_rfl) (by kernel_rfl) (by kernel_rfl) (fun _ _ _ h => h) (.inl ⟨rfl, fun w' hw' => ?_⟩) rfl ?_
        · subst hw'
          go_simp
        refine wpAnyH_take (i := 3) (v := .int .i64 (lv : Int)) rfl (by kernel_rfl) (by kernel_rfl) (by kernel_rfl) (fun _ _ _ h => h) (.inl ⟨rfl, fun w' hw' => ?_⟩) rfl ?_
        · subst hw'
          go_simp
        refine wpAnyH_take (i := 4) (v := .int .i64 ((lv : Int) + 1)) rfl (by kernel_rfl) (by kernel_rfl) (by kernel_rfl) (fun _ _ _ h => h) (.inl ⟨rfl, fun w' hw' => ?_⟩) rfl ?_
        · subst hw'
          go_simp
        refine wpAnyH_all (rs := [5]) (by kernel_rfl) (by simp) (fun i hi => ?_)
        obtain rfl := List.mem_singleton.1 hi
        refine wpOp_step rfl (fun K' hK => ?_)
        split
        case isFalse hno => exact absurd rfl hno
        unfold Oper.wp
        go_simp
        refine hc4.mono ?_
        rintro e w3 ⟨rfl, hg3⟩
        refine ⟨rfl, ?_⟩
        rw [HT.out, hr2]
        exact ⟨rfl, (grown_some (World.grownBy_alloc w exp0 none) b).trans (hgD.trans hg3)⟩
      | ok y m =>
        have hc4 := hc3 (by rw [hr2]; rfl)
        rw [hr2] at hc4
        cases y with
        | mk f2 s2 nm2 tk2 tl2 n2 m2 ks2 a2 =>
        simp only [ePost, expV] at hc4
        have hJ : ∀ (wx : World) (kb : Option Addr) (kn2 kc2 : Nat), w.heap.size + 1 ≤ wx.heap.size → Kids wx (w.heap.size + 1) ks1 (.slice ka kn kc) → Kids wx (w.heap.size + 1) ks2 (.slice kb kn2 kc2) → Calls Tryz.prog 115 #[.agg #[.string ⟨s.1.toArray⟩, .int .i64 s.2.1, .int .i64 s.2.2], .agg #[.int .i64 f1, .int .i64 s1, .string ⟨nm1.toArray⟩, .int .i64 tk1, .int .i64 tl1, .int .i64 n1, .int .i64 m1, .slice ka kn kc, .int .i64 a1], .agg #[.int .i64 f2, .int .i64 s2, .string ⟨nm2.toArray⟩, .int .i64 tk2, .int .i64 tl2, .int .i64 n2, .int .i64 m2, .slice kb kn2 kc2, .int .i64 a2]] wx fun e w' => (∃ v, e = .returned (expV (Gram.join s (.mk f1 s1 nm1 tk1 tl1 n1 m1 ks1 a1) (.mk f2 s2 nm2 tk2 tl2 n2 m2 ks2 a2)) v) ∧ Kids w' (w.heap.size + 1) [.mk f1 s1 nm1 tk1 tl1 n1 m1 ks1 a1, .mk f2 s2 nm2 tk2 tl2 n2 m2 ks2 a2] v) ∧ wx.grownBy w' none :=
          fun wx kb kn2 kc2 h1 h2 h3 => gjoin_any s (.mk f1 s1 nm1 tk1 tl1 n1 m1 ks1 a1) (.mk f2 s2 nm2 tk2 tl2 n2 m2 ks2 a2) _ _ (w.heap.size + 1) wx h1 h2 h3
        simp only [Gram.join, expV, Gram.Exp.at_] at hJ
        have hq1 : some w1.heap.size ≠ some b := by simp; omega
        have hq2 : some w2.heap.size ≠ some b := by simp; omega
        have hq3 : some w1.heap.size ≠ some w.heap.size := by simp; omega
        have hq4 : some w2.heap.size ≠ some w.heap.size := by simp; omega
        have hS0 : ((w2.alloc SG).drew).cell? ⟨w2.heap.size, 0, none⟩ = some (.string ⟨s.1.toArray⟩) ∧ ((w2.alloc SG).drew).cell? ⟨w2.heap.size, 1, none⟩ = some (.int .i64 s.2.1) ∧ ((w2.alloc SG).drew).cell? ⟨w2.heap.size, 2, none⟩ = some (.int .i64 s.2.2) ∧ ((w2.alloc SG).drew).cell? ⟨w1.heap.size, 0, none⟩ = some (.int .i64 f1) ∧ ((w2.alloc SG).drew).cell? ⟨w1.heap.size, 1, none⟩ = some (.int .i64 s1) ∧ ((w2.alloc SG).drew).cell? ⟨w1.heap.size, 2, none⟩ = some (.string ⟨nm1.toArray⟩) ∧ ((w2.alloc SG).drew).cell? ⟨w1.heap.size, 3, none⟩ = some (.int .i64 tk1) ∧ ((w2.alloc SG).drew).cell? ⟨w1.heap.size, 4, none⟩ = some (.int .i64 tl1) ∧ ((w2.alloc SG).drew).cell? ⟨w1.heap.size, 5, none⟩ = some (.int .i64 n1) ∧ ((w2.alloc SG).drew).cell? ⟨w1.heap.size, 6, none⟩ = some (.int .i64 m1) ∧ ((w2.alloc SG).drew).cell? ⟨w1.heap.size, 7, none⟩ = some (.slice ka kn kc) ∧ ((w2.alloc SG).drew).cell? ⟨w1.heap.size, 8, none⟩ = some (.int .i64 a1) := ⟨t0, t1, t2, u0, u1, u2, u3, u4, u5, u6, u7, u8⟩
        have hSk : ∀ (wx wy : World) (r : Option Nat), (wx.cell? ⟨w2.heap.size, 0, none⟩ = some (.string ⟨s.1.toArray⟩) ∧ wx.cell? ⟨w2.heap.size, 1, none⟩ = some (.int .i64 s.2.1) ∧ wx.cell? ⟨w2.heap.size, 2, none⟩ = some (.int .i64 s.2.2) ∧ wx.cell? ⟨w1.heap.size, 0, none⟩ = some (.int .i64 f1) ∧ wx.cell? ⟨w1.heap.size, 1, none⟩ = some (.int .i64 s1) ∧ wx.cell? ⟨w1.heap.size, 2, none⟩ = some (.string ⟨nm1.toArray⟩) ∧ wx.cell? ⟨w1.heap.size, 3, none⟩ = some (.int .i64 tk1) ∧ wx.cell? ⟨w1.heap.size, 4, none⟩ = some (.int .i64 tl1) ∧ wx.cell? ⟨w1.heap.size, 5, none⟩ = some (.int .i64 n1) ∧ wx.cell? ⟨w1.heap.size, 6, none⟩ = some (.int .i64 m1) ∧ wx.cell? ⟨w1.heap.size, 7, none⟩ = some (.slice ka kn kc) ∧ wx.cell? ⟨w1.heap.size, 8, none⟩ = some (.int .i64 a1)) → wx.grownBy wy r → some w1.heap.size ≠ r → some w2.heap.size ≠ r → (wy.cell? ⟨w2.heap.size, 0, none⟩ = some (.string ⟨s.1.toArray⟩) ∧ wy.cell? ⟨w2.heap.size, 1, none⟩ = some (.int .i64 s.2.1) ∧ wy.cell? ⟨w2.heap.size, 2, none⟩ = some (.int .i64 s.2.2) ∧ wy.cell? ⟨w1.heap.size, 0, none⟩ = some (.int .i64 f1) ∧ wy.cell? ⟨w1.heap.size, 1, none⟩ = some (.int .i64 s1) ∧ wy.cell? ⟨w1.heap.size, 2, none⟩ = some (.string ⟨nm1.toArray⟩) ∧ wy.cell? ⟨w1.heap.size, 3, none⟩ = some (.int .i64 tk1) ∧ wy.cell? ⟨w1.heap.size, 4, none⟩ = some (.int .i64 tl1) ∧ wy.cell? ⟨w1.heap.size, 5, none⟩ = some (.int .i64 n1) ∧ wy.cell? ⟨w1.heap.size, 6, none⟩ = some (.int .i64 m1) ∧ wy.cell? ⟨w1.heap.size, 7, none⟩ = some (.slice ka kn kc) ∧ wy.cell? ⟨w1.heap.size, 8, none⟩ = some (.int .i64 a1)) := fun _ _ _ h hg hq1 hq2 => ⟨hg.cell h.1 hq2, hg.cell h.2.1 hq2, hg.cell h.2.2.1 hq2, hg.cell h.2.2.2.1 hq1, hg.cell h.2.2.2.2.1 hq1, hg.cell h.2.2.2.2.2.1 hq1, hg.cell h.2.2.2.2.2.2.1 hq1, hg.cell h.2.2.2.2.2.2.2.1 hq1, hg.cell h.2.2.2.2.2.2.2.2.1 hq1, hg.cell h.2.2.2.2.2.2.2.2.2.1 hq1, hg.cell h.2.2.2.2.2.2.2.2.2.2.1 hq1, hg.cell h.2.2.2.2.2.2.2.2.2.2.2 hq1⟩
        have HSK := Lib.hid hSk
        clear hSk
        have hsD := hgD.size
        rw [World.size_alloc] at hsD
        go_wp2
        rw [← HSG.out]
        go_region_held3 (fun w' => w'.cell? ⟨w2.heap.size, 0, none⟩ = some (.string ⟨s.1.toArray⟩) ∧ w'.cell? ⟨w2.heap.size, 1, none⟩ = some (.int .i64 s.2.1) ∧ w'.cell? ⟨w2.heap.size, 2, none⟩ = some (.int .i64 s.2.2) ∧ w'.cell? ⟨w1.heap.size, 0, none⟩ = some (.int .i64 f1) ∧ w'.cell? ⟨w1.heap.size, 1, none⟩ = some (.int .i64 s1) ∧ w'.cell? ⟨w1.heap.size, 2, none⟩ = some (.string ⟨nm1.toArray⟩) ∧ w'.cell? ⟨w1.heap.size, 3, none⟩ = some (.int .i64 tk1) ∧ w'.cell? ⟨w1.heap.size, 4, none⟩ = some (.int .i64 tl1) ∧ w'.cell? ⟨w1.heap.size, 5, none⟩ = some (.int .i64 n1) ∧ w'.cell? ⟨w1.heap.size, 6, none⟩ = some (.int .i64 m1) ∧ w'.cell? ⟨w1.heap.size, 7, none⟩ = some (.slice ka kn kc) ∧ w'.cell? ⟨w1.heap.size, 8, none⟩ = some (.int .i64 a1)) (first | with_reducible exact hS0 | with_reducible exact hS3 | with_reducible exact hS4 | with_reducible exact HSK.out _ _ _ hS4 (grown9 _ _ _ _ _ _ _ _ _ _ _) hq3 hq4)
          (first
            | (go_at_call 113; refine hc4.mono ?_; rintro e w3 ⟨k3, rfl, hk3, hP3, hg3⟩; obtain ⟨kb, kn2, kc2, rfl⟩ := hk3.form; have hS3 := HSK.out _ _ _ hS0 hg3 hq1 hq2)
            | (go_at_call 115; refine (hJ _ _ _ _ (by have := hg3.size; omega) (((hk1.kept hgE (by simp; omega)).kept hg3 (by simp; omega)).mono (by simp)) (hk3.mono (by omega))).mono ?_; rintro e w4 ⟨⟨v4, rfl, hk4⟩, hg4⟩; obtain ⟨va, vn, vc, rfl⟩ := Kids.form hk4; have hS4 := HSK.out _ _ _ hS3 hg4 (by simp) (by simp); obtain ⟨z0, z1, z2, z3, z4, z5, z6, z7, z8, zf⟩ := Nc.of (((hgD.trans (hg3.trans (grown_some hg4 b))).block w.heap.size (by simp) (by simp; omega)).trans (heap_alloc_new w exp0))))
        go_wp2
        (try simp only [Exit.inBlock, Exit.then])
        have hgF := hgD.trans (hg3.trans (grown_some hg4 b))
        have hN : Nn w4 w.heap.size := ⟨_, _, _, _, _, _, _, _, _, (hgF.block w.heap.size (by simp) (by simp; omega)).trans (heap_alloc_new w exp0)⟩
        refine bodyPost_ret (results_cell_row rfl _ _ w.heap.size 28 _ (0, 0) _ rfl (stored9 hN) Tryz.underlying28 rfl (by kernel_rfl)) rfl ?_
        rw [HT.out, hr2]
        have hG := fun v0 v1 v2 v3 v4 v5 v6 v7 v8 => gset9 (g := w.heap.size) (v0 := v0) (v1 := v1) (v2 := v2) (v3 := v3) (v4 := v4) (v5 := v5) (v6 := v6) (v7 := v7) (v8 := v8) ((grown_some (World.grownBy_alloc w exp0 none) b).trans hgF) (.inl (Nat.le_refl _))
        exact ⟨_, rfl, RepC.mono (Nat.le_succ _) (RepC.kept (grown9 _ _ _ _ _ _ _ _ _ _ _) (fun k e => by cases e; exact Nat.lt_succ_self _) hk4), HH.out.to (hG _ _ _ _ _ _ _ _ _) ((hP3.st.kept (grown_some hg4 w.heap.size) (by simp; omega)).kept (grown9 _ _ _ _ _ _ _ _ _ _ _) (by simp; omega)) hP3.lt, hG _ _ _ _ _ _ _ _ _⟩
end

end Go.Proofs.YtachmiajldeakaaGreatDoor

/- gram's read, loosest and tightest: each hands on what one call reads. -/
namespace Go.Proofs.YtachmiajldeakaaGreatDoor
open Go.RowKit Go.Maps Go.WideMaps

theorem len_rules (a : Option Addr) (len cap : Nat) (ty : TypeId) (wx : World) : (Builtin.len_ #[92] ty #[.slice a len cap]).run Tryz.prog wx = .ok (.int .i64 (len : Int)) wx := by
  simp [Builtin.len_, run_underlying Tryz.underlying92, goInt, Result.andThen]

theorem genters {f : FuncId} {fn : Func} {c : Code} (hf : Tryz.prog.funcs[f]? = some fn) (hname : (fn.name == "runtime.NumGoroutine") = false) (hb : fn.body = some c) (args : Array Value) (w : World) :
    (callFunc f args).run Tryz.prog w = .ok (.enter f args) w := by
  have hn : ¬ fn.name = "runtime.NumGoroutine" := by simpa using hname
  simp [callFunc, hf, hn, hb]

theorem rule_enters (lv : Nat) (args : Array Value) (w : World) : (callFunc (ruleFn lv) args).run Tryz.prog w = .ok (.enter (ruleFn lv) args) w := by
  unfold ruleFn
  split
  · exact genters Tryz.func71 (by kernel_rfl) rfl args w
  · split
    · exact genters Tryz.func73 (by kernel_rfl) rfl args w
    · split
      · exact genters Tryz.func72 (by kernel_rfl) rfl args w
      · exact genters Tryz.func74 (by kernel_rfl) rfl args w

section
variable (b g cap : Nat) (rv : Value) (T : List Lex.Tk)

set_option maxHeartbeats 1600000 in
set_option maxRecDepth 20000 in
theorem gloosest_any (d i : Nat) (r : Gram.PR Gram.Exp) (hf : r.isFuel = false) (w : World) (h : Pa w b g cap rv T i d)
    (hc : Calls Tryz.prog 113 #[.pointer (some ⟨b, 0, none⟩), .int .i64 0] (w.alloc exp0) fun e w' => ePost (w.alloc exp0) b g cap rv T d r e w') :
    Calls Tryz.prog 171 #[.pointer (some ⟨b, 0, none⟩)] w fun e w' => ePost w b g cap rv T d r e w' := by
  have hbw := h.bl
  cases r with
  | fuel => cases hf
  | bad a er =>
    simp only [ePost] at hc
    clear hf
    have HH := Lib.hid h
    clear h
    go_enter Tryz.func171, Tryz.ntmps171
    go_wp2_with (go_at_call 113; refine hc.mono ?_; rintro e w1 ⟨rfl, hg1⟩)
    exact ⟨rfl, rfl, (grown_some (World.grownBy_alloc w exp0 none) b).trans hg1⟩
  | ok x j =>
    cases x with
    | mk f1 s1 nm1 tk1 tl1 n1 m1 ks1 a1 =>
    simp only [ePost, expV] at hc
    clear hf
    have HH := Lib.hid h
    clear h
    go_enter Tryz.func171, Tryz.ntmps171
    go_wp2_with (first | (go_at_call 113; refine hc.mono ?_; rintro e w1 ⟨k1, rfl, hk1, hP1, hg1⟩; obtain ⟨ka, kn, kc, rfl⟩ := hk1.form) | (with_reducible refine hold_st 2 ?_))
    refine Lib.hid ?_
    refine wpList_store_gen rfl _ _ _ rfl w.heap.size _ rfl rfl 28 _ ((hg1.block w.heap.size (by simp) (by simp; omega)).trans (heap_alloc_new w exp0)) (by kernel_rfl) rfl (by simp [Value.oneCell']) ?_
    intro w4 hh4 hg4
    go_wp2
    (try simp only [Exit.inBlock, Exit.then])
    refine bodyPost_ret (results_cell_row rfl _ _ w.heap.size 28 _ (0, 0) _ rfl hh4 Tryz.underlying28 rfl (by kernel_rfl)) rfl ?_
    have hG : w.grownBy w4 (some b) := ((grown_some (World.grownBy_alloc w exp0 none) b).trans hg1).andThen hg4 (fun j e => .inl (by cases e; exact Nat.le_refl _))
    exact ⟨_, rfl, (hk1.kept hg4 (by simp)).mono (by simp), HH.out.to hG (hP1.st.kept hg4 (by simp; omega)) hP1.lt, hG⟩

set_option maxHeartbeats 1600000 in
set_option maxRecDepth 20000 in
theorem gtightest_any (d i : Nat) (r : Gram.PR Gram.Exp) (hf : r.isFuel = false) (w : World) (h : Pa w b g cap rv T i d)
    (hc : Calls Tryz.prog 113 #[.pointer (some ⟨b, 0, none⟩), .int .i64 11] (w.alloc exp0) fun e w' => ePost (w.alloc exp0) b g cap rv T d r e w') :
    Calls Tryz.prog 141 #[.pointer (some ⟨b, 0, none⟩)] w fun e w' => ePost w b g cap rv T d r e w' := by
  have hbw := h.bl
  obtain ⟨hb, hrv, hbh, hrl⟩ := h.rl
  subst hrv
  have p3 := (h.alloc exp0).st.c3
  unfold exp0 at p3
  have hls := len_rules (some ⟨hb + 11, 0, none⟩) 12 12
  cases r with
  | fuel => cases hf
  | bad a er =>
    simp only [ePost] at hc
    clear hf
    have HH := Lib.hid h
    clear h
    go_enter Tryz.func141, Tryz.ntmps141
    go_wp2_with (go_at_call 113; refine hc.mono ?_; rintro e w1 ⟨rfl, hg1⟩)
    exact ⟨rfl, rfl, (grown_some (World.grownBy_alloc w exp0 none) b).trans hg1⟩
  | ok x j =>
    cases x with
    | mk f1 s1 nm1 tk1 tl1 n1 m1 ks1 a1 =>
    simp only [ePost, expV] at hc
    clear hf
    have HH := Lib.hid h
    clear h
    go_enter Tryz.func141, Tryz.ntmps141
    go_wp2_with (first | (go_at_call 113; refine hc.mono ?_; rintro e w1 ⟨k1, rfl, hk1, hP1, hg1⟩; obtain ⟨ka, kn, kc, rfl⟩ := hk1.form) | (with_reducible refine hold_st 2 ?_))
    refine Lib.hid ?_
    refine wpList_store_gen rfl _ _ _ rfl w.heap.size _ rfl rfl 28 _ ((hg1.block w.heap.size (by simp) (by simp; omega)).trans (heap_alloc_new w exp0)) (by kernel_rfl) rfl (by simp [Value.oneCell']) ?_
    intro w4 hh4 hg4
    go_wp2
    (try simp only [Exit.inBlock, Exit.then])
    refine bodyPost_ret (results_cell_row rfl _ _ w.heap.size 28 _ (0, 0) _ rfl hh4 Tryz.underlying28 rfl (by kernel_rfl)) rfl ?_
    have hG : w.grownBy w4 (some b) := ((grown_some (World.grownBy_alloc w exp0 none) b).trans hg1).andThen hg4 (fun j e => .inl (by cases e; exact Nat.le_refl _))
    exact ⟨_, rfl, (hk1.kept hg4 (by simp)).mono (by simp), HH.out.to hG (hP1.st.kept hg4 (by simp; omega)) hP1.lt, hG⟩

set_option maxHeartbeats 1600000 in
set_option maxRecDepth 20000 in
theorem gread_disp (d i lv : Nat) (hlv : lv < 12) (r : Gram.PR Gram.Exp) (hf : r.isFuel = false) (w : World) (h : Pa w b g cap rv T i d)
    (hc : Calls Tryz.prog (ruleFn lv) #[.pointer (some ⟨b, 0, none⟩), .int .i64 (lv : Int)] (w.alloc exp0) fun e w' => ePost (w.alloc exp0) b g cap rv T d r e w') :
    Calls Tryz.prog 113 #[.pointer (some ⟨b, 0, none⟩), .int .i64 (lv : Int)] w fun e w' => ePost w b g cap rv T d r e w' := by
  have hbw := h.bl
  obtain ⟨hb, hrv, hbh, hrl⟩ := h.rl
  subst hrv
  have r11 := hrl 11 (by decide)
  have r11' : w.heap[hb + 11]? = some (.cells (ruleCells b hb).toArray 128 (0, 0)) := r11
  have hl11 : hb + 11 < w.heap.size := (Array.getElem?_eq_some_iff.1 r11).1
  have cR : (w.alloc exp0).cell? ⟨hb + 11, lv * 2, none⟩ = some (.func (.func (ruleFn lv)) #[.pointer (some ⟨b, 0, none⟩)] #[]) := by
    rw [cell_of_row (w.alloc exp0) (hb + 11) _ _ _ _ ((heap_alloc_old _ _ hl11).trans r11'), List.getElem?_toArray]; exact rule_fn b hb lv hlv
  have p3 := (h.alloc exp0).st.c3
  unfold exp0 at p3 cR
  have hlvi : (lv : Int) < 12 := by omega
  have hent := rule_enters lv
  generalize ruleFn lv = fn at hc cR hent
  clear r11 r11' hrl
  cases r with
  | fuel => cases hf
  | bad a er =>
    simp only [ePost] at hc
    clear hf
    have HH := Lib.hid h
    clear h
    go_enter Tryz.func113, Tryz.ntmps113
    go_wp2_with fail
    refine hc.mono ?_
    rintro e w1 ⟨rfl, hg1⟩
    exact ⟨rfl, rfl, (grown_some (World.grownBy_alloc w exp0 none) b).trans hg1⟩
  | ok x j =>
    cases x with
    | mk f1 s1 nm1 tk1 tl1 n1 m1 ks1 a1 =>
    simp only [ePost, expV] at hc
    clear hf
    have HH := Lib.hid h
    clear h
    go_enter Tryz.func113, Tryz.ntmps113
    go_wp2_with fail
    refine hc.mono ?_
    rintro e w1 ⟨k1, rfl, hk1, hP1, hg1⟩
    obtain ⟨ka, kn, kc, rfl⟩ := hk1.form
    go_wp2_with (with_reducible refine hold_st 4 ?_)
    refine Lib.hid ?_
    refine wpList_store_gen rfl _ _ _ rfl w.heap.size _ rfl rfl 28 _ ((hg1.block w.heap.size (by simp) (by simp; omega)).trans (heap_alloc_new w exp0)) (by kernel_rfl) rfl (by simp [Value.oneCell']) ?_
    intro w4 hh4 hg4
    go_wp2
    (try simp only [Exit.inBlock, Exit.then])
    refine bodyPost_ret (results_cell_row rfl _ _ w.heap.size 28 _ (0, 0) _ rfl hh4 Tryz.underlying28 rfl (by kernel_rfl)) rfl ?_
    have hG : w.grownBy w4 (some b) := ((grown_some (World.grownBy_alloc w exp0 none) b).trans hg1).andThen hg4 (fun j e => .inl (by cases e; exact Nat.le_refl _))
    exact ⟨_, rfl, (hk1.kept hg4 (by simp)).mono (by simp), HH.out.to hG (hP1.st.kept hg4 (by simp; omega)) hP1.lt, hG⟩
end

end Go.Proofs.YtachmiajldeakaaGreatDoor

/- gram's within and exp. -/
namespace Go.Proofs.YtachmiajldeakaaGreatDoor
open Go.RowKit Go.Maps Go.WideMaps

section
variable (b g cap : Nat) (rv : Value) (T : List Lex.Tk)

set_option maxHeartbeats 1600000 in
set_option maxRecDepth 20000 in
theorem gwithin_no (v : Value) (d i : Nat) (w : World) (h : Pa w b g cap rv T i d) (hd : 40 ≤ d) :
    Calls Tryz.prog 116 #[.pointer (some ⟨b, 0, none⟩), v] w fun e w' => gBad w b ((Gram.tk T i).at_ : Int) 2 e w' := by
  have p2 := (h.alloc exp0).st.c2
  have hr := groom_no b g cap rv T i d (d : Int) 40 (by omega) _ (h.alloc exp0)
  unfold exp0 at p2
  have HH := Lib.hid h
  clear h
  go_enter Tryz.func116, Tryz.ntmps116
  go_wp2_with (go_at_call 75; refine hr.mono ?_; rintro e w1 ⟨rfl, hg1⟩)
  exact ⟨rfl, rfl, (grown_some (World.grownBy_alloc w exp0 none) b).trans hg1⟩

set_option maxHeartbeats 1600000 in
set_option maxRecDepth 20000 in
theorem gwithin_yes (n : Nat) (hent : ∀ (args : Array Value) (wx : World), (callFunc n args).run Tryz.prog wx = .ok (.enter n args) wx) (d i : Nat) (r : Gram.PR Gram.Exp) (hf : r.isFuel = false) (w : World) (h : Pa w b g cap rv T i d) (hd : d < 40)
    (hc : ∀ wx, Pa wx b g cap rv T i (d + 1) → Calls Tryz.prog n #[.pointer (some ⟨b, 0, none⟩)] wx fun e w' => ePost wx b g cap rv T (d + 1) r e w') :
    Calls Tryz.prog 116 #[.pointer (some ⟨b, 0, none⟩), .func (.func n) #[.pointer (some ⟨b, 0, none⟩)] #[]] w fun e w' => ePost w b g cap rv T d r e w' := by
  have hbw := h.bl
  have hP0 := h.alloc exp0
  have p2 := hP0.st.c2
  have f2 := hP0.st.fr 2
  have hr := fun wx => groom_yes b (d : Int) 40 (by omega) wx
  have hP1 : Pa ((w.setCell ⟨b, 2, none⟩ (.int .i64 ((d : Int) + 1))).alloc exp0) b g cap rv T i (d + 1) := (h.to (grown_set _ _ _) (h.st.setDeep (d + 1)) h.lt).alloc exp0
  have hcc := hc _ hP1
  have hgS : w.grownBy ((w.setCell ⟨b, 2, none⟩ (.int .i64 ((d : Int) + 1))).alloc exp0) (some b) := galloc (grown_set _ _ _) _
  have hbS : ((w.setCell ⟨b, 2, none⟩ (.int .i64 ((d : Int) + 1))).alloc exp0).heap[w.heap.size]? = some exp0 := by
    have e := heap_alloc_new (w.setCell ⟨b, 2, none⟩ (.int .i64 ((d : Int) + 1))) exp0
    have e2 : (w.setCell ⟨b, 2, none⟩ (.int .i64 ((d : Int) + 1))).heap.size = w.heap.size := by simp
    rw [e2] at e
    exact e
  have hsS : ((w.setCell ⟨b, 2, none⟩ (.int .i64 ((d : Int) + 1))).alloc exp0).heap.size = w.heap.size + 1 := by simp
  have HBS := Lib.hid hbS
  have HSS := Lib.hid hsS
  clear hbS hsS
  have HH := Lib.hid h
  have HP0 := Lib.hid hP0
  clear h hP0 hP1 hc
  cases r with
  | fuel => cases hf
  | bad a er =>
    simp only [ePost] at hcc
    clear hf
    unfold exp0 at p2 f2 hcc
    go_enter Tryz.func116, Tryz.ntmps116
    go_wp2_with (go_at_call 75; refine (hr _).mono ?_; rintro e w9 ⟨rfl, hw9⟩; rw [hw9]; clear hw9)
    refine hcc.mono ?_
    rintro e w1 ⟨rfl, hg1⟩
    exact ⟨rfl, rfl, hgS.trans hg1⟩
  | ok x j =>
    cases x with
    | mk f1 s1 nm1 tk1 tl1 n1 m1 ks1 a1 =>
    simp only [ePost, expV] at hcc
    clear hf
    unfold exp0 at p2 f2 hcc
    go_enter Tryz.func116, Tryz.ntmps116
    go_wp2_with (go_at_call 75; refine (hr _).mono ?_; rintro e w9 ⟨rfl, hw9⟩; rw [hw9]; clear hw9)
    refine hcc.mono ?_
    rintro e w1 ⟨k1, rfl, hk1, hP1, hg1⟩
    obtain ⟨ka, kn, kc, rfl⟩ := hk1.form
    have hPE := hP1.alloc (.cells #[.int .i64 f1, .int .i64 s1, .string ⟨nm1.toArray⟩, .int .i64 tk1, .int .i64 tl1, .int .i64 n1, .int .i64 m1, .slice ka kn kc, .int .i64 a1] 28)
    have q2 := hP1.st.c2
    have g2 := hP1.st.fr 2
    have hb1 := hP1.bl
    have hne1 : ¬ b = w1.heap.size := by omega
    have hgW : w.grownBy w1 (some b) := hgS.trans hg1
    have hs1 := hg1.size
    have hs2 := HSS.out
    unfold exp0 at hs2
    refine Hid.out ?_
    refine Lib.hid ?_
    go_wp2_with (with_reducible refine hold_st 4 ?_)
    obtain ⟨W, hW⟩ : ∃ W, W = (w1.setCell ⟨b, 2, none⟩ (.int .i64 (d : Int))).alloc (.cells #[.int .i64 f1, .int .i64 s1, .string ⟨nm1.toArray⟩, .int .i64 tk1, .int .i64 tl1, .int .i64 n1, .int .i64 m1, .slice ka kn kc, .int .i64 a1] 28) := ⟨_, rfl⟩
    rw [← hW]
    have hg2 : w1.grownBy W (some b) := by rw [hW]; exact galloc (grown_set _ _ _) _
    have hPW : Pst W b (.slice (some ⟨g, 0, none⟩) T.length cap) rv j d := by
      have e := (hP1.st.setDeep d).kept (World.grownBy_alloc _ (.cells #[.int .i64 f1, .int .i64 s1, .string ⟨nm1.toArray⟩, .int .i64 tk1, .int .i64 tl1, .int .i64 n1, .int .i64 m1, .slice ka kn kc, .int .i64 a1] 28) none) (by simp)
      rw [hW]; exact e
    clear hW
    refine Lib.hid ?_
    refine wpList_store_gen rfl _ _ _ rfl w.heap.size _ rfl rfl 28 _ (((hg1.trans hg2).block w.heap.size (by omega) (by simp; omega)).trans HBS.out) (by kernel_rfl) rfl (by simp [Value.oneCell']) ?_
    intro w4 hh4 hg4
    go_wp2
    (try simp only [Exit.inBlock, Exit.then])
    refine bodyPost_ret (results_cell_row rfl _ _ w.heap.size 28 _ (0, 0) _ rfl hh4 Tryz.underlying28 rfl (by kernel_rfl)) rfl ?_
    have hG : w.grownBy w4 (some b) := (hgW.trans hg2).andThen hg4 (fun j e => .inl (by cases e; exact Nat.le_refl _))
    exact ⟨_, rfl, ((hk1.kept hg2 (by omega)).kept hg4 (by omega)).mono (by omega), HH.out.to hG (hPW.kept hg4 (by simp; omega)) hP1.lt, hG⟩

set_option maxHeartbeats 1600000 in
set_option maxRecDepth 20000 in
theorem gexp_no (d i : Nat) (w : World) (h : Pa w b g cap rv T i d) (hs : Gram.seesExp T i = false) :
    Calls Tryz.prog 145 #[.pointer (some ⟨b, 0, none⟩)] w fun e w' => gBad w b ((Gram.tk T i).at_ : Int) 12 e w' := by
  have hn := gexp_sees b g cap rv T i d _ (h.alloc exp0)
  rw [hs] at hn
  have ht := fun wx (hx : (w.alloc exp0).grownBy wx none) => gneed_no b g cap rv T i d wx ((h.alloc exp0).kept hx)
  have HH := Lib.hid h
  clear h
  go_enter Tryz.func145, Tryz.ntmps145
  go_wp2_with (first | (go_at_call 170; refine hn.mono ?_; rintro e w1 ⟨rfl, hg1⟩) | (go_at_call 36; refine (ht _ hg1).mono ?_; rintro e w2 ⟨rfl, hg2⟩))
  exact ⟨rfl, rfl, (grown_some ((World.grownBy_alloc w exp0 none).trans hg1) b).trans hg2⟩

/-- exp, by what within does of it -/
theorem loose_enters (args : Array Value) (w : World) : (callFunc 171 args).run Tryz.prog w = .ok (.enter 171 args) w := genters Tryz.func171 (by kernel_rfl) rfl args w
theorem makeFunc_run (fn : Fn) (first cap : Array Value) (w : World) : (Instr.makeFunc fn first cap).run Tryz.prog w = .ok (.func fn first cap) w := rfl

set_option maxHeartbeats 1600000 in
set_option maxRecDepth 20000 in
theorem gexp_yes (d i : Nat) (r : Gram.PR Gram.Exp) (hf : r.isFuel = false) (w : World) (h : Pa w b g cap rv T i d) (hs : Gram.seesExp T i = true)
    (hc : ∀ wx, Pa wx b g cap rv T i d → Calls Tryz.prog 116 #[.pointer (some ⟨b, 0, none⟩), .func (.func 171) #[.pointer (some ⟨b, 0, none⟩)] #[]] wx fun e w' => ePost wx b g cap rv T d r e w') :
    Calls Tryz.prog 145 #[.pointer (some ⟨b, 0, none⟩)] w fun e w' => ePost w b g cap rv T d r e w' := by
  have hbw := h.bl
  have hn := gexp_sees b g cap rv T i d _ (h.alloc exp0)
  rw [hs] at hn
  have hy := fun wx => gneed_yes b wx
  have hcc := fun wx (hx : (w.alloc exp0).grownBy wx none) => hc wx ((h.alloc exp0).kept hx)
  have hmf := makeFunc_run
  have HH := Lib.hid h
  clear h hc
  cases r with
  | fuel => cases hf
  | bad a er =>
    simp only [ePost] at hcc
    clear hf
    go_enter Tryz.func145, Tryz.ntmps145
    go_wp2_with (first | (go_at_call 170; refine hn.mono ?_; rintro e w1 ⟨rfl, hg1⟩) | (go_at_call 36; refine (hy _).mono ?_; rintro e w9 ⟨rfl, hw9⟩; rw [hw9]; clear hw9) | (go_at_call 116; refine (hcc _ hg1).mono ?_; rintro e w2 ⟨rfl, hg2⟩))
    exact ⟨rfl, rfl, (grown_some ((World.grownBy_alloc w exp0 none).trans hg1) b).trans hg2⟩
  | ok x j =>
    cases x with
    | mk f1 s1 nm1 tk1 tl1 n1 m1 ks1 a1 =>
    simp only [ePost, expV] at hcc
    clear hf
    go_enter Tryz.func145, Tryz.ntmps145
    go_wp2_with (first | (go_at_call 170; refine hn.mono ?_; rintro e w1 ⟨rfl, hg1⟩) | (go_at_call 36; refine (hy _).mono ?_; rintro e w9 ⟨rfl, hw9⟩; rw [hw9]; clear hw9) | (go_at_call 116; refine (hcc _ hg1).mono ?_; rintro e w2 ⟨k1, rfl, hk1, hP1, hg2⟩; obtain ⟨ka, kn, kc, rfl⟩ := hk1.form) | (with_reducible refine hold_st 2 ?_))
    have hs1 := hg1.size
    rw [World.size_alloc] at hs1
    have hgW : (w.alloc exp0).grownBy w2 (some b) := (grown_some hg1 b).trans hg2
    refine Lib.hid ?_
    refine wpList_store_gen rfl _ _ _ rfl w.heap.size _ rfl rfl 28 _ ((hgW.block w.heap.size (by simp) (by simp; omega)).trans (heap_alloc_new w exp0)) (by kernel_rfl) rfl (by simp [Value.oneCell']) ?_
    intro w4 hh4 hg4
    go_wp2
    (try simp only [Exit.inBlock, Exit.then])
    refine bodyPost_ret (results_cell_row rfl _ _ w.heap.size 28 _ (0, 0) _ rfl hh4 Tryz.underlying28 rfl (by kernel_rfl)) rfl ?_
    have hG : w.grownBy w4 (some b) := ((grown_some (World.grownBy_alloc w exp0 none) b).trans hgW).andThen hg4 (fun j e => .inl (by cases e; exact Nat.le_refl _))
    exact ⟨_, rfl, (hk1.kept hg4 (by omega)).mono (by omega), HH.out.to hG (hP1.st.kept hg4 (by simp; omega)) hP1.lt, hG⟩

/-- exp does as the model does with so many steps -/
def CExp (f : Nat) : Prop :=
  ∀ (d i : Nat) (w : World), Pa w b g cap rv T i d → (Gram.exp T f d i).isFuel = false →
    Calls Tryz.prog 145 #[.pointer (some ⟨b, 0, none⟩)] w fun e w' => ePost w b g cap rv T d (Gram.exp T f d i) e w'

theorem cexp_of (f : Nat) (hR : CRead b g cap rv T f) : CExp b g cap rv T (f + 1) := by
  intro d i w h hf
  unfold Gram.exp at hf ⊢
  unfold Gram.need at hf ⊢
  rcases Bool.eq_false_or_eq_true (Gram.seesExp T i) with hs | hs
  · rw [if_pos hs] at hf ⊢
    unfold Gram.room at hf ⊢
    by_cases hd : 40 ≤ d
    · rw [if_pos hd] at hf ⊢
      exact gexp_yes b g cap rv T d i _ hf w h hs (fun wx hx => gwithin_no b g cap rv T _ d i wx hx hd)
    · rw [if_neg hd] at hf ⊢
      exact gexp_yes b g cap rv T d i _ hf w h hs (fun wx hx => gwithin_yes b g cap rv T _ loose_enters d i _ hf wx hx (by omega) (fun wy hy => gloosest_any b g cap rv T (d + 1) i _ hf wy hy (hR (d + 1) 0 i _ (by omega) (hy.alloc exp0) hf)))
  · rw [if_neg (by rw [hs]; decide)] at hf ⊢
    exact gexp_no b g cap rv T d i w h hs
end

end Go.Proofs.YtachmiajldeakaaGreatDoor

/- gram's kinds, edges and values. -/
namespace Go.Proofs.YtachmiajldeakaaGreatDoor
open Go.RowKit Go.Maps Go.WideMaps

namespace Gram
/-- the nine words of kinds, behind an empty one -/
def words10 : List B := [[], [98, 111, 111, 108], [105, 56], [105, 49, 54], [105, 51, 50], [105, 54, 52], [117, 56], [117, 49, 54], [117, 51, 50], [117, 54, 52]]
def w10 (t : Nat) : B := words10.getD t []
theorem kind10_all : ((List.range 10).all fun t => Lex.kindOf (w10 t) == (t : Int)) = true := by kernel_rfl
theorem kind10 (t : Nat) (h : t < 10) : Lex.kindOf (w10 t) = (t : Int) := beq_iff_eq.1 (List.all_eq_true.1 kind10_all t (List.mem_range.2 h))
theorem tbl_words : (Lex.tbl.all fun p => p.2 == 0 || words10.tail.contains p.1) = true := by kernel_rfl
theorem kind0 (l : B) (h : ∀ t, 1 ≤ t → t < 10 → ¬ l = w10 t) : Lex.kindOf l = 0 := by
  unfold Lex.kindOf Lex.look
  cases e : Lex.tbl.find? (fun p => p.1 == l) with
  | none => rfl
  | some p =>
    have h1 := List.all_eq_true.1 tbl_words p (List.mem_of_find?_eq_some e)
    have h2 : p.1 = l := beq_iff_eq.1 (List.find?_some (p := fun p : List UInt8 × Int => p.1 == l) e)
    rw [Bool.or_eq_true, beq_iff_eq, h2] at h1
    rcases h1 with h1 | h1
    · exact h1
    · exfalso
      simp only [words10, List.tail_cons, List.contains_eq_mem, List.mem_cons, List.not_mem_nil, or_false, decide_eq_true_eq] at h1
      rcases h1 with h1 | h1 | h1 | h1 | h1 | h1 | h1 | h1 | h1
      · exact h 1 (by decide) (by decide) h1
      · exact h 2 (by decide) (by decide) h1
      · exact h 3 (by decide) (by decide) h1
      · exact h 4 (by decide) (by decide) h1
      · exact h 5 (by decide) (by decide) h1
      · exact h 6 (by decide) (by decide) h1
      · exact h 7 (by decide) (by decide) h1
      · exact h 8 (by decide) (by decide) h1
      · exact h 9 (by decide) (by decide) h1
end Gram

set_option maxHeartbeats 1600000 in
set_option maxRecDepth 20000 in
theorem gkindOf_any (x : ByteArray) (w : World) :
    Calls Tryz.prog 202 #[.string x] w fun e w' => e = .returned (.int .i64 (Lex.kindOf x.data.toList)) ∧ w.grownBy w' none := by
  go_enter Tryz.func202, Tryz.ntmps202
  go_wp2
  have hc : ∀ t, t < 10 → (w.alloc (.cells (Gram.words10.map (fun k => Value.string ⟨k.toArray⟩)).toArray 187)).cell? ⟨w.heap.size, t, none⟩ = some (.string ⟨(Gram.w10 t).toArray⟩) := by
    intro t ht
    rw [cell_of_row _ _ t _ _ _ (heap_alloc_new w _)]
    have hh : t < Gram.words10.length := ht
    simp [Gram.w10, List.getD, hh]
  have hg : w.grownBy (w.alloc (.cells (Gram.words10.map (fun k => Value.string ⟨k.toArray⟩)).toArray 187)) none := World.grownBy_alloc w _ none
  go_loopw [4] (fun i wr => ∃ t : Nat, 1 ≤ t ∧ t ≤ 10 ∧ i = .int .i64 (t : Int) ∧ ((∀ t, t < 10 → wr.cell? ⟨w.heap.size, t, none⟩ = some (.string ⟨(Gram.w10 t).toArray⟩)) ∧ w.grownBy wr none) ∧ Hid (∀ s, 1 ≤ s → s < t → ¬ x.data.toList = Gram.w10 s)) (fun i _ => 10 - (intOf i).toNat)
  case atStart => exact ⟨1, Nat.le_refl _, by decide, rfl, ⟨hc, hg⟩, Lib.hid (fun s h1 h2 => by omega)⟩
  case round =>
    clear hc hg
    obtain ⟨t, ht1, ht, rfl, ⟨hc, hg⟩, H⟩ := hrel
    by_cases hlt : t < 10
    · have ct := hc t hlt
      have ht9 : (t : Int) < 10 := by omega
      obtain ⟨z, hz⟩ : ∃ z : ByteArray, z = ⟨(Gram.w10 t).toArray⟩ := ⟨_, rfl⟩
      have hzl : z.data.toList = Gram.w10 t := by rw [hz]
      rw [← hz] at ct
      have HC := Lib.hid hc
      clear hz hc
      by_cases heq : x.data.toList = Gram.w10 t
      · have hcmp : (z.toList == x.toList) = true := by rw [beq_iff_eq, ByteArray.toList_eq, ByteArray.toList_eq, hzl, heq]
        have HE := Lib.hid heq
        clear heq hzl
        go_wp2
        go_ret
        exact ⟨ret_int (by rw [HE.out, Gram.kind10 t hlt]), hg⟩
      · have hcmp : (z.toList == x.toList) = false := by
          rw [beq_eq_false_iff_ne, ByteArray.toList_eq, ByteArray.toList_eq, hzl]
          exact fun h => heq h.symm
        have HE := Lib.hid heq
        clear heq hzl
        go_wp2
        refine ⟨⟨t + 1, by omega, by omega, by go_num, ⟨HC.out, hg⟩, Lib.hid (fun s h1 hs => ?_)⟩, by simp [intOf]; omega⟩
        by_cases hst : s = t
        · subst hst; exact HE.out
        · exact H.out s h1 (by omega)
    · have e : t = 10 := by omega
      subst e
      clear hc
      go_wp2
      go_ret
      exact ⟨ret_int (by rw [Gram.kind0 _ (fun s h1 h2 => H.out s h1 h2)]), hg⟩

section
variable (b g cap : Nat) (rv : Value) (T : List Lex.Tk) (i d : Nat)

set_option maxHeartbeats 800000 in
set_option maxRecDepth 20000 in
theorem gkind_no (w : World) (h : Pa w b g cap rv T i d) (hs : (Lex.kindOf (Gram.tk T i).text != 0) = false) :
    Calls Tryz.prog 183 #[.pointer (some ⟨b, 0, none⟩)] w fun e w' => gBad w b ((Gram.tk T i).at_ : Int) 12 e w' := by
  have hx := gnext_any b g cap rv T i d w h
  have ht := fun wx (hx : w.grownBy wx none) => gneed_no b g cap rv T i d wx (h.kept hx)
  generalize Gram.tk T i = x at hx ht hs
  have hk := fun wx => gkindOf_any ⟨x.text.toArray⟩ wx
  have e : Lex.kindOf (⟨x.text.toArray⟩ : ByteArray).data.toList = Lex.kindOf x.text := rfl
  rw [e] at hk
  have hf := fldText x
  have hq := hs
  generalize Lex.kindOf x.text = kk at hk hq
  clear hs e
  go_enter Tryz.func183, Tryz.ntmps183
  go_wp2_with (first | (go_at_call 37; refine hx.mono ?_; rintro e w1 ⟨rfl, hg1⟩) | (go_at_call 202; refine (hk _).mono ?_; rintro e w2 ⟨rfl, hg2⟩) | (go_at_call 36; refine (ht _ (hg1.trans hg2)).mono ?_; rintro e w3 ⟨rfl, hg3⟩))
  exact ⟨rfl, rfl, (grown_some (hg1.trans hg2) b).trans hg3⟩

set_option maxHeartbeats 800000 in
set_option maxRecDepth 20000 in
theorem gkind_yes (w : World) (h : Pa w b g cap rv T i d) (hs : (Lex.kindOf (Gram.tk T i).text != 0) = true) :
    Calls Tryz.prog 183 #[.pointer (some ⟨b, 0, none⟩)] w fun e w' => e = .returned (.int .i64 (Lex.kindOf (Gram.tk T i).text)) ∧ Pa w' b g cap rv T (i + 1) d ∧ w.grownBy w' (some b) := by
  have hi : i + 1 < T.length := h.next (.inr (fun e => by rw [e] at hs; revert hs; decide))
  have hx := gnext_any b g cap rv T i d w h
  have ht := fun wx (hx : w.grownBy wx none) => gtake_any b g cap rv T i d wx (h.kept hx) hi
  have hy := fun wx => gneed_yes b wx
  generalize Gram.tk T i = x at hx ht hs
  have hk := fun wx => gkindOf_any ⟨x.text.toArray⟩ wx
  have e : Lex.kindOf (⟨x.text.toArray⟩ : ByteArray).data.toList = Lex.kindOf x.text := rfl
  rw [e] at hk
  have hf := fldText x
  have hq := hs
  generalize Lex.kindOf x.text = kk at hk hq
  clear hs e
  go_enter Tryz.func183, Tryz.ntmps183
  go_wp2_with (first | (go_at_call 37; refine hx.mono ?_; rintro e w1 ⟨rfl, hg1⟩) | (go_at_call 202; refine (hk _).mono ?_; rintro e w2 ⟨rfl, hg2⟩) | (go_at_call 36; refine (hy _).mono ?_; rintro e w9 ⟨rfl, hw9⟩; rw [hw9]; clear hw9) | (go_at_call 120; refine (ht _ (hg1.trans hg2)).mono ?_; rintro e w3 ⟨rfl, hP3, hg3⟩))
  go_ret
  exact ⟨rfl, hP3, (grown_some (hg1.trans hg2) b).trans hg3⟩

set_option maxHeartbeats 800000 in
set_option maxRecDepth 20000 in
theorem gedge_sees (w : World) (h : Pa w b g cap rv T i d) :
    Calls Tryz.prog 149 #[.pointer (some ⟨b, 0, none⟩)] w fun e w' => e = .returned (.bool (Gram.isName T i || Gram.sees T i [110, 111, 116])) ∧ w.grownBy w' none := by
  have hn := gname_sees b g cap rv T i d w h
  have hx := fun wx (hx : w.grownBy wx none) => gsees_any b g cap rv T i d ⟨#[110, 111, 116]⟩ wx (h.kept hx)
  have hx2 : ∀ wx, w.grownBy wx none → Calls Tryz.prog 76 #[.pointer (some ⟨b, 0, none⟩), .string ⟨#[110, 111, 116]⟩] wx fun e w' => e = .returned (.bool (Gram.sees T i [110, 111, 116])) ∧ wx.grownBy w' none := hx
  clear hx
  generalize Gram.sees T i [110, 111, 116] = bs at hx2
  rcases Bool.eq_false_or_eq_true (Gram.isName T i) with hb | hb
  · rw [hb] at hn ⊢
    go_enter Tryz.func149, Tryz.ntmps149
    go_wp2_with (first | (go_at_call 121; refine hn.mono ?_; rintro e w1 ⟨rfl, hg1⟩))
    go_ret
    exact ⟨by simp, hg1⟩
  · rw [hb] at hn ⊢
    go_enter Tryz.func149, Tryz.ntmps149
    go_wp2_with (first | (go_at_call 121; refine hn.mono ?_; rintro e w1 ⟨rfl, hg1⟩) | (go_at_call 76; refine (hx2 _ hg1).mono ?_; rintro e w2 ⟨rfl, hg2⟩))
    go_ret
    exact ⟨by simp, hg1.trans hg2⟩
end

end Go.Proofs.YtachmiajldeakaaGreatDoor

/- gram's values: a VALUE without a minus, and one behind a minus. -/
namespace Go.Proofs.YtachmiajldeakaaGreatDoor
open Go.RowKit Go.Maps Go.WideMaps

section
variable (b g cap : Nat) (rv : Value) (T : List Lex.Tk) (i d : Nat)

/-- a token's block -/
def tokB (x : Lex.Tk) : Obj := .cells #[.int .i64 x.kind, .string ⟨x.text.toArray⟩, .int .i64 x.n, .int .i64 x.t, .int .i64 0, .int .i64 (x.at_ : Int)] 100

set_option maxHeartbeats 1600000 in
set_option maxRecDepth 20000 in
theorem gvalue_any (hv : Gram.isVal T i = true) (w : World) (h : Pa w b g cap rv T i d) :
    Calls Tryz.prog 143 #[.pointer (some ⟨b, 0, none⟩)] w fun e w' => ePost w b g cap rv T d (Gram.need T i (decide (5 < (Gram.tk T i).t) || decide (0 ≤ (Gram.tk T i).n)) (.ok (Gram.literal (Gram.tk T i).t (Gram.tk T i).n (Gram.tk T i).at_) (i + 1))) e w' := by
  have hbw := h.bl
  have hi := num_adv h (by unfold Gram.isVal at hv; rw [Bool.and_eq_true] at hv; exact hv.1)
  have hx := gnext_any b g cap rv T i d _ (h.alloc exp0)
  have hP0 := h.alloc exp0
  have hno := fun wx (hx : (w.alloc exp0).grownBy wx none) => gneed_no b g cap rv T i d wx (hP0.kept hx)
  have hy := fun wx => gneed_yes b wx
  have ht := fun wx (hx : (w.alloc exp0).grownBy wx none) => gtake_any b g cap rv T i d wx (hP0.kept hx) hi
  unfold Gram.need Gram.fail
  have hxx : tokV (Gram.tk T i) = .agg #[.int .i64 (Gram.tk T i).kind, .string ⟨(Gram.tk T i).text.toArray⟩, .int .i64 (Gram.tk T i).n, .int .i64 (Gram.tk T i).t, .int .i64 0, .int .i64 ((Gram.tk T i).at_ : Int)] := rfl
  rw [hxx] at hx
  generalize Gram.tk T i = x at hx hno ht
  have hl := fun wx => gliteral_any x.t x.n (x.at_ : Int) wx
  have HH := Lib.hid h
  clear h hP0 hxx hv
  rcases Bool.eq_false_or_eq_true (decide (5 < x.t) || decide (0 ≤ x.n)) with hq | hq
  · rw [if_pos hq]
    simp only [ePost]
    by_cases h5 : 5 < x.t
    all_goals (try have h0 : 0 ≤ x.n := by simpa [h5] using hq)
    all_goals clear hq
    all_goals go_enter Tryz.func143, Tryz.ntmps143
    all_goals go_wp2_with (first | (go_at_call 37; refine hx.mono ?_; rintro e w1 ⟨rfl, hg1⟩; refine Hid.out ?_))
    all_goals have hgB : (w.alloc exp0).grownBy (w1.alloc (tokB x)) none := galloc hg1 _
    all_goals have htk := ht _ hgB
    all_goals have hs1 := hg1.size
    all_goals rw [World.size_alloc] at hs1
    all_goals refine Lib.hid ?_
    all_goals unfold tokB at htk
    all_goals go_wp2_with (first | (go_at_call 36; refine (hy _).mono ?_; rintro e w9 ⟨rfl, hw9⟩; rw [hw9]; clear hw9) | (go_at_call 120; refine htk.mono ?_; rintro e w2 ⟨rfl, hP2, hg2⟩; refine Hid.out ?_))
    all_goals obtain ⟨t0, t1, t2, t3, t4, t5⟩ := Tkb.c (show Tkb w2 w1.heap.size _ _ _ _ _ _ from (hg2.block w1.heap.size (by simp) (by simp; omega)).trans (heap_alloc_new w1 _))
    all_goals refine Lib.hid ?_
    all_goals go_wp2_with (first | (go_at_call 168; refine (hl _).mono ?_; rintro e w3 ⟨rfl, hg3⟩) | (with_reducible refine hold_st 2 ?_))
    all_goals have hgW : (w.alloc exp0).grownBy w3 (some b) := ((grown_some hgB b).trans hg2).trans (grown_some hg3 b)
    all_goals refine Lib.hid ?_
    all_goals refine wpList_store_gen rfl _ _ _ rfl w.heap.size _ rfl rfl 28 _ ((hgW.block w.heap.size (by simp) (by simp; omega)).trans (heap_alloc_new w exp0)) (by kernel_rfl) rfl (by simp [Value.oneCell']) ?_
    all_goals intro w4 hh4 hg4
    all_goals go_wp2
    all_goals (try simp only [Exit.inBlock, Exit.then])
    all_goals refine bodyPost_ret (results_cell_row rfl _ _ w.heap.size 28 _ (0, 0) _ rfl hh4 Tryz.underlying28 rfl (by kernel_rfl)) rfl ?_
    all_goals have hG : w.grownBy w4 (some b) := ((grown_some (World.grownBy_alloc w exp0 none) b).trans hgW).andThen hg4 (fun j e => .inl (by cases e; exact Nat.le_refl _))
    all_goals exact ⟨_, rfl, Kids.nil _ _, HH.out.to hG ((hP2.st.kept (grown_some hg3 w.heap.size) (by simp; omega)).kept hg4 (by simp; omega)) hi, hG⟩
  · rw [if_neg (by rw [hq]; decide)]
    simp only [ePost]
    rw [Bool.or_eq_false_iff] at hq
    have h5 : decide (5 < x.t) = false := hq.1
    have h0 : decide (0 ≤ x.n) = false := hq.2
    clear hq
    go_enter Tryz.func143, Tryz.ntmps143
    go_wp2_with (first | (go_at_call 37; refine hx.mono ?_; rintro e w1 ⟨rfl, hg1⟩; refine Hid.out ?_))
    have hgB : (w.alloc exp0).grownBy (w1.alloc (tokB x)) none := galloc hg1 _
    have htk := hno _ hgB
    unfold tokB at htk
    refine Lib.hid ?_
    go_wp2_with (first | (go_at_call 36; refine htk.mono ?_; rintro e w2 ⟨rfl, hg2⟩))
    exact ⟨rfl, rfl, (grown_some ((World.grownBy_alloc w exp0 none).trans hgB) b).trans hg2⟩
end

end Go.Proofs.YtachmiajldeakaaGreatDoor

/- gram's opposite: a VALUE behind a minus. -/
namespace Go.Proofs.YtachmiajldeakaaGreatDoor
open Go.RowKit Go.Maps Go.WideMaps

section
variable (b g cap : Nat) (rv : Value) (T : List Lex.Tk) (i d : Nat)

set_option maxHeartbeats 1600000 in
set_option maxRecDepth 20000 in
theorem gopposite_any (a : Int) (hv : Gram.isVal T i = true) (w : World) (h : Pa w b g cap rv T i d) :
    Calls Tryz.prog 140 #[.pointer (some ⟨b, 0, none⟩), .int .i64 a] w fun e w' => ePost w b g cap rv T d (.ok (Gram.literal (Gram.tk T i).t (Bv.wrp (Gram.tk T i).t (wrap64 (-(Gram.tk T i).n))) a) (i + 1)) e w' := by
  have hbw := h.bl
  have hi := num_adv h (by unfold Gram.isVal at hv; rw [Bool.and_eq_true] at hv; exact hv.1)
  have ht := gtake_any b g cap rv T i d _ (h.alloc exp0) hi
  have hxx : tokV (Gram.tk T i) = .agg #[.int .i64 (Gram.tk T i).kind, .string ⟨(Gram.tk T i).text.toArray⟩, .int .i64 (Gram.tk T i).n, .int .i64 (Gram.tk T i).t, .int .i64 0, .int .i64 ((Gram.tk T i).at_ : Int)] := rfl
  rw [hxx] at ht
  generalize Gram.tk T i = x at ht
  have hW := fun wx => wrap_any x.t (wrap64 (-x.n)) wx
  have hl := fun wx => gliteral_any x.t (Bv.wrp x.t (wrap64 (-x.n))) a wx
  simp only [ePost]
  have HH := Lib.hid h
  clear h hxx hv
  go_enter Tryz.func140, Tryz.ntmps140
  go_wp2_with (first | (go_at_call 120; refine ht.mono ?_; rintro e w1 ⟨rfl, hP1, hg1⟩; refine Hid.out ?_))
  have hs1 := hg1.size
  rw [World.size_alloc] at hs1
  obtain ⟨t0, t1, t2, t3, t4, t5⟩ := Tkb.c (show Tkb ((w1.alloc (tokB x)).drew) w1.heap.size _ _ _ _ _ _ from heap_alloc_new w1 _)
  have hgB : (w.alloc exp0).grownBy ((w1.alloc (tokB x)).drew) (some b) := gdrew (galloc hg1 _)
  obtain ⟨TB, hTB⟩ : ∃ TB, TB = tokB x := ⟨_, rfl⟩
  rw [← hTB] at t0 t1 t2 t3 t4 t5 hgB
  have HTB := Lib.hid hTB
  clear hTB
  have hS0 : ((w1.alloc TB).drew).cell? ⟨w1.heap.size, 2, none⟩ = some (.int .i64 x.n) ∧ ((w1.alloc TB).drew).cell? ⟨w1.heap.size, 3, none⟩ = some (.int .i64 x.t) := ⟨t2, t3⟩
  have hq3 : some w1.heap.size ≠ some w.heap.size := by simp; omega
  simp only [Gram.literal, expV] at hl
  have hneg : IntKind.i64.wrap (-x.n) = wrap64 (-x.n) := by rw [IntKind.wrap_i64]; unfold wrap64; omega
  refine Lib.hid ?_
  go_wp2
  rw [show (Obj.cells #[.int .i64 x.kind, .string ⟨x.text.toArray⟩, .int .i64 x.n, .int .i64 x.t, .int .i64 0, .int .i64 (x.at_ : Int)] 100) = TB from HTB.out.symm]
  go_region_held3 (fun w' => w'.cell? ⟨w1.heap.size, 2, none⟩ = some (.int .i64 x.n) ∧ w'.cell? ⟨w1.heap.size, 3, none⟩ = some (.int .i64 x.t)) (first | with_reducible exact hS0 | with_reducible exact hS3 | with_reducible exact ⟨(grown9 _ _ _ _ _ _ _ _ _ _ _).cell hS3.1 hq3, (grown9 _ _ _ _ _ _ _ _ _ _ _).cell hS3.2 hq3⟩)
    (first
      | (go_at_call 166; refine (hW _).mono ?_; rintro e w9 ⟨rfl, hw9⟩; rw [hw9]; clear hw9)
      | (go_at_call 168; refine (hl _).mono ?_; rintro e w3 ⟨rfl, hg3⟩; have hS3 : w3.cell? ⟨w1.heap.size, 2, none⟩ = some (.int .i64 x.n) ∧ w3.cell? ⟨w1.heap.size, 3, none⟩ = some (.int .i64 x.t) := ⟨hg3.cell t2 (by simp), hg3.cell t3 (by simp)⟩; obtain ⟨z0, z1, z2, z3, z4, z5, z6, z7, z8, zf⟩ := Nc.of (((hgB.trans (grown_some hg3 b)).block w.heap.size (by simp) (by simp; omega)).trans (heap_alloc_new w exp0))))
  go_wp2
  (try simp only [Exit.inBlock, Exit.then])
  have hgF := hgB.trans (grown_some hg3 b)
  have hN : Nn w3 w.heap.size := ⟨_, _, _, _, _, _, _, _, _, (hgF.block w.heap.size (by simp) (by simp; omega)).trans (heap_alloc_new w exp0)⟩
  refine bodyPost_ret (results_cell_row rfl _ _ w.heap.size 28 _ (0, 0) _ rfl (stored9 hN) Tryz.underlying28 rfl (by kernel_rfl)) rfl ?_
  have hG := fun v0 v1 v2 v3 v4 v5 v6 v7 v8 => gset9 (g := w.heap.size) (v0 := v0) (v1 := v1) (v2 := v2) (v3 := v3) (v4 := v4) (v5 := v5) (v6 := v6) (v7 := v7) (v8 := v8) ((grown_some (World.grownBy_alloc w exp0 none) b).trans hgF) (.inl (Nat.le_refl _))
  exact ⟨_, rfl, Kids.nil _ _, HH.out.to (hG _ _ _ _ _ _ _ _ _) (((hP1.st.kept (gdrew (World.grownBy_alloc w1 TB (some w.heap.size))) (by simp; omega)).kept (grown_some hg3 w.heap.size) (by simp; omega)).kept (grown9 _ _ _ _ _ _ _ _ _ _ _) (by simp; omega)) hi, hG _ _ _ _ _ _ _ _ _⟩
end

end Go.Proofs.YtachmiajldeakaaGreatDoor

/- A region that draws its order, in which what is read first is written last: a condition S on the world is asked behind each operation but those of the list Z, which stand behind all that is read under S. -/
namespace Go.Proofs.YtachmiajldeakaaGreatDoor
open Go.RowKit

/-- all orders go well; S is kept by all but those of Z -/
def wpL (P : Program) (md : Region.Mode) (ops : Array Oper) (Q : Exit → Act → World → Prop) (S : World → Prop) (Z : List Nat) : Nat → Array Bool → Act → World → Prop
  | 0, l, a, w => Region.ready md ops l = [] ∧ Q .normal a w
  | f + 1, l, a, w => (Region.ready md ops l = [] → Q .normal a w) ∧ ∀ j ∈ Region.ready md ops l, wpOp P ops Q j (fun a' w' => (j ∉ Z → S w') ∧ wpL P md ops Q S Z f (l.setIfInBounds j true) a' w') a w

section
variable {P : Program} {ops : Array Oper} {Q : Exit → Act → World → Prop} {md : Region.Mode} {S : World → Prop} {Z : List Nat}

theorem wpL_any : ∀ (f : Nat) (l : Array Bool) (a : Act) (w : World), wpL P md ops Q S Z f l a w → wpAny P md ops Q f l a w
  | 0, _, _, _, h => h
  | f + 1, _, _, _, h => ⟨h.1, fun j hj => wpOp_mono (fun a w hh => wpL_any f _ a w hh.2) (h.2 j hj)⟩

theorem wp_region_L {id : Nat} {a : Act} {w : World} (hm : P.follows .mixedOrders = true) (h : wpL P .any ops Q S Z ops.size (Array.replicate ops.size false) a w.drew) : (Code.region id ops true).wp P Q a w :=
  wp_region_any hm (wpL_any _ _ _ _ h)

/-- what stands behind i is not ready while i is not done -/
theorem not_ready {z i : Nat} {oz : Oper} {l : Array Bool} (hz : ops[z]? = some oz) (he : oz.after.any (fun e => Region.binds md e && e.on == i) = true) (hi : l.getD i true = false) : z ∉ Region.ready md ops l := by
  intro hr
  obtain ⟨_, o, ho, hall⟩ := mem_ready.1 hr
  have e0 := Option.some.inj (hz.symm.trans ho)
  subst e0
  rw [Array.any_eq_true] at he
  obtain ⟨n, hn, hb⟩ := he
  rw [Bool.and_eq_true, beq_iff_eq] at hb
  have h1 := hall _ (Array.getElem_mem hn) hb.1
  rw [hb.2] at h1
  simp only [Array.getD_eq_getD_getElem?] at hi h1
  cases hl : l[i]? with
  | none => rw [hl] at h1; simp at h1
  | some v => rw [hl] at hi h1; simp at hi h1; rw [hi] at h1; cases h1

theorem wpL_first {i : Nat} {oi : Oper} {v : Value} (hi : ops[i]? = some oi) (hsel : ∀ (j : Nat) (o : Oper) cs b, ops[j]? = some o → o.op ≠ .select cs b)
    (hQ : ∀ c a w, Q (.panic c) (a.put oi.dst v) w → Q (.panic c) a w) (hZ : ∀ z ∈ Z, ∃ oz, ops[z]? = some oz ∧ oz.after.any (fun e => Region.binds md e && e.on == i) = true) :
    ∀ (f : Nat) (l : Array Bool) (a : Act) (w : World), (∀ j oj, ops[j]? = some oj → j ≠ i → l.getD j true = false → (∀ e ∈ oj.after, Region.binds md e = true → e.on ≠ i) → oi.apart ops oj = true) →
      i ∈ Region.ready md ops l → YieldsIf P ops S oi v a → S w → wpL P md ops Q S Z f (l.setIfInBounds i true) (a.put oi.dst v) w → wpL P md ops Q S Z (f + 1) l a w
  | f, l, a, w, hfree, hr, hy, hS, H => by
    refine ⟨fun h => by rw [h] at hr; exact absurd hr (by simp), fun j hj => ?_⟩
    by_cases hji : j = i
    · subst hji
      exact hy.wpOp hi hS ⟨fun _ => hS, H⟩
    · have hin := ready_mono hj hji
      have hl0 := (mem_ready.1 hr).1
      cases f with
      | zero => rw [H.1] at hin; exact absurd hin (by simp)
      | succ f =>
        obtain ⟨hjun, oj, hoj, hall⟩ := mem_ready.1 hj
        have hnot : ∀ e ∈ oj.after, Region.binds md e = true → e.on ≠ i := fun e he hb heq => by
          have hz : j ∉ Region.ready md ops l := not_ready hoj (by rw [Array.any_eq_true]; obtain ⟨n, hn, hx⟩ := Array.getElem_of_mem he; exact ⟨n, hn, by rw [hx, hb, Bool.true_and, beq_iff_eq]; exact heq⟩) hl0
          exact hz hj
        have hjZ : j ∉ Z := fun hz => by
          obtain ⟨oz, h1, h2⟩ := hZ j hz
          exact not_ready h1 h2 hl0 hj
        have h2 := wpOp_putIf hoj (hfree j oj hoj hji hjun hnot) (fun cs b => hsel i oi cs b hi) (fun cs b => hsel j oj cs b hoj) hQ hy (H.2 j hin)
        refine wpOp_mono (fun a' w' h3 => ⟨fun _ => h3.2.1 hjZ, ?_⟩) h2
        refine wpL_first hi hsel hQ hZ f _ a' w' (fun k ok hk hki hun hno => hfree k ok hk hki ?_ hno) (ready_mono hr (Ne.symm hji)) h3.1 (h3.2.1 hjZ) ?_
        · by_cases hjk : j = k
          · subst hjk; exact hjun
          · rw [getD_set_ne true hjk] at hun; exact hun
        · rw [Array.setIfInBounds_comm _ _ hji]
          exact h3.2.2

/-- take number i first, which yields v in every world that meets S -/
theorem wpL_take {i : Nat} {oi : Oper} {v : Value} {f : Nat} {l : Array Bool} {a : Act} {w : World} (hi : ops[i]? = some oi)
    (hs : Region.noSelect ops = true) (hf : Region.free md ops l i = true) (hr : (Region.ready md ops l).contains i = true)
    (hQ : ∀ c a w, Q (.panic c) (a.put oi.dst v) w → Q (.panic c) a w) (hZ : (Z.all fun z => ((ops[z]?).map fun oz => oz.after.any fun e => Region.binds md e && e.on == i).getD false) = true) (hy : YieldsIf P ops S oi v a) (hS : S w)
    (h : wpL P md ops Q S Z f (l.setIfInBounds i true) (a.put oi.dst v) w) : wpL P md ops Q S Z (f + 1) l a w :=
  wpL_first hi (Region.noSelect_spec hs) hQ (fun z hz => by
    have h1 := List.all_eq_true.1 hZ z hz
    cases ho : ops[z]? with
    | none => rw [ho] at h1; cases h1
    | some oz => rw [ho] at h1; exact ⟨oz, rfl, h1⟩) f l a w (Region.free_spec hi hf) (by simpa using hr) hy hS h
/-- one alone may come up -/
theorem wpL_one {i : Nat} {f : Nat} {l : Array Bool} {a : Act} {w : World} (hr : Region.ready md ops l = [i])
    (h : wpOp P ops Q i (fun a' w' => (i ∉ Z → S w') ∧ wpL P md ops Q S Z f (l.setIfInBounds i true) a' w') a w) : wpL P md ops Q S Z (f + 1) l a w :=
  ⟨fun h0 => (by rw [hr] at h0; exact absurd h0 (by simp)), fun j hj => (by rw [hr] at hj; obtain rfl := List.mem_singleton.1 hj; exact h)⟩
theorem wpL_done {l : Array Bool} {a : Act} {w : World} (hr : Region.ready md ops l = []) (h : Q .normal a w) : ∀ f, wpL P md ops Q S Z f l a w
  | 0 => ⟨hr, h⟩
  | _ + 1 => ⟨fun _ => h, by rw [hr]; simp⟩
end

end Go.Proofs.YtachmiajldeakaaGreatDoor
