/- My texts RpM LexTr GrA RpA RpB GrB GrC GrD GrE GrF RpC GrG GrH GrI GrJ GrK GrO GrL0 GrP RpD RpE, joined. -/
import Derived.Test.YtbbamgjdnibldaaGreatMhB
import Derived.Test.YtbbamgjdnibldaaGreatMhA
import Derived.WalkLawsBesides
import Derived.Deep.RegionHeld3
import Derived.Deep.LoopGhost
set_option linter.unusedVariables false
set_option linter.unusedSimpArgs false
set_option linter.unnecessarySimpa false
set_option linter.unusedSectionVars false
set_option maxHeartbeats 12800000
set_option maxRecDepth 20000
namespace Go.Proofs.YtbbamgjdnibldaaGreat.Gram.Rf
open Go.RowKit
open Lex (Tk)
structure St where
 i : Nat
 e : Int
 bad : Int
 n : Int
def fail (T : List Tk) (c : Int) (s : St) : St := if s.e = 0 then { s with e := c, bad := ((tk T s.i).at_ : Int), i := T.length - 1 } else { s with i := T.length - 1 }
def adv (s : St) : St := { s with i := s.i + 1 }
def is (T : List Tk) (w : B) (s : St) : Bool := s.e == 0 && ((tk T s.i).kind == 3 || (tk T s.i).kind == 4) && (tk T s.i).text == w
def take (T : List Tk) (w : B) (s : St) : St := if is T w s then adv s else fail T 12 s
def maybe (T : List Tk) (w : B) (s : St) : St := if is T w s then adv s else s
def nameOk (T : List Tk) (s : St) : Bool := s.e == 0 && (tk T s.i).kind == 1
def name (T : List Tk) (s : St) : B × St := if nameOk T s then ((tk T s.i).text, adv s) else ([], fail T 12 s)
def sizeOk (T : List Tk) (s : St) : Bool := s.e == 0 && (tk T s.i).kind == 2 && (tk T s.i).t == 0
def size (T : List Tk) (s : St) : Int × St := if sizeOk T s then ((tk T s.i).n, adv s) else (0, fail T 12 s)
def kindOk (T : List Tk) (s : St) : Bool := s.e == 0 && (tk T s.i).kind == 3 && Lex.kindOf (tk T s.i).text != 0
def kind (T : List Tk) (s : St) : Int × St := if kindOk T s then (Lex.kindOf (tk T s.i).text, adv s) else (0, fail T 12 s)
def full (T : List Tk) (n most : Nat) (s : St) : St := if most ≤ n then fail T 2 s else s
def infixOf (lv : Nat) (w : B) : Int :=
 match lv with
 | 0 => if w = [111, 114] then 9 else if w = [120, 111, 114] then 10 else 0
 | 1 => if w = [97, 110, 100] then 8 else 0
 | 2 => if w = [61] then 14 else if w = [60, 62] then 15 else if w = [60] then 16 else if w = [60, 61] then 17 else if w = [62] then 18 else if w = [62, 61] then 19 else 0
 | 3 => if w = [124] then 9 else if w = [94] then 10 else 0
 | 4 => if w = [38] then 8 else 0
 | 5 => if w = [60, 60] then 12 else if w = [62, 62] then 13 else 0
 | 6 => if w = [43] then 3 else if w = [45] then 4 else 0
 | 7 => if w = [42] then 5 else if w = [47] then 6 else if w = [109, 111, 100] then 7 else 0
 | _ => 0
def inf (T : List Tk) (lv : Nat) (s : St) : Int := if s.e = 0 ∧ ((tk T s.i).kind = 3 ∨ (tk T s.i).kind = 4) then infixOf lv (tk T s.i).text else 0
def two (form sub : Int) (a b : Exp) : Exp := .mk form sub [] 0 0 0 0 [a, b] a.at_
def opened (s : St) : St := { s with n := wrap64 (s.n + 1) }
def closed (s : St) : St := { s with n := wrap64 (s.n - 1) }
def indexed (T : List Tk) : Nat → Exp → St → Option (Exp × St)
 | 0, _, _ => none
 | f + 1, x, s =>
  if is T [91] s then
   let r := size T (adv s)
   indexed T f (.mk 16 0 [] 0 0 r.1 0 [x] x.at_) (take T [93] r.2)
  else some (x, s)
def edge (T : List Tk) (s : St) : Edge × St :=
 let r := name T (maybe T [110, 111, 116] s)
 (⟨r.1, !is T [110, 111, 116] s⟩, r.2)
def bindS {α β : Type} (r : Option (α × St)) (F : α → St → Option (β × St)) : Option (β × St) :=
 match r with
 | none => none
 | some x => F x.1 x.2
mutual
def exp (T : List Tk) : Nat → St → Option (Exp × St)
 | 0, _ => none
 | f + 1, s =>
  if 40 < (opened s).n then some (zeroExp, fail T 2 (opened s))
  else bindS (arrow T f (opened s)) fun x s => some (x, closed s)
def arrow (T : List Tk) : Nat → St → Option (Exp × St)
 | 0, _ => none
 | f + 1, s => bindS (fby T f s) fun a s => if is T [45, 62] s then bindS (arrow T f (adv s)) fun b s => some (two 7 0 a b, s) else some (a, s)
def fby (T : List Tk) : Nat → St → Option (Exp × St)
 | 0, _ => none
 | f + 1, s => bindS (imp T f s) fun a s => if is T [102, 98, 121] s then bindS (fby T f (adv s)) fun b s => some (two 8 0 a b, s) else some (a, s)
def imp (T : List Tk) : Nat → St → Option (Exp × St)
 | 0, _ => none
 | f + 1, s => bindS (level T f 0 s) fun a s => if is T [61, 62] s then bindS (imp T f (adv s)) fun b s => some (two 4 11 a b, s) else some (a, s)
def level (T : List Tk) : Nat → Nat → St → Option (Exp × St)
 | 0, _, _ => none
 | f + 1, n, s => if n = 8 then unary T f s else bindS (level T f (n + 1) s) fun a s => levels T f n a s
def levels (T : List Tk) : Nat → Nat → Exp → St → Option (Exp × St)
 | 0, _, _, _ => none
 | f + 1, n, a, s =>
  if inf T n s = 0 then some (a, s)
  else bindS (level T f (n + 1) (adv s)) fun b s' => if n = 2 then some (two 4 (inf T n s) a b, s') else levels T f n (two 4 (inf T n s) a b) s'
def unary (T : List Tk) : Nat → St → Option (Exp × St)
 | 0, _ => none
 | f + 1, s =>
  if is T [110, 111, 116] s || is T [45] s || is T [112, 114, 101] s then
   (if 40 < (opened s).n then some (zeroExp, fail T 2 (opened s)) else bindS (signed T f (opened s)) fun x s => some (x, closed s))
  else signed T f s
def signed (T : List Tk) : Nat → St → Option (Exp × St)
 | 0, _ => none
 | f + 1, s =>
  let a : Int := (tk T s.i).at_
  if is T [110, 111, 116] s then bindS (unary T f (adv s)) fun x s => some (.mk 3 1 [] 0 0 0 0 [x] a, s)
  else if is T [112, 114, 101] s then bindS (unary T f (adv s)) fun x s => some (.mk 6 0 [] 0 0 0 0 [x] a, s)
  else if is T [45] s then
   (let t := tk T (s.i + 1)
    if t.kind = 2 ∧ 0 < t.t then indexed T f (.mk 1 0 [] t.t 0 (Bv.wrp t.t (wrap64 (-t.n))) 0 [] a) (adv (adv s))
    else bindS (unary T f (adv s)) fun x s => some (.mk 3 2 [] 0 0 0 0 [x] a, s))
  else bindS (prim T f s) fun x s => indexed T f x s
def exps (T : List Tk) : Nat → List Exp → St → Option (List Exp × St)
 | 0, _, _ => none
 | f + 1, l, s =>
  if s.e = 0 then
   (if 16 ≤ l.length then some (l, fail T 2 s)
    else bindS (exp T f s) fun x s => if is T [44] s then exps T f (l ++ [x]) (adv s) else some (l ++ [x], s))
  else some (l, s)
def call (T : List Tk) : Nat → St → Option (List Exp × St)
 | 0, _ => none
 | f + 1, s =>
  let s1 := take T [40] s
  if is T [41] s1 then some ([], take T [41] s1) else bindS (exps T f [] s1) fun l s => some (l, take T [41] s)
def prim (T : List Tk) : Nat → St → Option (Exp × St)
 | 0, _ => none
 | f + 1, s =>
  let t := tk T s.i
  let a : Int := t.at_
  if s.e = 0 then
   (if t.kind = 1 then
     (if is T [40] (adv s) then bindS (call T f (adv s)) fun l s => some (.mk 13 0 t.text 0 0 0 0 l a, s) else some (.mk 2 0 t.text 0 0 0 0 [] a, adv s))
    else if t.kind = 2 then
     (if t.t = 0 ∨ (2 ≤ t.t ∧ t.t ≤ 5 ∧ t.n < 0) then some (.mk 0 0 [] 0 0 0 0 [] a, fail T 12 s) else some (.mk 1 0 [] t.t 0 t.n 0 [] a, adv s))
    else if t.kind = 4 then
     (if t.text = [40] then bindS (exp T f (adv s)) fun y s => some (y, take T [41] s)
      else if t.text = [91] then bindS (exps T f [] (adv s)) fun l s => some (.mk 15 0 [] 0 0 0 0 l a, take T [93] s)
      else some (.mk 0 0 [] 0 0 0 0 [] a, fail T 12 s))
    else if t.kind = 3 then wordE T f t s
    else some (.mk 0 0 [] 0 0 0 0 [] a, fail T 12 s))
  else some (.mk 0 0 [] 0 0 0 0 [] a, s)
def wordE (T : List Tk) : Nat → Tk → St → Option (Exp × St)
 | 0, _, _ => none
 | f + 1, t, s =>
  let a : Int := t.at_
  let s1 := take T [40] (adv s)
  if t.text = [116, 114, 117, 101] then some (.mk 1 0 [] 1 0 1 0 [] a, adv s)
  else if t.text = [102, 97, 108, 115, 101] then some (.mk 1 0 [] 1 0 0 0 [] a, adv s)
  else if t.text = [105, 102] then
   bindS (exp T f (adv s)) fun x s => bindS (exp T f (take T [116, 104, 101, 110] s)) fun y s => bindS (exp T f (take T [101, 108, 115, 101] s)) fun z s => some (.mk 5 0 [] 0 0 0 0 [x, y, z] a, s)
  else if t.text = [119, 104, 101, 110] then
   bindS (exp T f s1) fun x s =>
     let g := edge T (take T [44] s)
     some (.mk 9 0 g.1.name 0 0 (if g.1.on then 1 else 0) 0 [x] a, take T [41] g.2)
  else if t.text = [109, 101, 114, 103, 101] then
   (let r := name T s1
    bindS (exp T f (take T [44] r.2)) fun x s => bindS (exp T f (take T [44] s)) fun y s => some (.mk 10 0 r.1 0 0 0 0 [x, y] a, take T [41] s))
  else if t.text = [99, 97, 115, 116] then
   (let r := kind T s1
    bindS (exp T f (take T [44] r.2)) fun x s => some (.mk 11 0 [] r.1 0 0 0 [x] a, take T [41] s))
  else if t.text = [116, 105, 99, 107] then
   (let r := size T s1
    let q := size T (take T [44] r.2)
    some (.mk 12 0 [] 0 0 r.1 q.1 [] a, take T [41] q.2))
  else if t.text = [114, 101, 115, 101, 116] then
   (let r := name T s1
    bindS (call T f r.2) fun l s => bindS (exp T f (take T [44] s)) fun x s => some (.mk 14 0 r.1 0 0 0 0 (l ++ [x]) a, take T [41] s))
  else if t.text = [114, 101, 112] then
   bindS (exp T f s1) fun x s =>
     let r := size T (take T [44] s)
     some (.mk 17 0 [] 0 0 r.1 0 [x] a, take T [41] r.2)
  else if t.text = [109, 97, 112] then
   (let r := name T s1
    bindS (exps T f [] (take T [44] r.2)) fun l s => some (.mk 18 0 r.1 0 0 0 0 l a, take T [41] s))
  else if t.text = [102, 111, 108, 100] then
   (let r := name T s1
    bindS (exp T f (take T [44] r.2)) fun x s => bindS (exp T f (take T [44] s)) fun y s => some (.mk 19 0 r.1 0 0 0 0 [x, y] a, take T [41] s))
  else some (.mk 0 0 [] 0 0 0 0 [] a, fail T 12 s)
end
def names (T : List Tk) : Nat → List Var → St → Option ((List Var × Bool) × St)
 | 0, _, _ => none
 | f + 1, l, s =>
  if s.e = 0 then
   (if (tk T s.i).kind = 1 ∧ 200 ≤ l.length then some ((l, true), fail T 2 s)
    else
     let r := name T s
     let l' := l ++ [⟨r.1, 0, 0, [], ((tk T s.i).at_ : Int)⟩]
     if is T [44] r.2 then names T f l' (adv r.2) else some ((l', false), r.2))
  else some ((l, false), s)
def decl (T : List Tk) (f : Nat) (l : List Var) (s : St) : Option (List Var × St) :=
 bindS (names T f l s) fun r s =>
  if r.2 then some (r.1, s)
  else
   let k := kind T (take T [58] s)
   let z := if is T [94] k.2 then size T (adv k.2) else (0, k.2)
   some (r.1.take l.length ++ (r.1.drop l.length).map fun v => { v with tk := k.1, tl := z.1 }, z.2)
def declsL (T : List Tk) : Nat → List Var → St → Option (List Var × St)
 | 0, _, _ => none
 | f + 1, l, s => if s.e = 0 ∧ is T [59] s then bindS (decl T f l (adv s)) fun l s => declsL T f l s else some (l, s)
def decls (T : List Tk) (f : Nat) (s : St) : Option (List Var × St) := bindS (decl T f [] s) fun l s => declsL T f l s
def edges (T : List Tk) : Nat → List Edge → St → Option (List Edge × St)
 | 0, _, _ => none
 | f + 1, l, s =>
  if s.e = 0 then
   let r := edge T s
   if is T [97, 110, 100] r.2 then
    (if 16 ≤ l.length + 1 then some (l ++ [r.1], fail T 2 (adv r.2)) else edges T f (l ++ [r.1]) (adv r.2))
   else some (l ++ [r.1], r.2)
  else some (l, s)
def localsL (T : List Tk) : Nat → List Var → St → Option (List Var × St)
 | 0, _, _ => none
 | f + 1, l, s =>
  if s.e = 0 then
   bindS (decl T f l s) fun l' s =>
    bindS (if is T [119, 104, 101, 110] s then bindS (edges T f [] (adv s)) fun c s => some (l'.take l.length ++ (l'.drop l.length).map (fun v => { v with clock := c }), s) else some (l', s)) fun l' s =>
     let s := take T [59] s
     if s.e = 0 ∧ (tk T s.i).kind = 1 then localsL T f l' s else some (l', s)
  else some (l, s)
def begins (T : List Tk) (s : St) : Bool := s.e == 0 && (is T [97, 117, 116, 111, 109, 97, 116, 111, 110] s || is T [40] s || (tk T s.i).kind == 1)
def lhs (T : List Tk) : Nat → List B → St → Option ((List B × Bool) × St)
 | 0, _, _ => none
 | f + 1, l, s =>
  if s.e = 0 then
   (if (tk T s.i).kind = 1 ∧ 16 ≤ l.length then some ((l, true), fail T 2 s)
    else
     let r := name T s
     if is T [44] r.2 then lhs T f (l ++ [r.1]) (adv r.2) else some ((l ++ [r.1], false), r.2))
  else some ((l, false), s)
def equation (T : List Tk) (f : Nat) (s : St) : Option (Item × St) :=
 let a : Int := (tk T s.i).at_
 bindS (if is T [40] s then bindS (lhs T f [] (adv s)) fun r s => some (r, if r.2 then s else take T [41] s) else (let r := name T s; some (([r.1], false), r.2))) fun r s =>
  if r.2 then some (.mk r.1 zeroExp [] a, s)
  else bindS (exp T f (take T [61] s)) fun e s => some (.mk r.1 e [] a, take T [59] s)
def transs (T : List Tk) (w : B) : Nat → List Trans → St → Option (List Trans × St)
 | 0, _, _ => none
 | f + 1, l, s =>
  if is T w s then
   (if 16 ≤ l.length then some (l, fail T 2 s)
    else
     let a : Int := (tk T (s.i + 1)).at_
     bindS (exp T f (adv s)) fun c s =>
      let ct := is T [99, 111, 110, 116, 105, 110, 117, 101] s
      let r := name T (if ct then adv s else take T [116, 104, 101, 110] s)
      transs T w f (l ++ [⟨c, r.1, ct, a⟩]) (take T [59] r.2))
  else some (l, s)
mutual
def items (T : List Tk) : Nat → List Item → St → Option (List Item × St)
 | 0, _, _ => none
 | f + 1, l, s =>
  if s.e = 0 then
   (if begins T s then
     (if 200 ≤ l.length then some (l, fail T 2 s) else bindS (item T f s) fun x s => items T f (l ++ [x]) s)
    else some (l, if l.length = 0 then fail T 12 s else s))
  else some (l, s)
def item (T : List Tk) : Nat → St → Option (Item × St)
 | 0, _ => none
 | f + 1, s =>
  if is T [97, 117, 116, 111, 109, 97, 116, 111, 110] s then
   (if 40 < (opened s).n then some (.mk [] zeroExp [] ((tk T s.i).at_ : Int), fail T 2 (opened s))
    else bindS (states T f [] (adv (opened s))) fun l s' => some (.mk [] zeroExp l ((tk T s.i).at_ : Int), closed (take T [101, 110, 100] s')))
  else equation T f s
def states (T : List Tk) : Nat → List State → St → Option (List State × St)
 | 0, _, _ => none
 | f + 1, l, s =>
  if s.e = 0 then
   (if is T [115, 116, 97, 116, 101] s then
     (if 16 ≤ l.length then some (l, fail T 2 s) else bindS (state T f s) fun x s => states T f (l ++ [x]) s)
    else some (l, if l.length = 0 then fail T 12 s else s))
  else some (l, s)
def state (T : List Tk) : Nat → St → Option (State × St)
 | 0, _ => none
 | f + 1, s =>
  let r := name T (take T [115, 116, 97, 116, 101] s)
  bindS (transs T [117, 110, 108, 101, 115, 115] f [] r.2) fun us s1 =>
   bindS (if is T [118, 97, 114] s1 then localsL T f [] (adv s1) else some ([], s1)) fun ls s1 =>
    bindS (items T f [] (take T [100, 111] s1)) fun its s1 =>
     bindS (transs T [117, 110, 116, 105, 108] f [] s1) fun ut s1 => some (.mk r.1 us ut ls its ((tk T s.i).at_ : Int), s1)
end
def node (T : List Tk) (f : Nat) (s : St) : Option (Node × St) :=
 let r := name T (take T [110, 111, 100, 101] s)
 let s1 := take T [40] r.2
 bindS (if is T [41] s1 then some ([], s1) else decls T f s1) fun ins s1 =>
  bindS (decls T f (take T [40] (take T [114, 101, 116, 117, 114, 110, 115] (take T [41] s1)))) fun outs s1 =>
   let s1 := take T [41] s1
   bindS (if is T [118, 97, 114] s1 then localsL T f [] (adv s1) else some ([], s1)) fun ls s1 =>
    bindS (items T f [] (take T [108, 101, 116] s1)) fun its s1 => some (⟨r.1, ins, outs, ls, its, ((tk T s.i).at_ : Int)⟩, take T [116, 101, 108] s1)
def nodes (T : List Tk) : Nat → List Node → St → Option (List Node × St)
 | 0, _, _ => none
 | f + 1, l, s =>
  if s.e = 0 ∧ ¬ (tk T s.i).kind = 5 then
   (if is T [110, 111, 100, 101] s then
     (if 60 ≤ l.length then some (l, fail T 2 s) else bindS (node T f s) fun x s => nodes T f (l ++ [x]) s)
    else some (l, fail T 12 s))
  else some (l, s)
inductive Res where
 | ok (l : List Node)
 | bad (a e : Int)
 | fuel
def parse (s : B) : Res :=
 match Lex.tokens s with
 | .err a e => .bad a e
 | .ok T =>
  match nodes T (20 * T.length + 100) [] ⟨0, 0, 0, 0⟩ with
  | none => .fuel
  | some (l, s) => if s.e = 0 then .ok l else .bad s.bad s.e
end Go.Proofs.YtbbamgjdnibldaaGreat.Gram.Rf
namespace Go.Proofs.YtbbamgjdnibldaaGreat
open Go.RowKit
theorem row_at (l : List Lex.Tk) (t : Nat) (h : t < l.length) (j : Nat) (hj : j < 6) : (Lex.row l)[t * 6 + j]? = (Lex.cells l[t])[j]? := by
 induction l generalizing t with
 | nil => simp at h
 | cons x r ih =>
  cases t with
  | zero =>
   simp only [Lex.row, List.flatMap_cons, Nat.zero_mul, Nat.zero_add, List.getElem_cons_zero]
   rw [List.getElem?_append_left (by simpa [Lex.cells] using hj)]
  | succ t =>
   simp only [Lex.row, List.flatMap_cons, List.getElem_cons_succ] at ih ⊢
   rw [List.getElem?_append_right (by simp [Lex.cells]; omega)]
   rw [← ih t (by simpa using h)]
   congr 1
   simp [Lex.cells]; omega
open Go.RowKit Go.Maps Go.WideMaps
structure Toks (w : World) (b : Nat) (T : List Lex.Tk) (g cap : Nat) : Prop where
 own : w.ownsRow 0 108 6 (.slice (some ⟨g, 0, none⟩) T.length cap) T.length (Lex.row T)
 ne : g ≠ b
 most : T.length ≤ 20000
 last : ∀ i, i < T.length → ((Gram.tk T i).kind ≠ 5 ∨ (Gram.tk T i).text ≠ []) → i + 1 < T.length
section
variable {w : World} {b : Nat} {tv rv : Value} {i d : Nat}
theorem Toks.kept {T : List Lex.Tk} {g cap : Nat} {w' : World} (h : Toks w b T g cap) (hg : w.grownBy w' (some b)) : Toks w' b T g cap :=
 ⟨h.own.kept hg (.inr (by simpa [Value.ownBlock] using h.ne)), h.ne, h.most, h.last⟩
theorem Toks.kept0 {T : List Lex.Tk} {g cap : Nat} {w' : World} (h : Toks w b T g cap) (hg : w.grownBy w' none) : Toks w' b T g cap :=
 ⟨h.own.kept hg (by simp [Value.ownBlock]), h.ne, h.most, h.last⟩
end
theorem gdrew {w wx : World} {row : Option Nat} (h : w.grownBy wx row) : w.grownBy wx.drew row := ⟨h.os, h.tape, h.output, h.size, h.block⟩
theorem grown_some {w w' : World} (h : w.grownBy w' none) (b : Nat) : w.grownBy w' (some b) := ⟨h.os, h.tape, h.output, h.size, fun k hk _ => h.block k hk (by simp)⟩
theorem tk_get (T : List Lex.Tk) (i : Nat) (h : i < T.length) : Gram.tk T i = T[i] := by
 unfold Gram.tk; simp [List.getD, h]
def tokV (x : Lex.Tk) : Value := .agg #[.int .i64 x.kind, .string ⟨x.text.toArray⟩, .int .i64 x.n, .int .i64 x.t, .int .i64 0, .int .i64 (x.at_ : Int)]
theorem fldKind (x : Lex.Tk) (wx : World) : (Instr.field 108 (tokV x) 0).run Tryz.prog wx = .ok (.int .i64 x.kind) wx := by kernel_rfl
theorem fldAt (x : Lex.Tk) (wx : World) : (Instr.field 108 (tokV x) 4).run Tryz.prog wx = .ok (.int .i64 (x.at_ : Int)) wx := by kernel_rfl
theorem Toks.cells {w : World} {b : Nat} {T : List Lex.Tk} {g cap : Nat} (h : Toks w b T g cap) {i : Nat} (hi : i < T.length) :
  w.cell? ⟨g, i * 6, none⟩ = some (.int .i64 (Gram.tk T i).kind) ∧ w.cell? ⟨g, i * 6 + 1, none⟩ = some (.string ⟨(Gram.tk T i).text.toArray⟩) ∧ w.cell? ⟨g, i * 6 + 2, none⟩ = some (.int .i64 (Gram.tk T i).n) ∧
  w.cell? ⟨g, i * 6 + 3, none⟩ = some (.int .i64 (Gram.tk T i).t) ∧ w.cell? ⟨g, i * 6 + 4, none⟩ = some (.int .i64 0) ∧ w.cell? ⟨g, i * 6 + 5, none⟩ = some (.int .i64 ((Gram.tk T i).at_ : Int)) := by
 have c : ∀ j, j < 6 → w.cell? ⟨g, i * 6 + j, none⟩ = (Lex.cells T[i])[j]? := fun j hj => by
  rw [h.own.cellAt (i * 6 + j) (by omega)]; exact row_at T i hi j hj
 rw [tk_get T i hi]
 exact ⟨c 0 (by decide), c 1 (by decide), c 2 (by decide), c 3 (by decide), c 4 (by decide), c 5 (by decide)⟩
section
variable {w w' : World} {b g cap : Nat} {rv : Value} {T : List Lex.Tk} {i d : Nat}
end
theorem hold_st (k : Nat) {P : Program} {ops : Array Oper} {Q : Exit → Act → World → Prop} {dd : Option Tmp} {t ty : TypeId} {y : Operand} {ps : String} {af : Array Edge} {gg : Option (Nat × Bool)} {rest : List Oper} {a : Act} {w : World}
 (h : Hid (wpList P ops Q ({ dst := dd, op := Op.store t (.tmp k) y, type := ty, pos := ps, after := af, guard := gg } :: rest) a w)) : wpList P ops Q ({ dst := dd, op := Op.store t (.tmp k) y, type := ty, pos := ps, after := af, guard := gg } :: rest) a w := h
theorem wpList_store_gen {P : Program} {ops : Array Oper} {rest : List Oper} {o : Oper} {a : Act} {w : World} {Q : Exit → Act → World → Prop} (hgd : o.guard = none) (ty : TypeId) (x y : Operand) (ho : o.op = .store ty x y)
  (g : Nat) (cells : Array Value) (hx : a.eval x = .pointer (some ⟨g, 0, none⟩)) (hy : a.eval y = .agg cells)
  (t : TypeId) (old : Array Value) (hg : w.heap[g]? = some (.cells old t (0, 0))) (hi : (P.info? ty).map (·.size) = some cells.size)
  (hold : old.size = cells.size) (h1 : cells.all (·.oneCell') = true)
  (h : ∀ w', w'.heap[g]? = some (.cells cells t (0, 0)) → w.grownBy w' (some g) → wpList P ops Q rest (a.put o.dst undef) w') : wpList P ops Q (o :: rest) a w := by
 refine wpList_store_row hgd ty x y ho g cells hx hy t old hg hi hold h1 (h _ ?_ ?_)
 ·simp [World.setRow, Array.getElem?_modify, hg]
 ·refine ⟨rfl, rfl, rfl, by simp [World.setRow], fun k _ hk => ?_⟩
  have hne : g ≠ k := fun e => hk (by rw [e])
  simp [World.setRow, Array.getElem?_modify, hne]
theorem sg {P : Program} {ops : Array Oper} {rest : List Oper} {o : Oper} {a : Act} {w : World} {Q : Exit → Act → World → Prop} {ty : TypeId} {x y : Operand} {g : Nat} {cells : Array Value} {t : TypeId} {old : Array Value} (hg : w.heap[g]? = some (.cells old t (0, 0)))
  (h : ∀ w', w'.heap[g]? = some (.cells cells t (0, 0)) → w.grownBy w' (some g) → wpList P ops Q rest (a.put o.dst undef) w') (hgd : o.guard = none := by exact rfl) (ho : o.op = .store ty x y := by exact rfl) (hx : a.eval x = .pointer (some ⟨g, 0, none⟩) := by exact rfl) (hy : a.eval y = .agg cells := by exact rfl)
  (hi : (P.info? ty).map (·.size) = some cells.size := by kernel_rfl) (hold : old.size = cells.size := by exact rfl) (h1 : cells.all (·.oneCell') = true := by simp [Value.oneCell']) : wpList P ops Q (o :: rest) a w :=
 wpList_store_gen hgd ty x y ho g cells hx hy t old hg hi hold h1 h
theorem br {P : Program} {fn : Func} {R : Ending → World → Prop} {a : Act} {w : World} {p : Tmp} {ty t : TypeId} {g : Nat} {cs : Array Value} {d : TypeDesc} (hg : w.heap[g]? = some (.cells cs t (0, 0))) (hu : P.underlying ty = some d) (hR : R (.returned (.agg cs)) w)
  (h : fn.results = #[.cell p ty] := by exact rfl) (hp : a.tmps.getD p undef = .pointer (some ⟨g, 0, none⟩) := by exact rfl) (hd : (match d with | .struct _ | .array _ _ => true | _ => false) = true := by exact rfl) (hi : (P.info? ty).map (·.size) = some cs.size := by kernel_rfl) (hf : a.defers = [] := by exact rfl) : bodyPost P fn R .ret a w :=
 bodyPost_ret (results_cell_row h _ _ g t cs (0, 0) d hp hg hu hd hi) hf hR
section
variable (b g cap : Nat) (rv : Value) (T : List Lex.Tk) (i d : Nat)
end
open Gram (Rf.St)
abbrev tO (yk : Int) (yt : List UInt8) (yn yu : Int) (ya : Nat) : Obj := .cells #[.int .i64 yk, .string ⟨yt.toArray⟩, .int .i64 yn, .int .i64 yu, .int .i64 0, .int .i64 (ya : Int)] 108
def Rst (w : World) (b : Nat) (tv : Value) (s : Gram.Rf.St) : Prop := w.heap[b]? = some (.cells #[tv, .int .i64 (s.i : Int), .int .i64 s.e, .int .i64 s.bad, .int .i64 s.n] 81 (0, 0))
section
variable {w : World} {b : Nat} {tv : Value} {s : Gram.Rf.St}
theorem Rst.c0 (h : Rst w b tv s) : w.cell? ⟨b, 0, none⟩ = some tv := cell_of_row w b 0 _ _ _ h
theorem Rst.c1 (h : Rst w b tv s) : w.cell? ⟨b, 1, none⟩ = some (.int .i64 (s.i : Int)) := cell_of_row w b 1 _ _ _ h
theorem Rst.c2 (h : Rst w b tv s) : w.cell? ⟨b, 2, none⟩ = some (.int .i64 s.e) := cell_of_row w b 2 _ _ _ h
theorem Rst.c3 (h : Rst w b tv s) : w.cell? ⟨b, 3, none⟩ = some (.int .i64 s.bad) := cell_of_row w b 3 _ _ _ h
theorem Rst.c4 (h : Rst w b tv s) : w.cell? ⟨b, 4, none⟩ = some (.int .i64 s.n) := cell_of_row w b 4 _ _ _ h
theorem Rst.fr (h : Rst w b tv s) (j : Nat) : w.frozen? ⟨b, j, none⟩ = false := by
 unfold Rst at h; simp [World.frozen?, h]
theorem Rst.lt (h : Rst w b tv s) : b < w.heap.size := (Array.getElem?_eq_some_iff.1 h).1
theorem Rst.setAt (h : Rst w b tv s) (j : Nat) : Rst (w.setCell ⟨b, 1, none⟩ (.int .i64 (j : Int))) b tv { s with i := j } := by
 unfold Rst at h ⊢
 simp only [World.setCell, Array.getElem?_modify, if_true, h, Option.map_some]
 rfl
theorem Rst.setE (h : Rst w b tv s) (e : Int) : Rst (w.setCell ⟨b, 2, none⟩ (.int .i64 e)) b tv { s with e := e } := by
 unfold Rst at h ⊢
 simp only [World.setCell, Array.getElem?_modify, if_true, h, Option.map_some]
 rfl
theorem Rst.setBad (h : Rst w b tv s) (e : Int) : Rst (w.setCell ⟨b, 3, none⟩ (.int .i64 e)) b tv { s with bad := e } := by
 unfold Rst at h ⊢
 simp only [World.setCell, Array.getElem?_modify, if_true, h, Option.map_some]
 rfl
theorem Rst.setN (h : Rst w b tv s) (e : Int) : Rst (w.setCell ⟨b, 4, none⟩ (.int .i64 e)) b tv { s with n := e } := by
 unfold Rst at h ⊢
 simp only [World.setCell, Array.getElem?_modify, if_true, h, Option.map_some]
 rfl
theorem Rst.kept {w' : World} {row : Option Nat} (h : Rst w b tv s) (hg : w.grownBy w' row) (hne : some b ≠ row) : Rst w' b tv s :=
 (hg.block b h.lt hne).trans h
end
structure Rp (w : World) (b g cap : Nat) (T : List Lex.Tk) (s : Gram.Rf.St) : Prop where
 toks : Toks w b T g cap
 st : Rst w b (.slice (some ⟨g, 0, none⟩) T.length cap) s
 lt : s.i < T.length
section
variable {w w' : World} {b g cap : Nat} {T : List Lex.Tk} {s : Gram.Rf.St}
theorem Rp.kept (h : Rp w b g cap T s) (hg : w.grownBy w' none) : Rp w' b g cap T s :=
 ⟨h.toks.kept0 hg, h.st.kept hg (by simp), h.lt⟩
theorem Rp.alloc (h : Rp w b g cap T s) (o : Obj) : Rp (w.alloc o) b g cap T s := h.kept (ga w o none)
theorem Rp.drew (h : Rp w b g cap T s) : Rp w.drew b g cap T s := h.kept (gdrew (World.grownBy.refl w none))
theorem Rp.bl (h : Rp w b g cap T s) : b < w.heap.size := h.st.lt
theorem Rp.to {s' : Gram.Rf.St} (h : Rp w b g cap T s) (hg : w.grownBy w' (some b)) (hs : Rst w' b (.slice (some ⟨g, 0, none⟩) T.length cap) s') (hj : s'.i < T.length) : Rp w' b g cap T s' :=
 ⟨h.toks.kept hg, hs, hj⟩
theorem Rp.next (h : Rp w b g cap T s) (hk : (Gram.tk T s.i).kind ≠ 5 ∨ (Gram.tk T s.i).text ≠ []) : s.i + 1 < T.length := h.toks.last s.i h.lt hk
theorem is_kind {x : Gram.B} (h : Gram.Rf.is T x s = true) : s.e = 0 ∧ ((Gram.tk T s.i).kind = 3 ∨ (Gram.tk T s.i).kind = 4) ∧ (Gram.tk T s.i).text = x := by
 unfold Gram.Rf.is at h
 simp only [Bool.and_eq_true, Bool.or_eq_true, beq_iff_eq] at h
 exact ⟨h.1.1, h.1.2, h.2⟩
theorem Rp.nextIs (h : Rp w b g cap T s) {x : Gram.B} (hs : Gram.Rf.is T x s = true) : s.i + 1 < T.length :=
 h.next (.inl (by rcases (is_kind hs).2.1 with e | e <;> rw [e] <;> decide))
end
section
variable (b g cap : Nat) (T : List Lex.Tk) (s : Gram.Rf.St)
theorem rtok_any (w : World) (h : Rp w b g cap T s) :
  Calls Tryz.prog 62 #[.pointer (some ⟨b, 0, none⟩)] w fun e w' => e = .returned (tokV (Gram.tk T s.i)) ∧ w.grownBy w' none := by
 obtain ⟨c0, c1, c2, c3, c4, c5⟩ := h.toks.cells h.lt
 have p0 := h.st.c0
 have p1 := h.st.c1
 have hm := h.toks.most
 have hi := h.lt
 have hlt : b < w.heap.size := h.bl
 have hlg : g < w.heap.size := World.block_lt_of_cell? w _ c0
 have n1 : ¬ b = w.heap.size := by omega
 have n2 : ¬ g = w.heap.size := by omega
 unfold tokV
 generalize s.i = i at *
 generalize Gram.tk T i = x at c0 c1 c2 c3 c4 c5
 clear h
 go_enter Tryz.func62, Tryz.ntmps62
 go_wp2
 go_region
 go_wp2
 (try simp only [Exit.inBlock, Exit.then])
 exact bodyPost_ret (results_cell_row rfl _ _ w.heap.size 108 _ (0, 0) _ rfl (heap_alloc_new w _) Tryz.underlying108 rfl (by kernel_rfl)) rfl ⟨rfl, gdrew (ga w _ none)⟩
theorem rset {w W : World} {b : Nat} (h : w.grownBy W (some b)) (j : Nat) (v : Value) : w.grownBy (W.setCell ⟨b, j, none⟩ v) (some b) := gset h (.inr rfl) v
theorem rfail_w0 {w : World} {b g cap : Nat} {T : List Lex.Tk} {s : Gram.Rf.St} (h : Rp w b g cap T s) (er : Int) (h0 : s.e = 0) :
  Rp (((w.setCell ⟨b, 2, none⟩ (.int .i64 er)).setCell ⟨b, 3, none⟩ (.int .i64 ((Gram.tk T s.i).at_ : Int))).setCell ⟨b, 1, none⟩ (.int .i64 ((T.length : Int) - 1))) b g cap T (Gram.Rf.fail T er s) ∧ w.grownBy (((w.setCell ⟨b, 2, none⟩ (.int .i64 er)).setCell ⟨b, 3, none⟩ (.int .i64 ((Gram.tk T s.i).at_ : Int))).setCell ⟨b, 1, none⟩ (.int .i64 ((T.length : Int) - 1))) (some b) := by
 have hi := h.lt
 have g1 := rset (World.grownBy.refl w (some b)) 2 (.int .i64 er)
 have g2 := rset g1 3 (.int .i64 ((Gram.tk T s.i).at_ : Int))
 have g3 := rset g2 1 (.int .i64 ((T.length : Int) - 1))
 have e : ((T.length : Int) - 1) = ((T.length - 1 : Nat) : Int) := by omega
 refine ⟨?_, g3⟩
 rw [e] at g3 ⊢
 have s1 := h.st.setE er
 have s2 := s1.setBad ((Gram.tk T s.i).at_ : Int)
 have s3 := s2.setAt (T.length - 1)
 unfold Gram.Rf.fail
 rw [if_pos h0]
 exact h.to g3 s3 (by show T.length - 1 < T.length; omega)
theorem rfail_w1 {w : World} {b g cap : Nat} {T : List Lex.Tk} {s : Gram.Rf.St} (h : Rp w b g cap T s) (er : Int) (h0 : ¬ s.e = 0) :
  Rp (w.setCell ⟨b, 1, none⟩ (.int .i64 ((T.length : Int) - 1))) b g cap T (Gram.Rf.fail T er s) ∧ w.grownBy (w.setCell ⟨b, 1, none⟩ (.int .i64 ((T.length : Int) - 1))) (some b) := by
 have hi := h.lt
 have g3 := rset (World.grownBy.refl w (some b)) 1 (.int .i64 ((T.length : Int) - 1))
 have e : ((T.length : Int) - 1) = ((T.length - 1 : Nat) : Int) := by omega
 refine ⟨?_, g3⟩
 rw [e] at g3 ⊢
 have s3 := h.st.setAt (T.length - 1)
 unfold Gram.Rf.fail
 rw [if_neg h0]
 exact h.to g3 s3 (by show T.length - 1 < T.length; omega)
theorem rfail_any (er : Int) (w : World) (h : Rp w b g cap T s) :
  Calls Tryz.prog 64 #[.pointer (some ⟨b, 0, none⟩), .int .i64 er] w fun e w' => e = .returned (.tuple #[]) ∧ Rp w' b g cap T (Gram.Rf.fail T er s) ∧ w.grownBy w' (some b) := by
 obtain ⟨c0, c1, c2, c3, c4, c5⟩ := h.toks.cells h.lt
 have p0 := h.st.c0
 have p1 := h.st.c1
 have p2 := h.st.c2
 have p3 := h.st.c3
 have f1 := h.st.fr 1
 have f2 := h.st.fr 2
 have f3 := h.st.fr 3
 have hm := h.toks.most
 have hi := h.lt
 have hne : ¬ g = b := h.toks.ne
 by_cases h0 : s.e = 0
 ·have b0 : (s.e == 0) = true := by rw [beq_iff_eq]; exact h0
  have HK := ld (rfail_w0 h er h0)
  generalize hR : Gram.Rf.fail T er s = s' at HK
  generalize Gram.tk T s.i = x at c0 c1 c2 c3 c4 c5 HK
  generalize s.i = i at *
  generalize s.e = e0 at *
  generalize s.bad = b0' at *
  clear h h0 hR
  go_enter Tryz.func64, Tryz.ntmps64
  go_wp2
  go_region
  go_wp2
  go_end0
  exact ⟨rfl, HK.out.1.drew, gdrew HK.out.2⟩
 ·have b0 : (s.e == 0) = false := by rw [beq_eq_false_iff_ne]; exact h0
  have HK := ld (rfail_w1 h er h0)
  generalize hR : Gram.Rf.fail T er s = s' at HK
  generalize s.i = i at *
  generalize s.e = e0 at *
  clear h h0 hR c0 c1 c2 c3 c4 c5
  go_enter Tryz.func64, Tryz.ntmps64
  go_wp2
  go_end0
  exact ⟨rfl, HK.out⟩
theorem ris_any (x : ByteArray) (w : World) (h : Rp w b g cap T s) :
  Calls Tryz.prog 63 #[.pointer (some ⟨b, 0, none⟩), .string x] w fun e w' => e = .returned (.bool (Gram.Rf.is T x.data.toList s)) ∧ w.grownBy w' none := by
 have hn := rtok_any b g cap T s w h
 have HH := ld h
 have hx : tokV (Gram.tk T s.i) = .agg #[.int .i64 (Gram.tk T s.i).kind, .string ⟨(Gram.tk T s.i).text.toArray⟩, .int .i64 (Gram.tk T s.i).n, .int .i64 (Gram.tk T s.i).t, .int .i64 0, .int .i64 ((Gram.tk T s.i).at_ : Int)] := rfl
 rw [hx] at hn
 obtain ⟨R, hR⟩ : ∃ R, R = Gram.Rf.is T x.data.toList s := ⟨_, rfl⟩
 rw [← hR]
 unfold Gram.Rf.is at hR
 generalize Gram.tk T s.i = y at hn hR
 clear hx h
 have hb := HH.out.bl
 by_cases h0 : s.e = 0
 ·have b0 : (s.e == 0) = true := by rw [beq_iff_eq]; exact h0
  by_cases h3 : y.kind = 3
  ·have b3 : (y.kind == 3) = true := by rw [beq_iff_eq]; exact h3
   clear h3
   have HR : Hid (R = (y.text == x.data.toList)) := ld (by rw [hR, b0, b3]; simp)
   clear hR h0
   go_enter Tryz.func63, Tryz.ntmps63
   go_wp2_with (go_at_call 62; refine hn.mono ?_; rintro e w1 ⟨rfl, hg1⟩; refine Hid.out ?_)
   have p2 := (HH.out.kept hg1).st.c2
   have hb1 := (HH.out.kept hg1).bl
   have n1 : ¬ b = w1.heap.size := by omega
   have HG : Hid (∀ o, w.grownBy (w1.alloc o) none) := ld (fun o => galloc hg1 o)
   clear hg1
   refine ld ?_
   go_wp2
   go_ret
   rw [HR.out]
   exact ⟨ret_bool (by simp [ByteArray.toList_eq]), HG.out _⟩
  ·have b3 : (y.kind == 3) = false := by rw [beq_eq_false_iff_ne]; exact h3
   clear h3
   by_cases h4 : y.kind = 4
   ·have b4 : (y.kind == 4) = true := by rw [beq_iff_eq]; exact h4
    clear h4
    have HR : Hid (R = (y.text == x.data.toList)) := ld (by rw [hR, b0, b3, b4]; simp)
    clear hR h0
    go_enter Tryz.func63, Tryz.ntmps63
    go_wp2_with (go_at_call 62; refine hn.mono ?_; rintro e w1 ⟨rfl, hg1⟩; refine Hid.out ?_)
    have p2 := (HH.out.kept hg1).st.c2
    have hb1 := (HH.out.kept hg1).bl
    have n1 : ¬ b = w1.heap.size := by omega
    have HG : Hid (∀ o, w.grownBy (w1.alloc o) none) := ld (fun o => galloc hg1 o)
    clear hg1
    refine ld ?_
    go_wp2
    go_ret
    rw [HR.out]
    exact ⟨ret_bool (by simp [ByteArray.toList_eq]), HG.out _⟩
   ·have b4 : (y.kind == 4) = false := by rw [beq_eq_false_iff_ne]; exact h4
    clear h4
    have HR : Hid (R = false) := ld (by rw [hR, b0, b3, b4]; simp)
    clear hR h0
    go_enter Tryz.func63, Tryz.ntmps63
    go_wp2_with (go_at_call 62; refine hn.mono ?_; rintro e w1 ⟨rfl, hg1⟩; refine Hid.out ?_)
    have p2 := (HH.out.kept hg1).st.c2
    have hb1 := (HH.out.kept hg1).bl
    have n1 : ¬ b = w1.heap.size := by omega
    have HG : Hid (∀ o, w.grownBy (w1.alloc o) none) := ld (fun o => galloc hg1 o)
    clear hg1
    refine ld ?_
    go_wp2
    go_ret
    rw [HR.out]
    exact ⟨ret_bool (by simp [ByteArray.toList_eq]), HG.out _⟩
 ·have b0 : (s.e == 0) = false := by rw [beq_eq_false_iff_ne]; exact h0
  have HR : Hid (R = false) := ld (by rw [hR, b0]; simp)
  clear hR h0
  go_enter Tryz.func63, Tryz.ntmps63
  go_wp2_with (go_at_call 62; refine hn.mono ?_; rintro e w1 ⟨rfl, hg1⟩; refine Hid.out ?_)
  have p2 := (HH.out.kept hg1).st.c2
  have hb1 := (HH.out.kept hg1).bl
  have n1 : ¬ b = w1.heap.size := by omega
  have HG : Hid (∀ o, w.grownBy (w1.alloc o) none) := ld (fun o => galloc hg1 o)
  clear hg1
  refine ld ?_
  go_wp2
  go_ret
  rw [HR.out]
  exact ⟨ret_bool (by simp [ByteArray.toList_eq]), HG.out _⟩
theorem radv_w {w : World} {b g cap : Nat} {T : List Lex.Tk} {s : Gram.Rf.St} (h : Rp w b g cap T s) (hi : s.i + 1 < T.length) :
  Rp (w.setCell ⟨b, 1, none⟩ (.int .i64 ((s.i : Int) + 1))) b g cap T (Gram.Rf.adv s) ∧ w.grownBy (w.setCell ⟨b, 1, none⟩ (.int .i64 ((s.i : Int) + 1))) (some b) := by
 have g3 := rset (World.grownBy.refl w (some b)) 1 (.int .i64 ((s.i : Int) + 1))
 exact ⟨h.to g3 (h.st.setAt (s.i + 1)) hi, g3⟩
theorem rtake_any (x : ByteArray) (w : World) (h : Rp w b g cap T s) :
  Calls Tryz.prog 99 #[.pointer (some ⟨b, 0, none⟩), .string x] w fun e w' => e = .returned (.tuple #[]) ∧ Rp w' b g cap T (Gram.Rf.take T x.data.toList s) ∧ w.grownBy w' (some b) := by
 have hn := ris_any b g cap T s x w h
 have HH := ld h
 have hm := h.toks.most
 have hlt := h.lt
 unfold Gram.Rf.take
 cases hq : Gram.Rf.is T x.data.toList s with
 | true =>
  rw [hq] at hn
  rw [if_pos rfl]
  have hi := h.nextIs hq
  clear h
  go_enter Tryz.func99, Tryz.ntmps99
  go_wp2_with (go_at_call 63; refine hn.mono ?_; rintro e w1 ⟨rfl, hg1⟩; refine Hid.out ?_)
  have p1 := (HH.out.kept hg1).st.c1
  have f1 := (HH.out.kept hg1).st.fr 1
  have HK := ld (radv_w (HH.out.kept hg1) hi)
  have HG := ld hg1
  clear hg1 hn
  generalize s.i = i at *
  refine ld ?_
  go_wp2
  go_end0
  exact ⟨by first | rfl | trivial, HK.out.1, (grown_some HG.out b).trans HK.out.2⟩
 | false =>
  rw [hq] at hn
  rw [if_neg (by decide)]
  have HF := ld (fun w1 (hg1 : w.grownBy w1 none) => rfail_any b g cap T s 12 w1 (h.kept hg1))
  generalize hR : Gram.Rf.fail T 12 s = s' at HF
  clear h
  go_enter Tryz.func99, Tryz.ntmps99
  go_wp2_with (first | (go_at_call 63; refine hn.mono ?_; rintro e w1 ⟨rfl, hg1⟩) | (go_at_call 64; refine (HF.out _ hg1).mono ?_; rintro e w2 ⟨rfl, hP2, hg2⟩))
  (try simp only [Exit.inBlock, Exit.then])
  refine bodyPost_ret (results_none rfl _ _ _) rfl ?_
  exact ⟨by first | rfl | trivial, hP2, (grown_some hg1 b).trans hg2⟩
theorem rmaybe_any (x : ByteArray) (w : World) (h : Rp w b g cap T s) :
  Calls Tryz.prog 102 #[.pointer (some ⟨b, 0, none⟩), .string x] w fun e w' => e = .returned (.bool (Gram.Rf.is T x.data.toList s)) ∧ Rp w' b g cap T (Gram.Rf.maybe T x.data.toList s) ∧ w.grownBy w' (some b) := by
 have hn := ris_any b g cap T s x w h
 have HH := ld h
 have hm := h.toks.most
 have hlt := h.lt
 unfold Gram.Rf.maybe
 cases hq : Gram.Rf.is T x.data.toList s with
 | true =>
  rw [hq] at hn
  rw [if_pos rfl]
  have hi := h.nextIs hq
  clear h
  go_enter Tryz.func102, Tryz.ntmps102
  go_wp2_with (go_at_call 63; refine hn.mono ?_; rintro e w1 ⟨rfl, hg1⟩; refine Hid.out ?_)
  have p1 := (HH.out.kept hg1).st.c1
  have f1 := (HH.out.kept hg1).st.fr 1
  have HK := ld (radv_w (HH.out.kept hg1) hi)
  have HG := ld hg1
  clear hg1 hn
  generalize s.i = i at *
  refine ld ?_
  go_wp2
  go_ret
  exact ⟨by first | rfl | trivial, HK.out.1, (grown_some HG.out b).trans HK.out.2⟩
 | false =>
  rw [hq] at hn
  rw [if_neg (by decide)]
  clear h
  go_enter Tryz.func102, Tryz.ntmps102
  go_wp2_with (go_at_call 63; refine hn.mono ?_; rintro e w1 ⟨rfl, hg1⟩)
  go_ret
  exact ⟨by first | rfl | trivial, HH.out.kept hg1, grown_some hg1 b⟩
theorem radv_t {w : World} {b g cap : Nat} {T : List Lex.Tk} {s : Gram.Rf.St} (h : Rp w b g cap T s) (hi : s.i + 1 < T.length) (o : Obj) :
  Rp ((w.setCell ⟨b, 1, none⟩ (.int .i64 ((s.i : Int) + 1))).alloc o) b g cap T (Gram.Rf.adv s) ∧ w.grownBy ((w.setCell ⟨b, 1, none⟩ (.int .i64 ((s.i : Int) + 1))).alloc o) (some b) := by
 have h1 := radv_w h hi
 exact ⟨h1.1.alloc o, galloc h1.2 o⟩
end
section
variable (b g cap : Nat) (T : List Lex.Tk) (s : Gram.Rf.St)
theorem bne_t {a c : Int} (h : (a == c) = true) : (a != c) = false := by simp [bne, h]
theorem bne_f {a c : Int} (h : (a == c) = false) : (a != c) = true := by simp [bne, h]
theorem rname_any (w : World) (h : Rp w b g cap T s) :
  Calls Tryz.prog 100 #[.pointer (some ⟨b, 0, none⟩)] w fun e w' => e = .returned (.string ⟨(Gram.Rf.name T s).1.toArray⟩) ∧ Rp w' b g cap T (Gram.Rf.name T s).2 ∧ w.grownBy w' (some b) := by
 have hn := rtok_any b g cap T s w h
 have HH := ld h
 have hm := h.toks.most
 have hlt := h.lt
 have hx : tokV (Gram.tk T s.i) = .agg #[.int .i64 (Gram.tk T s.i).kind, .string ⟨(Gram.tk T s.i).text.toArray⟩, .int .i64 (Gram.tk T s.i).n, .int .i64 (Gram.tk T s.i).t, .int .i64 0, .int .i64 ((Gram.tk T s.i).at_ : Int)] := rfl
 rw [hx] at hn
 unfold Gram.Rf.name
 cases hq : Gram.Rf.nameOk T s with
 | true =>
  rw [if_pos rfl]
  unfold Gram.Rf.nameOk at hq
  simp only [Bool.and_eq_true, beq_iff_eq] at hq
  obtain ⟨h0, h1⟩ := hq
  have hi := h.next (.inl (by rw [h1]; decide))
  have b0 : (s.e != 0) = false := bne_t (by rw [beq_iff_eq]; exact h0)
  have b1 : ((Gram.tk T s.i).kind != 1) = false := bne_t (by rw [beq_iff_eq]; exact h1)
  clear h h0 h1 hx
  generalize Gram.tk T s.i = y at *
  go_enter Tryz.func100, Tryz.ntmps100
  go_wp2_with (go_at_call 62; refine hn.mono ?_; rintro e w1 ⟨rfl, hg1⟩; refine Hid.out ?_)
  have hP := HH.out.kept hg1
  have p1 := hP.st.c1
  have p2 := hP.st.c2
  have f1 := hP.st.fr 1
  have hb1 := hP.bl
  have n1 : ¬ b = w1.heap.size := by omega
  have HK := ld (radv_t hP hi)
  have HG := ld hg1
  clear hg1 hn hP
  generalize s.i = i at *
  generalize s.e = e0 at *
  refine ld ?_
  go_wp2
  go_ret
  exact ⟨by first | rfl | trivial, (HK.out _).1, (grown_some HG.out b).trans (HK.out _).2⟩
 | false =>
  rw [if_neg (by decide)]
  have HF := ld (fun w1 (hg1 : w.grownBy w1 none) => rfail_any b g cap T s 12 w1 (h.kept hg1))
  unfold Gram.Rf.nameOk at hq
  clear h hx
  generalize Gram.tk T s.i = y at *
  cases h0 : (s.e == 0) with
  | true =>
   have b0 := bne_t h0
   have b1 : (y.kind != 1) = true := bne_f (by rw [h0] at hq; simpa using hq)
   clear hq h0
   go_enter Tryz.func100, Tryz.ntmps100
   go_wp2_with (go_at_call 62; refine hn.mono ?_; rintro e w1 ⟨rfl, hg1⟩; refine Hid.out ?_)
   have hP := HH.out.kept hg1
   have p2 := hP.st.c2
   have hb1 := hP.bl
   have n1 : ¬ b = w1.heap.size := by omega
   clear hn hP
   generalize s.e = e0 at *
   refine ld ?_
   go_wp2_with ((go_at_call 64; refine (HF.out _ (galloc hg1 _)).mono ?_; rintro e w2 ⟨rfl, hP2, hg2⟩))
   go_ret
   exact ⟨by first | rfl | trivial, hP2, (grown_some (galloc hg1 _) b).trans hg2⟩
  | false =>
   have b0 := bne_f h0
   clear hq h0
   go_enter Tryz.func100, Tryz.ntmps100
   go_wp2_with (go_at_call 62; refine hn.mono ?_; rintro e w1 ⟨rfl, hg1⟩; refine Hid.out ?_)
   have hP := HH.out.kept hg1
   have p2 := hP.st.c2
   have hb1 := hP.bl
   have n1 : ¬ b = w1.heap.size := by omega
   clear hn hP
   generalize s.e = e0 at *
   refine ld ?_
   go_wp2_with ((go_at_call 64; refine (HF.out _ (galloc hg1 _)).mono ?_; rintro e w2 ⟨rfl, hP2, hg2⟩))
   go_ret
   exact ⟨by first | rfl | trivial, hP2, (grown_some (galloc hg1 _) b).trans hg2⟩
theorem rsize_any (w : World) (h : Rp w b g cap T s) :
  Calls Tryz.prog 163 #[.pointer (some ⟨b, 0, none⟩)] w fun e w' => e = .returned (.int .i64 (Gram.Rf.size T s).1) ∧ Rp w' b g cap T (Gram.Rf.size T s).2 ∧ w.grownBy w' (some b) := by
 have hn := rtok_any b g cap T s w h
 have HH := ld h
 have hm := h.toks.most
 have hlt := h.lt
 have hx : tokV (Gram.tk T s.i) = .agg #[.int .i64 (Gram.tk T s.i).kind, .string ⟨(Gram.tk T s.i).text.toArray⟩, .int .i64 (Gram.tk T s.i).n, .int .i64 (Gram.tk T s.i).t, .int .i64 0, .int .i64 ((Gram.tk T s.i).at_ : Int)] := rfl
 rw [hx] at hn
 unfold Gram.Rf.size
 cases hq : Gram.Rf.sizeOk T s with
 | true =>
  rw [if_pos rfl]
  unfold Gram.Rf.sizeOk at hq
  simp only [Bool.and_eq_true, beq_iff_eq] at hq
  obtain ⟨⟨h0, h1⟩, h2⟩ := hq
  have hi := h.next (.inl (by rw [h1]; decide))
  have b0 : (s.e != 0) = false := bne_t (by rw [beq_iff_eq]; exact h0)
  have b1 : ((Gram.tk T s.i).kind != 2) = false := bne_t (by rw [beq_iff_eq]; exact h1)
  have b2 : ((Gram.tk T s.i).t != 0) = false := bne_t (by rw [beq_iff_eq]; exact h2)
  clear h h0 h1 h2 hx
  generalize Gram.tk T s.i = y at *
  go_enter Tryz.func163, Tryz.ntmps163
  go_wp2_with (go_at_call 62; refine hn.mono ?_; rintro e w1 ⟨rfl, hg1⟩; refine Hid.out ?_)
  have hP := HH.out.kept hg1
  have p1 := hP.st.c1
  have p2 := hP.st.c2
  have f1 := hP.st.fr 1
  have hb1 := hP.bl
  have n1 : ¬ b = w1.heap.size := by omega
  have HK := ld (radv_t hP hi)
  have HG := ld hg1
  clear hg1 hn hP
  generalize s.i = i at *
  generalize s.e = e0 at *
  refine ld ?_
  go_wp2
  go_ret
  exact ⟨by first | rfl | trivial, (HK.out _).1, (grown_some HG.out b).trans (HK.out _).2⟩
 | false =>
  rw [if_neg (by decide)]
  have HF := ld (fun w1 (hg1 : w.grownBy w1 none) => rfail_any b g cap T s 12 w1 (h.kept hg1))
  unfold Gram.Rf.sizeOk at hq
  clear h hx
  generalize Gram.tk T s.i = y at *
  cases h0 : (s.e == 0) with
  | true =>
   have b0 := bne_t h0
   cases h1 : (y.kind == 2) with
   | true =>
    have b1 := bne_t h1
    have b2 : (y.t != 0) = true := bne_f (by rw [h0, h1] at hq; simpa using hq)
    clear hq h0 h1
    go_enter Tryz.func163, Tryz.ntmps163
    go_wp2_with (go_at_call 62; refine hn.mono ?_; rintro e w1 ⟨rfl, hg1⟩; refine Hid.out ?_)
    have hP := HH.out.kept hg1
    have p2 := hP.st.c2
    have hb1 := hP.bl
    have n1 : ¬ b = w1.heap.size := by omega
    clear hn hP
    generalize s.e = e0 at *
    refine ld ?_
    go_wp2_with ((go_at_call 64; refine (HF.out _ (galloc hg1 _)).mono ?_; rintro e w2 ⟨rfl, hP2, hg2⟩))
    go_ret
    exact ⟨by first | rfl | trivial, hP2, (grown_some (galloc hg1 _) b).trans hg2⟩
   | false =>
    have b1 := bne_f h1
    clear hq h0 h1
    go_enter Tryz.func163, Tryz.ntmps163
    go_wp2_with (go_at_call 62; refine hn.mono ?_; rintro e w1 ⟨rfl, hg1⟩; refine Hid.out ?_)
    have hP := HH.out.kept hg1
    have p2 := hP.st.c2
    have hb1 := hP.bl
    have n1 : ¬ b = w1.heap.size := by omega
    clear hn hP
    generalize s.e = e0 at *
    refine ld ?_
    go_wp2_with ((go_at_call 64; refine (HF.out _ (galloc hg1 _)).mono ?_; rintro e w2 ⟨rfl, hP2, hg2⟩))
    go_ret
    exact ⟨by first | rfl | trivial, hP2, (grown_some (galloc hg1 _) b).trans hg2⟩
  | false =>
   have b0 := bne_f h0
   clear hq h0
   go_enter Tryz.func163, Tryz.ntmps163
   go_wp2_with (go_at_call 62; refine hn.mono ?_; rintro e w1 ⟨rfl, hg1⟩; refine Hid.out ?_)
   have hP := HH.out.kept hg1
   have p2 := hP.st.c2
   have hb1 := hP.bl
   have n1 : ¬ b = w1.heap.size := by omega
   clear hn hP
   generalize s.e = e0 at *
   refine ld ?_
   go_wp2_with ((go_at_call 64; refine (HF.out _ (galloc hg1 _)).mono ?_; rintro e w2 ⟨rfl, hP2, hg2⟩))
   go_ret
   exact ⟨by first | rfl | trivial, hP2, (grown_some (galloc hg1 _) b).trans hg2⟩
theorem rkindm_any (w : World) (h : Rp w b g cap T s) :
  Calls Tryz.prog 162 #[.pointer (some ⟨b, 0, none⟩)] w fun e w' => e = .returned (.int .i64 (Gram.Rf.kind T s).1) ∧ Rp w' b g cap T (Gram.Rf.kind T s).2 ∧ w.grownBy w' (some b) := by
 have hn := rtok_any b g cap T s w h
 have HH := ld h
 have hm := h.toks.most
 have hlt := h.lt
 have hx : tokV (Gram.tk T s.i) = .agg #[.int .i64 (Gram.tk T s.i).kind, .string ⟨(Gram.tk T s.i).text.toArray⟩, .int .i64 (Gram.tk T s.i).n, .int .i64 (Gram.tk T s.i).t, .int .i64 0, .int .i64 ((Gram.tk T s.i).at_ : Int)] := rfl
 rw [hx] at hn
 have HKd := fun W => rkind_any ⟨(Gram.tk T s.i).text.toArray⟩ W
 unfold Gram.Rf.kind
 cases hq : Gram.Rf.kindOk T s with
 | true =>
  rw [if_pos rfl]
  unfold Gram.Rf.kindOk at hq
  simp only [Bool.and_eq_true, beq_iff_eq, bne_iff_ne, ne_eq] at hq
  obtain ⟨⟨h0, h1⟩, h2⟩ := hq
  have hi := h.next (.inl (by rw [h1]; decide))
  have b0 : (s.e != 0) = false := bne_t (by rw [beq_iff_eq]; exact h0)
  have b1 : ((Gram.tk T s.i).kind != 3) = false := bne_t (by rw [beq_iff_eq]; exact h1)
  have b2 : (Lex.kindOf (Gram.tk T s.i).text == 0) = false := by rw [beq_eq_false_iff_ne]; exact h2
  simp only [List.toList_toArray] at HKd
  generalize hK0 : Lex.kindOf (Gram.tk T s.i).text = kk at *
  clear h h0 h1 h2 hx hK0
  generalize Gram.tk T s.i = y at *
  go_enter Tryz.func162, Tryz.ntmps162
  go_wp2_with (go_at_call 62; refine hn.mono ?_; rintro e w1 ⟨rfl, hg1⟩; refine Hid.out ?_)
  have hP := HH.out.kept hg1
  have p2 := hP.st.c2
  have hb1 := hP.bl
  have n1 : ¬ b = w1.heap.size := by omega
  have hP := hP.alloc (.cells #[.int .i64 y.kind, .string ⟨y.text.toArray⟩, .int .i64 y.n, .int .i64 y.t, .int .i64 0, .int .i64 (y.at_ : Int)] 108)
  have hg1 := galloc hg1 (.cells #[.int .i64 y.kind, .string ⟨y.text.toArray⟩, .int .i64 y.n, .int .i64 y.t, .int .i64 0, .int .i64 (y.at_ : Int)] 108)
  have t1 : (w1.alloc (.cells #[.int .i64 y.kind, .string ⟨y.text.toArray⟩, .int .i64 y.n, .int .i64 y.t, .int .i64 0, .int .i64 (y.at_ : Int)] 108)).cell? ⟨w1.heap.size, 1, none⟩ = some (.string ⟨y.text.toArray⟩) := by simp
  clear hn
  refine ld ?_
  go_wp2_with (go_at_call 96; refine (HKd _).mono ?_; rintro e w2 ⟨rfl, hg2⟩; refine Hid.out ?_)
  have hP := hP.kept hg2
  have p1 := hP.st.c1
  have f1 := hP.st.fr 1
  have t2 := hg2.cell t1 (by simp)
  have hb2 := hP.bl
  have n2 : ¬ b = w1.heap.size := n1
  have n3 : ¬ w1.heap.size = b := fun e => n1 e.symm
  have HK := ld (radv_w hP hi)
  have HG := ld (hg1.trans hg2)
  clear hg1 hg2 hP t1 p2
  generalize s.i = i at *
  refine ld ?_
  go_wp2_with (go_at_call 96; refine (HKd _).mono ?_; rintro e w3 ⟨rfl, hg3⟩)
  go_ret
  exact ⟨by first | rfl | trivial, HK.out.1.kept hg3, ((grown_some HG.out b).trans HK.out.2).trans (grown_some hg3 b)⟩
 | false =>
  rw [if_neg (by decide)]
  have HF := ld (fun w1 (hg1 : w.grownBy w1 none) => rfail_any b g cap T s 12 w1 (h.kept hg1))
  unfold Gram.Rf.kindOk at hq
  simp only [List.toList_toArray] at HKd
  generalize hK0 : Lex.kindOf (Gram.tk T s.i).text = kk at *
  clear h hx hK0
  generalize Gram.tk T s.i = y at *
  cases h0 : (s.e == 0) with
  | true =>
   have b0 := bne_t h0
   cases h1 : (y.kind == 3) with
   | true =>
    have b1 := bne_t h1
    have b2 : (kk == 0) = true := by rw [h0, h1] at hq; simpa using hq
    clear hq h0 h1
    go_enter Tryz.func162, Tryz.ntmps162
    go_wp2_with (go_at_call 62; refine hn.mono ?_; rintro e w1 ⟨rfl, hg1⟩; refine Hid.out ?_)
    have hP := HH.out.kept hg1
    have p2 := hP.st.c2
    have hb1 := hP.bl
    have n1 : ¬ b = w1.heap.size := by omega
    clear hn hP
    generalize s.e = e0 at *
    refine ld ?_
    go_wp2_with (go_at_call 96; refine (HKd _).mono ?_; rintro e w3 ⟨rfl, hg3⟩; refine Hid.out ?_)
    refine ld ?_
    go_wp2_with (go_at_call 64; refine (HF.out _ ((galloc hg1 _).trans hg3)).mono ?_; rintro e w2 ⟨rfl, hP2, hg2⟩)
    go_ret
    exact ⟨by first | rfl | trivial, hP2, (grown_some ((galloc hg1 _).trans hg3) b).trans hg2⟩
   | false =>
    have b1 := bne_f h1
    clear hq h0 h1
    go_enter Tryz.func162, Tryz.ntmps162
    go_wp2_with (go_at_call 62; refine hn.mono ?_; rintro e w1 ⟨rfl, hg1⟩; refine Hid.out ?_)
    have hP := HH.out.kept hg1
    have p2 := hP.st.c2
    have hb1 := hP.bl
    have n1 : ¬ b = w1.heap.size := by omega
    clear hn hP
    generalize s.e = e0 at *
    refine ld ?_
    go_wp2_with ((go_at_call 64; refine (HF.out _ (galloc hg1 _)).mono ?_; rintro e w2 ⟨rfl, hP2, hg2⟩))
    go_ret
    exact ⟨by first | rfl | trivial, hP2, (grown_some (galloc hg1 _) b).trans hg2⟩
  | false =>
   have b0 := bne_f h0
   clear hq h0
   go_enter Tryz.func162, Tryz.ntmps162
   go_wp2_with (go_at_call 62; refine hn.mono ?_; rintro e w1 ⟨rfl, hg1⟩; refine Hid.out ?_)
   have hP := HH.out.kept hg1
   have p2 := hP.st.c2
   have hb1 := hP.bl
   have n1 : ¬ b = w1.heap.size := by omega
   clear hn hP
   generalize s.e = e0 at *
   refine ld ?_
   go_wp2_with ((go_at_call 64; refine (HF.out _ (galloc hg1 _)).mono ?_; rintro e w2 ⟨rfl, hP2, hg2⟩))
   go_ret
   exact ⟨by first | rfl | trivial, hP2, (grown_some (galloc hg1 _) b).trans hg2⟩
theorem rfull_no (n most : Int) (hn : n < most) (w : World) : Calls Tryz.prog 65 #[.pointer (some ⟨b, 0, none⟩), .int .i64 n, .int .i64 most] w fun e w' => e = .returned (.bool false) ∧ w' = w := by
 go_enter Tryz.func65, Tryz.ntmps65
 go_wp2
 go_ret
 exact ⟨rfl, rfl⟩
theorem rfull_yes (n most : Int) (hn : most ≤ n) (w : World) (h : Rp w b g cap T s) : Calls Tryz.prog 65 #[.pointer (some ⟨b, 0, none⟩), .int .i64 n, .int .i64 most] w fun e w' => e = .returned (.bool true) ∧ Rp w' b g cap T (Gram.Rf.fail T 2 s) ∧ w.grownBy w' (some b) := by
 have HF := ld (rfail_any b g cap T s 2 w h)
 clear h
 go_enter Tryz.func65, Tryz.ntmps65
 go_wp2_with (go_at_call 64; refine HF.out.mono ?_; rintro e w2 ⟨rfl, hP2, hg2⟩)
 go_ret
 exact ⟨by first | rfl | trivial, hP2, hg2⟩
theorem ropened_w {w : World} {b g cap : Nat} {T : List Lex.Tk} {s : Gram.Rf.St} (h : Rp w b g cap T s) (v : Int) :
  Rp (w.setCell ⟨b, 4, none⟩ (.int .i64 v)) b g cap T { s with n := v } ∧ w.grownBy (w.setCell ⟨b, 4, none⟩ (.int .i64 v)) (some b) := by
 have g3 := rset (World.grownBy.refl w (some b)) 4 (.int .i64 v)
 exact ⟨h.to g3 (h.st.setN v) h.lt, g3⟩
theorem ropen_yes (hn : ¬ 40 < (Gram.Rf.opened s).n) (w : World) (h : Rp w b g cap T s) : Calls Tryz.prog 172 #[.pointer (some ⟨b, 0, none⟩)] w fun e w' => e = .returned (.bool true) ∧ Rp w' b g cap T (Gram.Rf.opened s) ∧ w.grownBy w' (some b) := by
 have p4 := h.st.c4
 have f4 := h.st.fr 4
 have HK := ld (ropened_w h (wrap64 (s.n + 1)))
 have hd : decide (40 < wrap64 (s.n + 1)) = false := by rw [decide_eq_false_iff_not]; exact hn
 have HE : Hid (Gram.Rf.opened s = { s with n := wrap64 (s.n + 1) }) := ld rfl
 rw [HE.out]
 clear h hn HE
 generalize s.n = n at p4 hd HK
 generalize hv : wrap64 (n + 1) = v at hd HK
 go_enter Tryz.func172, Tryz.ntmps172
 go_wp2
 go_ret
 exact ⟨by first | rfl | trivial, HK.out.1, HK.out.2⟩
theorem ropen_no (hn : 40 < (Gram.Rf.opened s).n) (w : World) (h : Rp w b g cap T s) : Calls Tryz.prog 172 #[.pointer (some ⟨b, 0, none⟩)] w fun e w' => e = .returned (.bool false) ∧ Rp w' b g cap T (Gram.Rf.fail T 2 (Gram.Rf.opened s)) ∧ w.grownBy w' (some b) := by
 have p4 := h.st.c4
 have f4 := h.st.fr 4
 have HK := ropened_w h (wrap64 (s.n + 1))
 have HF := ld (rfail_any b g cap T (Gram.Rf.opened s) 2 _ HK.1)
 have HG := ld HK.2
 have hd : decide (40 < wrap64 (s.n + 1)) = true := by rw [decide_eq_true_iff]; exact hn
 clear h hn HK
 generalize Gram.Rf.fail T 2 (Gram.Rf.opened s) = s' at *
 generalize s.n = n at *
 generalize hv : wrap64 (n + 1) = v at *
 go_enter Tryz.func172, Tryz.ntmps172
 go_wp2_with (go_at_call 64; refine HF.out.mono ?_; rintro e w2 ⟨rfl, hP2, hg2⟩)
 go_ret
 exact ⟨by first | rfl | trivial, hP2, HG.out.trans hg2⟩
end
inductive D where
 | c (v : Value)
 | l (e : TypeId) (sz : Nat) (rows : List (List D))
mutual
inductive RepC (w : World) (B : Nat) (E : List Nat) : D → Value → Prop
 | c (v : Value) : RepC w B E (.c v) v
 | l {e : TypeId} {sz : Nat} {rows : List (List D)} {v : Value} {xs : List Value} : w.ownsRow B e sz v rows.length xs → (∀ k ∈ E, v.ownBlock ≠ some k) → RepRow w B E rows.flatten xs → RepC w B E (.l e sz rows) v
inductive RepRow (w : World) (B : Nat) (E : List Nat) : List D → List Value → Prop
 | nil : RepRow w B E [] []
 | cons {d : D} {v : Value} {ds : List D} {vs : List Value} : RepC w B E d v → RepRow w B E ds vs → RepRow w B E (d :: ds) (v :: vs)
end
mutual
theorem RepC.keptX {w w' : World} {B : Nat} {E : List Nat} {row : Option Nat} (hg : w.grownBy w' row) (hr : ∀ k, row = some k → k < B ∨ k ∈ E) : ∀ {d : D} {v : Value}, RepC w B E d v → RepC w' B E d v
 | _, _, .c v => .c v
 | _, v, .l ho hE h => .l (ho.kept hg (by
  cases hv : v.ownBlock with
  | none => exact .inl rfl
  | some k => exact .inr (fun e => by
   rcases hr k e.symm with h2 | h2
   ·have h1 := (ho.lt k hv).1; omega
   ·exact hE k h2 hv))) hE (RepRow.keptX hg hr h)
theorem RepRow.keptX {w w' : World} {B : Nat} {E : List Nat} {row : Option Nat} (hg : w.grownBy w' row) (hr : ∀ k, row = some k → k < B ∨ k ∈ E) : ∀ {ds : List D} {vs : List Value}, RepRow w B E ds vs → RepRow w' B E ds vs
 | _, _, .nil => .nil
 | _, _, .cons h t => .cons (RepC.keptX hg hr h) (RepRow.keptX hg hr t)
end
theorem RepC.kept {w w' : World} {B : Nat} {E : List Nat} {row : Option Nat} (hg : w.grownBy w' row) (hr : ∀ k, row = some k → k < B) {d : D} {v : Value} (h : RepC w B E d v) : RepC w' B E d v := RepC.keptX hg (fun k e => .inl (hr k e)) h
mutual
theorem RepC.mono {w : World} {B B' : Nat} {E : List Nat} (hB : B' ≤ B) : ∀ {d : D} {v : Value}, RepC w B E d v → RepC w B' E d v
 | _, _, .c v => .c v
 | _, _, .l ho hE h => .l (ho.mono hB) hE (RepRow.mono hB h)
theorem RepRow.mono {w : World} {B B' : Nat} {E : List Nat} (hB : B' ≤ B) : ∀ {ds : List D} {vs : List Value}, RepRow w B E ds vs → RepRow w B' E ds vs
 | _, _, .nil => .nil
 | _, _, .cons h t => .cons (RepC.mono hB h) (RepRow.mono hB t)
end
mutual
theorem RepC.noX {w : World} {B : Nat} {E : List Nat} : ∀ {d : D} {v : Value}, RepC w B E d v → RepC w B [] d v
 | _, _, .c v => .c v
 | _, _, .l ho _ h => .l ho (fun _ e => by cases e) (RepRow.noX h)
theorem RepRow.noX {w : World} {B : Nat} {E : List Nat} : ∀ {ds : List D} {vs : List Value}, RepRow w B E ds vs → RepRow w B [] ds vs
 | _, _, .nil => .nil
 | _, _, .cons h t => .cons (RepC.noX h) (RepRow.noX t)
end
mutual
theorem RepC.toX {w : World} {B : Nat} (E : List Nat) (hE : ∀ k ∈ E, w.heap.size ≤ k ∨ k < B) : ∀ {d : D} {v : Value}, RepC w B [] d v → RepC w B E d v
 | _, _, .c v => .c v
 | _, _, .l ho _ h => .l ho (fun k e hv => by have h1 := hE k e; have h2 := ho.lt _ hv; omega) (RepRow.toX E hE h)
theorem RepRow.toX {w : World} {B : Nat} (E : List Nat) (hE : ∀ k ∈ E, w.heap.size ≤ k ∨ k < B) : ∀ {ds : List D} {vs : List Value}, RepRow w B [] ds vs → RepRow w B E ds vs
 | _, _, .nil => .nil
 | _, _, .cons h t => .cons (RepC.toX E hE h) (RepRow.toX E hE t)
end
theorem RepRow.append {w : World} {B : Nat} {E : List Nat} : ∀ {ds : List D} {vs : List Value} {es : List D} {us : List Value}, RepRow w B E ds vs → RepRow w B E es us → RepRow w B E (ds ++ es) (vs ++ us)
 | _, _, _, _, .nil, h => h
 | _, _, _, _, .cons a t, h => .cons a (RepRow.append t h)
theorem RepC.nil (w : World) (B : Nat) (E : List Nat) (e : TypeId) (sz : Nat) : RepC w B E (.l e sz []) (.slice none 0 0) := .l (World.ownsRow_nil w B e sz) (fun _ _ h => by simp [Value.ownBlock] at h) .nil
theorem owns_new {w : World} {B : Nat} (e : TypeId) (sz n : Nat) (cs : List Value) (hB : B ≤ w.heap.size) (hl : cs.length = n * sz) (hn : n ≤ maxLen) : (w.alloc (.cells cs.toArray e)).ownsRow B e sz (.slice (some ⟨w.heap.size, 0, none⟩) n n) n cs :=
 ⟨hl, .inr ⟨w.heap.size, n, cs.toArray, rfl, hB, heap_alloc_new w _, Nat.le_refl _, hn, by simpa using hl, by rw [← hl]; simp⟩⟩
mutual
def expD : Gram.Exp → List D
 | .mk f s nm tk tl n m ks a => [.c (.int .i64 f), .c (.int .i64 s), .c (.string ⟨nm.toArray⟩), .c (.int .i64 tk), .c (.int .i64 tl), .c (.int .i64 n), .c (.int .i64 m), .l 85 9 (expsD ks), .c (.int .i64 a)]
def expsD : List Gram.Exp → List (List D)
 | [] => []
 | e :: r => expD e :: expsD r
end
theorem expsD_append : ∀ (l m : List Gram.Exp), expsD (l ++ m) = expsD l ++ expsD m
 | [], _ => by simp [expsD]
 | e :: r, m => by simp [expsD, expsD_append r m]
theorem expsD_len : ∀ l : List Gram.Exp, (expsD l).length = l.length
 | [] => rfl
 | e :: r => by simp [expsD, expsD_len r]
def expV (x : Gram.Exp) (k : Value) : Value :=
 match x with
 | .mk f s nm tk tl n m _ a => .agg #[.int .i64 f, .int .i64 s, .string ⟨nm.toArray⟩, .int .i64 tk, .int .i64 tl, .int .i64 n, .int .i64 m, k, .int .i64 a]
def Kids (w : World) (B : Nat) (l : List Gram.Exp) (k : Value) : Prop := RepC w B [] (.l 85 9 (expsD l)) k
def KidsX (w : World) (B : Nat) (E : List Nat) (l : List Gram.Exp) (k : Value) : Prop := RepC w B E (.l 85 9 (expsD l)) k
theorem Kids.kept {w w' : World} {B : Nat} {l : List Gram.Exp} {k : Value} {b : Nat} (h : Kids w B l k) (hg : w.grownBy w' (some b)) (hb : b < B) : Kids w' B l k := RepC.kept hg (fun k e => by cases e; exact hb) h
theorem Kids.kept0 {w w' : World} {B : Nat} {l : List Gram.Exp} {k : Value} (h : Kids w B l k) (hg : w.grownBy w' none) : Kids w' B l k := RepC.kept hg (fun k e => by cases e) h
theorem Kids.mono {w : World} {B B' : Nat} {l : List Gram.Exp} {k : Value} (h : Kids w B l k) (hB : B' ≤ B) : Kids w B' l k := RepC.mono hB h
theorem Kids.nil (w : World) (B : Nat) : Kids w B [] (.slice none 0 0) := RepC.nil w B _ _ _
def expCells (x : Gram.Exp) (k : Value) : List Value :=
 match x with
 | .mk f s nm tk tl n m _ a => [.int .i64 f, .int .i64 s, .string ⟨nm.toArray⟩, .int .i64 tk, .int .i64 tl, .int .i64 n, .int .i64 m, k, .int .i64 a]
theorem exp_row {w : World} {B : Nat} {E : List Nat} {x : Gram.Exp} {k : Value} (h : KidsX w B E x.kids k) : RepRow w B E (expD x) (expCells x k) := by
 cases x with
 | mk f s nm tk tl n m ks a =>
  simp only [expD, expCells]
  exact .cons (.c _) (.cons (.c _) (.cons (.c _) (.cons (.c _) (.cons (.c _) (.cons (.c _) (.cons (.c _) (.cons h (.cons (.c _) .nil))))))))
theorem KidsX.two {w : World} {B : Nat} {E : List Nat} {x y : Gram.Exp} {k l v : Value} (ho : w.ownsRow B 85 9 v 2 (expCells x k ++ expCells y l)) (hE : ∀ k ∈ E, v.ownBlock ≠ some k) (h : KidsX w B E x.kids k) (h2 : KidsX w B E y.kids l) : KidsX w B E [x, y] v := by
 refine .l (xs := expCells x k ++ expCells y l) (by simpa [expsD] using ho) hE ?_
 simpa [expsD] using (exp_row h).append (exp_row h2)
def exp0 : Obj := .cells #[.int .i64 0, .int .i64 0, .string ⟨#[]⟩, .int .i64 0, .int .i64 0, .int .i64 0, .int .i64 0, .slice none 0 0, .int .i64 0] 85
open Go.RowKit Go.Maps Go.WideMaps
structure Nc (w : World) (g : Nat) (x0 x1 x2 x3 x4 x5 x6 x7 x8 : Value) : Prop where
 c0 : w.cell? ⟨g, 0, none⟩ = some x0
 c1 : w.cell? ⟨g, 1, none⟩ = some x1
 c2 : w.cell? ⟨g, 2, none⟩ = some x2
 c3 : w.cell? ⟨g, 3, none⟩ = some x3
 c4 : w.cell? ⟨g, 4, none⟩ = some x4
 c5 : w.cell? ⟨g, 5, none⟩ = some x5
 c6 : w.cell? ⟨g, 6, none⟩ = some x6
 c7 : w.cell? ⟨g, 7, none⟩ = some x7
 c8 : w.cell? ⟨g, 8, none⟩ = some x8
 f : ∀ j, w.frozen? ⟨g, j, none⟩ = false
theorem Nc.of {w : World} {g : Nat} {x0 x1 x2 x3 x4 x5 x6 x7 x8 : Value} (h : w.heap[g]? = some (.cells #[x0, x1, x2, x3, x4, x5, x6, x7, x8] 85 (0, 0))) : Nc w g x0 x1 x2 x3 x4 x5 x6 x7 x8 := by
 constructor
 case f => exact fun j => frozen_of_row w g j _ _ h
 all_goals (rw [cell_of_row w g _ _ _ _ h]; simp)
theorem Kids.form {w : World} {B : Nat} {l : List Gram.Exp} {k : Value} (h : Kids w B l k) : ∃ a n c, k = .slice a n c := by
 unfold Kids at h
 cases h with
 | l ho _ _ =>
  rcases ho.2 with ⟨rfl, _⟩ | ⟨g, cap, cur, rfl, _⟩
  ·exact ⟨_, _, _, rfl⟩
  ·exact ⟨_, _, _, rfl⟩
section
variable (b g cap : Nat) (rv : Value) (T : List Lex.Tk)
end
theorem heap_at2 (w : World) (A X R S : Obj) : ((((w.alloc A).alloc X).alloc R).alloc S).heap[w.heap.size + 1 + 1]? = some R := by
 have h := heap_alloc2_old ((w.alloc A).alloc X) R S
 rw [World.size_alloc, World.size_alloc] at h
 exact h
theorem owns_at3 (w : World) (A X R : Obj) {B : Nat} (e : TypeId) (sz n : Nat) (cs : List Value) (hB : B ≤ w.heap.size) (hl : cs.length = n * sz) (hn : n ≤ maxLen) :
  ((((w.alloc A).alloc X).alloc R).alloc (.cells cs.toArray e)).ownsRow B e sz (.slice (some ⟨w.heap.size + 1 + 1 + 1, 0, none⟩) n n) n cs := by
 have h := owns_new (w := ((w.alloc A).alloc X).alloc R) (B := B) e sz n cs (by simp only [World.size_alloc]; omega) hl hn
 rw [World.size_alloc, World.size_alloc, World.size_alloc] at h
 exact h
theorem rtwoX_any (fm sb : Int) (x y : Gram.Exp) (k l : Value) (B : Nat) (E : List Nat) (w : World) (hB : B ≤ w.heap.size) (hE : ∀ k ∈ E, k < w.heap.size) (hx : KidsX w B E x.kids k) (hy : KidsX w B E y.kids l) :
  Calls Tryz.prog 175 #[.int .i64 fm, .int .i64 sb, expV x k, expV y l] w fun e w' => (∃ v, e = .returned (expV (Gram.Rf.two fm sb x y) v) ∧ KidsX w' B E [x, y] v) ∧ w.grownBy w' none := by
 have hx0 := hx
 have hy0 := hy
 clear hx hy
 unfold Gram.Rf.two
 cases x with
 | mk f1 s1 nm1 tk1 tl1 n1 m1 ks1 a1 =>
 cases y with
 | mk f2 s2 nm2 tk2 tl2 n2 m2 ks2 a2 =>
 have HX := ld hx0
 have HY := ld hy0
 clear hx0 hy0
 unfold expV
 simp only [Gram.Exp.at_]
 go_enter Tryz.func175, Tryz.ntmps175
 go_wp2
 refine bodyPost_ret (results_cell_row rfl _ _ (w.heap.size + 1 + 1) 85 _ (0, 0) _ rfl (heap_at2 _ _ _ _ _) Tryz.underlying85 rfl (by kernel_rfl)) rfl ?_
 have hg := fun A X R S => galloc (galloc (galloc (ga w A none) X) R) S
 refine ⟨⟨_, rfl, KidsX.two (owns_at3 w _ _ _ 85 9 2 (expCells (.mk f1 s1 nm1 tk1 tl1 n1 m1 ks1 a1) k ++ expCells (.mk f2 s2 nm2 tk2 tl2 n2 m2 ks2 a2) l) hB rfl (by unfold maxLen; omega)) (fun k e hv => by have := hE k e; simp [Value.ownBlock] at hv; omega) (RepC.kept (hg _ _ _ _) (fun k e => by cases e) HX.out) (RepC.kept (hg _ _ _ _) (fun k e => by cases e) HY.out)⟩, hg _ _ _ _⟩
theorem rtwo_any (fm sb : Int) (x y : Gram.Exp) (k l : Value) (B : Nat) (w : World) (hB : B ≤ w.heap.size) (hx : Kids w B x.kids k) (hy : Kids w B y.kids l) :
  Calls Tryz.prog 175 #[.int .i64 fm, .int .i64 sb, expV x k, expV y l] w fun e w' => (∃ v, e = .returned (expV (Gram.Rf.two fm sb x y) v) ∧ Kids w' B [x, y] v) ∧ w.grownBy w' none :=
 rtwoX_any fm sb x y k l B [] w hB (fun _ e => by cases e) hx hy
def rePost (w : World) (b g cap : Nat) (T : List Lex.Tk) (r : Option (Gram.Exp × Gram.Rf.St)) (e : Ending) (w' : World) : Prop :=
 match r with
 | some x => ∃ k, e = .returned (expV x.1 k) ∧ Kids w' w.heap.size x.1.kids k ∧ Rp w' b g cap T x.2 ∧ w.grownBy w' (some b)
 | none => False
def CRex (b g cap : Nat) (T : List Lex.Tk) (m : Nat) (F : Gram.Rf.St → Option (Gram.Exp × Gram.Rf.St)) : Prop :=
 ∀ (s : Gram.Rf.St) (w : World), Rp w b g cap T s → (F s).isSome = true → Calls Tryz.prog m #[.pointer (some ⟨b, 0, none⟩)] w fun e w' => rePost w b g cap T (F s) e w'
def CLev (b g cap : Nat) (T : List Lex.Tk) (f : Nat) : Prop :=
 ∀ (n : Nat) (s : Gram.Rf.St) (w : World), n ≤ 8 → Rp w b g cap T s → (Gram.Rf.level T f n s).isSome = true → Calls Tryz.prog 177 #[.pointer (some ⟨b, 0, none⟩), .int .i64 (n : Int)] w fun e w' => rePost w b g cap T (Gram.Rf.level T f n s) e w'
section
variable (b g cap : Nat) (T : List Lex.Tk)
theorem rarrow_step (f : Nat) (h1 : CRex b g cap T 174 (Gram.Rf.fby T f)) (h2 : CRex b g cap T 173 (Gram.Rf.arrow T f)) : CRex b g cap T 173 (Gram.Rf.arrow T (f + 1)) := by
 intro s w h hf
 have hP0 := h.alloc exp0
 have hbw := h.bl
 rw [Gram.Rf.arrow] at hf ⊢
 have hc := h1 s _ hP0
 cases hr1 : (Gram.Rf.fby T f) s with
 | none => rw [hr1] at hf; cases hf
 | some r =>
  obtain ⟨x, s1⟩ := r
  rw [hr1] at hf hc
  have hc2 := hc rfl
  simp only [Gram.Rf.bindS] at hf ⊢
  clear hc hr1
  simp only [rePost] at hc2
  cases x with
  | mk f1 s1' nm1 tk1 tl1 n1 m1 ks1 a1 =>
  simp only [expV] at hc2
  have HH := ld h
  clear h hP0
  cases hsg : Gram.Rf.is T [45, 62] s1 with
  | false =>
   rw [if_neg (by decide)]
   go_enter Tryz.func173, Tryz.ntmps173
   go_wp2_with (go_at_call 174; refine hc2.mono ?_; rintro e w1 ⟨k1, rfl, hk1, hP1, hg1⟩; refine Hid.out ?_)
   obtain ⟨ka, kn, kc, rfl⟩ := hk1.form
   have hPs := hP1.alloc (.cells #[.int .i64 f1, .int .i64 s1', .string ⟨nm1.toArray⟩, .int .i64 tk1, .int .i64 tl1, .int .i64 n1, .int .i64 m1, .slice ka kn kc, .int .i64 a1] 85)
   have hS := rmaybe_any b g cap T s1 ⟨#[45, 62]⟩ _ hPs
   have hs1 := hg1.size
   rw [World.size_alloc] at hs1
   have hbl : b < w1.heap.size := hP1.bl
   unfold Gram.Rf.maybe at hS
   rw [show ((⟨#[45, 62]⟩ : ByteArray)).data.toList = [45, 62] from rfl] at hS
   rw [hsg, if_neg (by decide)] at hS
   clear hf
   refine ld ?_
   go_wp2_with (go_at_call 102; refine hS.mono ?_; rintro e w2 ⟨rfl, hP2, hg2⟩; refine Hid.out ?_)
   have hgW : (w.alloc exp0).grownBy w2 (some b) := (galloc hg1 _).trans hg2
   obtain ⟨c0, c1, c2, c3, c4, c5, c6, c7, c8, cf⟩ := Nc.of ((hg2.block w1.heap.size (by simp) (by simp; omega)).trans (heap_alloc_new w1 _))
   have hlt2 : w1.heap.size < w2.heap.size := by have := hg2.size; rw [World.size_alloc] at this; omega
   refine ld ?_
   go_wp2_with (with_reducible refine hold_st 2 ?_)
   refine sg ((hgW.block w.heap.size (by simp) (by simp; omega)).trans (heap_alloc_new w exp0)) ?_
   intro w4 hh4 hg4
   go_wp2
   (try simp only [Exit.inBlock, Exit.then])
   refine br hh4 Tryz.underlying85 ?_
   have hgA : w1.grownBy w2 (some b) := (grown_some (ga w1 _ none) b).trans hg2
   have hG : w.grownBy w4 (some b) := ((grown_some (ga w exp0 none) b).trans hgW).andThen hg4 (fun j e => .inl (by cases e; exact Nat.le_refl _))
   exact ⟨_, rfl, ((hk1.kept hgA (by simp; omega)).kept hg4 (by simp)).mono (by simp), HH.out.to hG (hP2.st.kept hg4 (by simp; omega)) hP2.lt, hG⟩
  | true =>
   rw [hsg] at hf
   rw [if_pos rfl] at hf ⊢
   cases hr2 : Gram.Rf.arrow T f (Gram.Rf.adv s1) with
   | none => rw [hr2] at hf; cases hf
   | some r2 =>
    obtain ⟨y, s2⟩ := r2
    simp only
    cases y with
    | mk f2 s2' nm2 tk2 tl2 n2 m2 ks2 a2 =>
    clear hf
    go_enter Tryz.func173, Tryz.ntmps173
    go_wp2_with (go_at_call 174; refine hc2.mono ?_; rintro e w1 ⟨k1, rfl, hk1, hP1, hg1⟩; refine Hid.out ?_)
    obtain ⟨ka, kn, kc, rfl⟩ := hk1.form
    have hPs := hP1.alloc (.cells #[.int .i64 f1, .int .i64 s1', .string ⟨nm1.toArray⟩, .int .i64 tk1, .int .i64 tl1, .int .i64 n1, .int .i64 m1, .slice ka kn kc, .int .i64 a1] 85)
    have hS := rmaybe_any b g cap T s1 ⟨#[45, 62]⟩ _ hPs
    have hs1 := hg1.size
    rw [World.size_alloc] at hs1
    have hbl : b < w1.heap.size := hP1.bl
    unfold Gram.Rf.maybe at hS
    rw [show ((⟨#[45, 62]⟩ : ByteArray)).data.toList = [45, 62] from rfl] at hS
    rw [hsg, if_pos rfl] at hS
    refine ld ?_
    go_wp2_with (go_at_call 102; refine hS.mono ?_; rintro e w2 ⟨rfl, hP2, hg2⟩; refine Hid.out ?_)
    have hgW : (w.alloc exp0).grownBy w2 (some b) := (galloc hg1 _).trans hg2
    have hgA : w1.grownBy w2 (some b) := (grown_some (ga w1 _ none) b).trans hg2
    have hlt2 : w1.heap.size < w2.heap.size := by have := hg2.size; rw [World.size_alloc] at this; omega
    have hc3 := h2 _ w2 hP2
    rw [hr2] at hc3
    have hc4 := hc3 rfl
    simp only [rePost, expV] at hc4
    clear hc3
    have hb1 := (hg2.block w1.heap.size (by simp) (by simp; omega)).trans (heap_alloc_new w1 _)
    refine ld ?_
    go_wp2_with (go_at_call 173; refine hc4.mono ?_; rintro e w3 ⟨k2, rfl, hk2, hP3, hg3⟩; refine Hid.out ?_)
    obtain ⟨la, ln, lc, rfl⟩ := hk2.form
    have hs3 := hg3.size
    obtain ⟨c0, c1, c2, c3, c4, c5, c6, c7, c8, cf⟩ := Nc.of (((ga w3 (.cells #[.int .i64 f2, .int .i64 s2', .string ⟨nm2.toArray⟩, .int .i64 tk2, .int .i64 tl2, .int .i64 n2, .int .i64 m2, .slice la ln lc, .int .i64 a2] 85) none).block w1.heap.size (by omega) (by simp)).trans ((hg3.block w1.heap.size (by omega) (by simp; omega)).trans hb1))
    have n13 : ¬ w1.heap.size = w3.heap.size := by omega
    have hgB : w1.grownBy (w3.alloc (.cells #[.int .i64 f2, .int .i64 s2', .string ⟨nm2.toArray⟩, .int .i64 tk2, .int .i64 tl2, .int .i64 n2, .int .i64 m2, .slice la ln lc, .int .i64 a2] 85)) (some b) := galloc (hgA.trans hg3) _
    have hkx : Kids (w3.alloc (.cells #[.int .i64 f2, .int .i64 s2', .string ⟨nm2.toArray⟩, .int .i64 tk2, .int .i64 tl2, .int .i64 n2, .int .i64 m2, .slice la ln lc, .int .i64 a2] 85)) (w.alloc exp0).heap.size (Gram.Exp.mk f1 s1' nm1 tk1 tl1 n1 m1 ks1 a1).kids (.slice ka kn kc) := hk1.kept hgB (by simp; omega)
    have hky : Kids (w3.alloc (.cells #[.int .i64 f2, .int .i64 s2', .string ⟨nm2.toArray⟩, .int .i64 tk2, .int .i64 tl2, .int .i64 n2, .int .i64 m2, .slice la ln lc, .int .i64 a2] 85)) (w.alloc exp0).heap.size (Gram.Exp.mk f2 s2' nm2 tk2 tl2 n2 m2 ks2 a2).kids (.slice la ln lc) := (hk2.kept0 (ga w3 _ none)).mono (by simp; omega)
    have hTw := rtwo_any 7 0 _ _ _ _ (w.alloc exp0).heap.size (w3.alloc (.cells #[.int .i64 f2, .int .i64 s2', .string ⟨nm2.toArray⟩, .int .i64 tk2, .int .i64 tl2, .int .i64 n2, .int .i64 m2, .slice la ln lc, .int .i64 a2] 85)) (by simp; omega) hkx hky
    simp only [expV, Gram.Rf.two] at hTw
    clear hkx hky
    refine ld ?_
    go_wp2_with (first | (go_at_call 175; refine hTw.mono ?_; rintro e w5 ⟨⟨v, rfl, hkv⟩, hg5⟩; refine Hid.out ?_))
    obtain ⟨va, vn, vc, rfl⟩ := hkv.form
    have hgC : (w.alloc exp0).grownBy w5 (some b) := (galloc (hgW.trans hg3) (.cells #[.int .i64 f2, .int .i64 s2', .string ⟨nm2.toArray⟩, .int .i64 tk2, .int .i64 tl2, .int .i64 n2, .int .i64 m2, .slice la ln lc, .int .i64 a2] 85)).trans (grown_some hg5 b)
    refine ld ?_
    go_wp2_with (with_reducible refine hold_st 2 ?_)
    refine sg ((hgC.block w.heap.size (by simp) (by simp; omega)).trans (heap_alloc_new w exp0)) ?_
    intro w6 hh6 hg6
    go_wp2
    (try simp only [Exit.inBlock, Exit.then])
    refine br hh6 Tryz.underlying85 ?_
    have hG : w.grownBy w6 (some b) := ((grown_some (ga w exp0 none) b).trans hgC).andThen hg6 (fun j e => .inl (by cases e; exact Nat.le_refl _))
    exact ⟨_, rfl, (hkv.kept hg6 (by simp)).mono (by simp), HH.out.to hG (((hP3.alloc (.cells #[.int .i64 f2, .int .i64 s2', .string ⟨nm2.toArray⟩, .int .i64 tk2, .int .i64 tl2, .int .i64 n2, .int .i64 m2, .slice la ln lc, .int .i64 a2] 85)).kept hg5).st.kept hg6 (by simp; omega)) hP3.lt, hG⟩
end
section
variable (b g cap : Nat) (T : List Lex.Tk)
theorem rfby_step (f : Nat) (h1 : CRex b g cap T 176 (Gram.Rf.imp T f)) (h2 : CRex b g cap T 174 (Gram.Rf.fby T f)) : CRex b g cap T 174 (Gram.Rf.fby T (f + 1)) := by
 intro s w h hf
 have hP0 := h.alloc exp0
 have hbw := h.bl
 rw [Gram.Rf.fby] at hf ⊢
 have hc := h1 s _ hP0
 cases hr1 : (Gram.Rf.imp T f) s with
 | none => rw [hr1] at hf; cases hf
 | some r =>
  obtain ⟨x, s1⟩ := r
  rw [hr1] at hf hc
  have hc2 := hc rfl
  simp only [Gram.Rf.bindS] at hf ⊢
  clear hc hr1
  simp only [rePost] at hc2
  cases x with
  | mk f1 s1' nm1 tk1 tl1 n1 m1 ks1 a1 =>
  simp only [expV] at hc2
  have HH := ld h
  clear h hP0
  cases hsg : Gram.Rf.is T [102, 98, 121] s1 with
  | false =>
   rw [if_neg (by decide)]
   go_enter Tryz.func174, Tryz.ntmps174
   go_wp2_with (go_at_call 176; refine hc2.mono ?_; rintro e w1 ⟨k1, rfl, hk1, hP1, hg1⟩; refine Hid.out ?_)
   obtain ⟨ka, kn, kc, rfl⟩ := hk1.form
   have hPs := hP1.alloc (.cells #[.int .i64 f1, .int .i64 s1', .string ⟨nm1.toArray⟩, .int .i64 tk1, .int .i64 tl1, .int .i64 n1, .int .i64 m1, .slice ka kn kc, .int .i64 a1] 85)
   have hS := rmaybe_any b g cap T s1 ⟨#[102, 98, 121]⟩ _ hPs
   have hs1 := hg1.size
   rw [World.size_alloc] at hs1
   have hbl : b < w1.heap.size := hP1.bl
   unfold Gram.Rf.maybe at hS
   rw [show ((⟨#[102, 98, 121]⟩ : ByteArray)).data.toList = [102, 98, 121] from rfl] at hS
   rw [hsg, if_neg (by decide)] at hS
   clear hf
   refine ld ?_
   go_wp2_with (go_at_call 102; refine hS.mono ?_; rintro e w2 ⟨rfl, hP2, hg2⟩; refine Hid.out ?_)
   have hgW : (w.alloc exp0).grownBy w2 (some b) := (galloc hg1 _).trans hg2
   obtain ⟨c0, c1, c2, c3, c4, c5, c6, c7, c8, cf⟩ := Nc.of ((hg2.block w1.heap.size (by simp) (by simp; omega)).trans (heap_alloc_new w1 _))
   have hlt2 : w1.heap.size < w2.heap.size := by have := hg2.size; rw [World.size_alloc] at this; omega
   refine ld ?_
   go_wp2_with (with_reducible refine hold_st 2 ?_)
   refine sg ((hgW.block w.heap.size (by simp) (by simp; omega)).trans (heap_alloc_new w exp0)) ?_
   intro w4 hh4 hg4
   go_wp2
   (try simp only [Exit.inBlock, Exit.then])
   refine br hh4 Tryz.underlying85 ?_
   have hgA : w1.grownBy w2 (some b) := (grown_some (ga w1 _ none) b).trans hg2
   have hG : w.grownBy w4 (some b) := ((grown_some (ga w exp0 none) b).trans hgW).andThen hg4 (fun j e => .inl (by cases e; exact Nat.le_refl _))
   exact ⟨_, rfl, ((hk1.kept hgA (by simp; omega)).kept hg4 (by simp)).mono (by simp), HH.out.to hG (hP2.st.kept hg4 (by simp; omega)) hP2.lt, hG⟩
  | true =>
   rw [hsg] at hf
   rw [if_pos rfl] at hf ⊢
   cases hr2 : Gram.Rf.fby T f (Gram.Rf.adv s1) with
   | none => rw [hr2] at hf; cases hf
   | some r2 =>
    obtain ⟨y, s2⟩ := r2
    simp only
    cases y with
    | mk f2 s2' nm2 tk2 tl2 n2 m2 ks2 a2 =>
    clear hf
    go_enter Tryz.func174, Tryz.ntmps174
    go_wp2_with (go_at_call 176; refine hc2.mono ?_; rintro e w1 ⟨k1, rfl, hk1, hP1, hg1⟩; refine Hid.out ?_)
    obtain ⟨ka, kn, kc, rfl⟩ := hk1.form
    have hPs := hP1.alloc (.cells #[.int .i64 f1, .int .i64 s1', .string ⟨nm1.toArray⟩, .int .i64 tk1, .int .i64 tl1, .int .i64 n1, .int .i64 m1, .slice ka kn kc, .int .i64 a1] 85)
    have hS := rmaybe_any b g cap T s1 ⟨#[102, 98, 121]⟩ _ hPs
    have hs1 := hg1.size
    rw [World.size_alloc] at hs1
    have hbl : b < w1.heap.size := hP1.bl
    unfold Gram.Rf.maybe at hS
    rw [show ((⟨#[102, 98, 121]⟩ : ByteArray)).data.toList = [102, 98, 121] from rfl] at hS
    rw [hsg, if_pos rfl] at hS
    refine ld ?_
    go_wp2_with (go_at_call 102; refine hS.mono ?_; rintro e w2 ⟨rfl, hP2, hg2⟩; refine Hid.out ?_)
    have hgW : (w.alloc exp0).grownBy w2 (some b) := (galloc hg1 _).trans hg2
    have hgA : w1.grownBy w2 (some b) := (grown_some (ga w1 _ none) b).trans hg2
    have hlt2 : w1.heap.size < w2.heap.size := by have := hg2.size; rw [World.size_alloc] at this; omega
    have hc3 := h2 _ w2 hP2
    rw [hr2] at hc3
    have hc4 := hc3 rfl
    simp only [rePost, expV] at hc4
    clear hc3
    have hb1 := (hg2.block w1.heap.size (by simp) (by simp; omega)).trans (heap_alloc_new w1 _)
    refine ld ?_
    go_wp2_with (go_at_call 174; refine hc4.mono ?_; rintro e w3 ⟨k2, rfl, hk2, hP3, hg3⟩; refine Hid.out ?_)
    obtain ⟨la, ln, lc, rfl⟩ := hk2.form
    have hs3 := hg3.size
    obtain ⟨c0, c1, c2, c3, c4, c5, c6, c7, c8, cf⟩ := Nc.of (((ga w3 (.cells #[.int .i64 f2, .int .i64 s2', .string ⟨nm2.toArray⟩, .int .i64 tk2, .int .i64 tl2, .int .i64 n2, .int .i64 m2, .slice la ln lc, .int .i64 a2] 85) none).block w1.heap.size (by omega) (by simp)).trans ((hg3.block w1.heap.size (by omega) (by simp; omega)).trans hb1))
    have n13 : ¬ w1.heap.size = w3.heap.size := by omega
    have hgB : w1.grownBy (w3.alloc (.cells #[.int .i64 f2, .int .i64 s2', .string ⟨nm2.toArray⟩, .int .i64 tk2, .int .i64 tl2, .int .i64 n2, .int .i64 m2, .slice la ln lc, .int .i64 a2] 85)) (some b) := galloc (hgA.trans hg3) _
    have hkx : Kids (w3.alloc (.cells #[.int .i64 f2, .int .i64 s2', .string ⟨nm2.toArray⟩, .int .i64 tk2, .int .i64 tl2, .int .i64 n2, .int .i64 m2, .slice la ln lc, .int .i64 a2] 85)) (w.alloc exp0).heap.size (Gram.Exp.mk f1 s1' nm1 tk1 tl1 n1 m1 ks1 a1).kids (.slice ka kn kc) := hk1.kept hgB (by simp; omega)
    have hky : Kids (w3.alloc (.cells #[.int .i64 f2, .int .i64 s2', .string ⟨nm2.toArray⟩, .int .i64 tk2, .int .i64 tl2, .int .i64 n2, .int .i64 m2, .slice la ln lc, .int .i64 a2] 85)) (w.alloc exp0).heap.size (Gram.Exp.mk f2 s2' nm2 tk2 tl2 n2 m2 ks2 a2).kids (.slice la ln lc) := (hk2.kept0 (ga w3 _ none)).mono (by simp; omega)
    have hTw := rtwo_any 8 0 _ _ _ _ (w.alloc exp0).heap.size (w3.alloc (.cells #[.int .i64 f2, .int .i64 s2', .string ⟨nm2.toArray⟩, .int .i64 tk2, .int .i64 tl2, .int .i64 n2, .int .i64 m2, .slice la ln lc, .int .i64 a2] 85)) (by simp; omega) hkx hky
    simp only [expV, Gram.Rf.two] at hTw
    clear hkx hky
    refine ld ?_
    go_wp2_with (first | (go_at_call 175; refine hTw.mono ?_; rintro e w5 ⟨⟨v, rfl, hkv⟩, hg5⟩; refine Hid.out ?_))
    obtain ⟨va, vn, vc, rfl⟩ := hkv.form
    have hgC : (w.alloc exp0).grownBy w5 (some b) := (galloc (hgW.trans hg3) (.cells #[.int .i64 f2, .int .i64 s2', .string ⟨nm2.toArray⟩, .int .i64 tk2, .int .i64 tl2, .int .i64 n2, .int .i64 m2, .slice la ln lc, .int .i64 a2] 85)).trans (grown_some hg5 b)
    refine ld ?_
    go_wp2_with (with_reducible refine hold_st 2 ?_)
    refine sg ((hgC.block w.heap.size (by simp) (by simp; omega)).trans (heap_alloc_new w exp0)) ?_
    intro w6 hh6 hg6
    go_wp2
    (try simp only [Exit.inBlock, Exit.then])
    refine br hh6 Tryz.underlying85 ?_
    have hG : w.grownBy w6 (some b) := ((grown_some (ga w exp0 none) b).trans hgC).andThen hg6 (fun j e => .inl (by cases e; exact Nat.le_refl _))
    exact ⟨_, rfl, (hkv.kept hg6 (by simp)).mono (by simp), HH.out.to hG (((hP3.alloc (.cells #[.int .i64 f2, .int .i64 s2', .string ⟨nm2.toArray⟩, .int .i64 tk2, .int .i64 tl2, .int .i64 n2, .int .i64 m2, .slice la ln lc, .int .i64 a2] 85)).kept hg5).st.kept hg6 (by simp; omega)) hP3.lt, hG⟩
end
section
variable (b g cap : Nat) (T : List Lex.Tk)
theorem rimp_step (f : Nat) (h1 : CLev b g cap T f) (h2 : CRex b g cap T 176 (Gram.Rf.imp T f)) : CRex b g cap T 176 (Gram.Rf.imp T (f + 1)) := by
 intro s w h hf
 have hP0 := h.alloc exp0
 have hbw := h.bl
 rw [Gram.Rf.imp] at hf ⊢
 have hc := h1 0 s _ (by omega) hP0
 cases hr1 : (Gram.Rf.level T f 0) s with
 | none => rw [hr1] at hf; cases hf
 | some r =>
  obtain ⟨x, s1⟩ := r
  rw [hr1] at hf hc
  have hc2 := hc rfl
  simp only [Gram.Rf.bindS] at hf ⊢
  clear hc hr1
  simp only [rePost] at hc2
  cases x with
  | mk f1 s1' nm1 tk1 tl1 n1 m1 ks1 a1 =>
  simp only [expV] at hc2
  have HH := ld h
  clear h hP0
  cases hsg : Gram.Rf.is T [61, 62] s1 with
  | false =>
   rw [if_neg (by decide)]
   go_enter Tryz.func176, Tryz.ntmps176
   go_wp2_with (go_at_call 177; refine hc2.mono ?_; rintro e w1 ⟨k1, rfl, hk1, hP1, hg1⟩; refine Hid.out ?_)
   obtain ⟨ka, kn, kc, rfl⟩ := hk1.form
   have hPs := hP1.alloc (.cells #[.int .i64 f1, .int .i64 s1', .string ⟨nm1.toArray⟩, .int .i64 tk1, .int .i64 tl1, .int .i64 n1, .int .i64 m1, .slice ka kn kc, .int .i64 a1] 85)
   have hS := rmaybe_any b g cap T s1 ⟨#[61, 62]⟩ _ hPs
   have hs1 := hg1.size
   rw [World.size_alloc] at hs1
   have hbl : b < w1.heap.size := hP1.bl
   unfold Gram.Rf.maybe at hS
   rw [show ((⟨#[61, 62]⟩ : ByteArray)).data.toList = [61, 62] from rfl] at hS
   rw [hsg, if_neg (by decide)] at hS
   clear hf
   refine ld ?_
   go_wp2_with (go_at_call 102; refine hS.mono ?_; rintro e w2 ⟨rfl, hP2, hg2⟩; refine Hid.out ?_)
   have hgW : (w.alloc exp0).grownBy w2 (some b) := (galloc hg1 _).trans hg2
   obtain ⟨c0, c1, c2, c3, c4, c5, c6, c7, c8, cf⟩ := Nc.of ((hg2.block w1.heap.size (by simp) (by simp; omega)).trans (heap_alloc_new w1 _))
   have hlt2 : w1.heap.size < w2.heap.size := by have := hg2.size; rw [World.size_alloc] at this; omega
   refine ld ?_
   go_wp2_with (with_reducible refine hold_st 2 ?_)
   refine sg ((hgW.block w.heap.size (by simp) (by simp; omega)).trans (heap_alloc_new w exp0)) ?_
   intro w4 hh4 hg4
   go_wp2
   (try simp only [Exit.inBlock, Exit.then])
   refine br hh4 Tryz.underlying85 ?_
   have hgA : w1.grownBy w2 (some b) := (grown_some (ga w1 _ none) b).trans hg2
   have hG : w.grownBy w4 (some b) := ((grown_some (ga w exp0 none) b).trans hgW).andThen hg4 (fun j e => .inl (by cases e; exact Nat.le_refl _))
   exact ⟨_, rfl, ((hk1.kept hgA (by simp; omega)).kept hg4 (by simp)).mono (by simp), HH.out.to hG (hP2.st.kept hg4 (by simp; omega)) hP2.lt, hG⟩
  | true =>
   rw [hsg] at hf
   rw [if_pos rfl] at hf ⊢
   cases hr2 : Gram.Rf.imp T f (Gram.Rf.adv s1) with
   | none => rw [hr2] at hf; cases hf
   | some r2 =>
    obtain ⟨y, s2⟩ := r2
    simp only
    cases y with
    | mk f2 s2' nm2 tk2 tl2 n2 m2 ks2 a2 =>
    clear hf
    go_enter Tryz.func176, Tryz.ntmps176
    go_wp2_with (go_at_call 177; refine hc2.mono ?_; rintro e w1 ⟨k1, rfl, hk1, hP1, hg1⟩; refine Hid.out ?_)
    obtain ⟨ka, kn, kc, rfl⟩ := hk1.form
    have hPs := hP1.alloc (.cells #[.int .i64 f1, .int .i64 s1', .string ⟨nm1.toArray⟩, .int .i64 tk1, .int .i64 tl1, .int .i64 n1, .int .i64 m1, .slice ka kn kc, .int .i64 a1] 85)
    have hS := rmaybe_any b g cap T s1 ⟨#[61, 62]⟩ _ hPs
    have hs1 := hg1.size
    rw [World.size_alloc] at hs1
    have hbl : b < w1.heap.size := hP1.bl
    unfold Gram.Rf.maybe at hS
    rw [show ((⟨#[61, 62]⟩ : ByteArray)).data.toList = [61, 62] from rfl] at hS
    rw [hsg, if_pos rfl] at hS
    refine ld ?_
    go_wp2_with (go_at_call 102; refine hS.mono ?_; rintro e w2 ⟨rfl, hP2, hg2⟩; refine Hid.out ?_)
    have hgW : (w.alloc exp0).grownBy w2 (some b) := (galloc hg1 _).trans hg2
    have hgA : w1.grownBy w2 (some b) := (grown_some (ga w1 _ none) b).trans hg2
    have hlt2 : w1.heap.size < w2.heap.size := by have := hg2.size; rw [World.size_alloc] at this; omega
    have hc3 := h2 _ w2 hP2
    rw [hr2] at hc3
    have hc4 := hc3 rfl
    simp only [rePost, expV] at hc4
    clear hc3
    have hb1 := (hg2.block w1.heap.size (by simp) (by simp; omega)).trans (heap_alloc_new w1 _)
    refine ld ?_
    go_wp2_with (go_at_call 176; refine hc4.mono ?_; rintro e w3 ⟨k2, rfl, hk2, hP3, hg3⟩; refine Hid.out ?_)
    obtain ⟨la, ln, lc, rfl⟩ := hk2.form
    have hs3 := hg3.size
    obtain ⟨c0, c1, c2, c3, c4, c5, c6, c7, c8, cf⟩ := Nc.of (((ga w3 (.cells #[.int .i64 f2, .int .i64 s2', .string ⟨nm2.toArray⟩, .int .i64 tk2, .int .i64 tl2, .int .i64 n2, .int .i64 m2, .slice la ln lc, .int .i64 a2] 85) none).block w1.heap.size (by omega) (by simp)).trans ((hg3.block w1.heap.size (by omega) (by simp; omega)).trans hb1))
    have n13 : ¬ w1.heap.size = w3.heap.size := by omega
    have hgB : w1.grownBy (w3.alloc (.cells #[.int .i64 f2, .int .i64 s2', .string ⟨nm2.toArray⟩, .int .i64 tk2, .int .i64 tl2, .int .i64 n2, .int .i64 m2, .slice la ln lc, .int .i64 a2] 85)) (some b) := galloc (hgA.trans hg3) _
    have hkx : Kids (w3.alloc (.cells #[.int .i64 f2, .int .i64 s2', .string ⟨nm2.toArray⟩, .int .i64 tk2, .int .i64 tl2, .int .i64 n2, .int .i64 m2, .slice la ln lc, .int .i64 a2] 85)) (w.alloc exp0).heap.size (Gram.Exp.mk f1 s1' nm1 tk1 tl1 n1 m1 ks1 a1).kids (.slice ka kn kc) := hk1.kept hgB (by simp; omega)
    have hky : Kids (w3.alloc (.cells #[.int .i64 f2, .int .i64 s2', .string ⟨nm2.toArray⟩, .int .i64 tk2, .int .i64 tl2, .int .i64 n2, .int .i64 m2, .slice la ln lc, .int .i64 a2] 85)) (w.alloc exp0).heap.size (Gram.Exp.mk f2 s2' nm2 tk2 tl2 n2 m2 ks2 a2).kids (.slice la ln lc) := (hk2.kept0 (ga w3 _ none)).mono (by simp; omega)
    have hTw := rtwo_any 4 11 _ _ _ _ (w.alloc exp0).heap.size (w3.alloc (.cells #[.int .i64 f2, .int .i64 s2', .string ⟨nm2.toArray⟩, .int .i64 tk2, .int .i64 tl2, .int .i64 n2, .int .i64 m2, .slice la ln lc, .int .i64 a2] 85)) (by simp; omega) hkx hky
    simp only [expV, Gram.Rf.two] at hTw
    clear hkx hky
    refine ld ?_
    go_wp2_with (first | (go_at_call 175; refine hTw.mono ?_; rintro e w5 ⟨⟨v, rfl, hkv⟩, hg5⟩; refine Hid.out ?_))
    obtain ⟨va, vn, vc, rfl⟩ := hkv.form
    have hgC : (w.alloc exp0).grownBy w5 (some b) := (galloc (hgW.trans hg3) (.cells #[.int .i64 f2, .int .i64 s2', .string ⟨nm2.toArray⟩, .int .i64 tk2, .int .i64 tl2, .int .i64 n2, .int .i64 m2, .slice la ln lc, .int .i64 a2] 85)).trans (grown_some hg5 b)
    refine ld ?_
    go_wp2_with (with_reducible refine hold_st 2 ?_)
    refine sg ((hgC.block w.heap.size (by simp) (by simp; omega)).trans (heap_alloc_new w exp0)) ?_
    intro w6 hh6 hg6
    go_wp2
    (try simp only [Exit.inBlock, Exit.then])
    refine br hh6 Tryz.underlying85 ?_
    have hG : w.grownBy w6 (some b) := ((grown_some (ga w exp0 none) b).trans hgC).andThen hg6 (fun j e => .inl (by cases e; exact Nat.le_refl _))
    exact ⟨_, rfl, (hkv.kept hg6 (by simp)).mono (by simp), HH.out.to hG (((hP3.alloc (.cells #[.int .i64 f2, .int .i64 s2', .string ⟨nm2.toArray⟩, .int .i64 tk2, .int .i64 tl2, .int .i64 n2, .int .i64 m2, .slice la ln lc, .int .i64 a2] 85)).kept hg5).st.kept hg6 (by simp; omega)) hP3.lt, hG⟩
end
section
variable (b g cap : Nat) (rv : Value) (T : List Lex.Tk)
theorem makeFunc_run (fn : Fn) (first cap : Array Value) (w : World) : (Instr.makeFunc fn first cap).run Tryz.prog w = .ok (.func fn first cap) w := rfl
end
namespace Gram
def words10 : List B := [[], [98, 111, 111, 108], [105, 56], [105, 49, 54], [105, 51, 50], [105, 54, 52], [117, 56], [117, 49, 54], [117, 51, 50], [117, 54, 52]]
def w10 (t : Nat) : B := words10.getD t []
theorem tbl_words : (Lex.tbl.all fun p => p.2 == 0 || words10.tail.contains p.1) = true := by kernel_rfl
theorem kind0 (l : B) (h : ∀ t, 1 ≤ t → t < 10 → ¬ l = w10 t) : Lex.kindOf l = 0 := by
 unfold Lex.kindOf Lex.look
 cases e : Lex.tbl.find? (fun p => p.1 == l) with
 | none => rfl
 | some p =>
  have h1 := List.all_eq_true.1 tbl_words p (List.mem_of_find?_eq_some e)
  have h2 : p.1 = l := beq_iff_eq.1 (List.find?_some (p := fun p : List UInt8 × Int => p.1 == l) e)
  rw [Bool.or_eq_true, beq_iff_eq, h2] at h1
  rcases h1 with h1 | h1
  ·exact h1
  ·exfalso
   simp only [words10, List.tail_cons, List.contains_eq_mem, List.mem_cons, List.not_mem_nil, or_false, decide_eq_true_eq] at h1
   rcases h1 with h1 | h1 | h1 | h1 | h1 | h1 | h1 | h1 | h1
   ·exact h 1 (by decide) (by decide) h1
   ·exact h 2 (by decide) (by decide) h1
   ·exact h 3 (by decide) (by decide) h1
   ·exact h 4 (by decide) (by decide) h1
   ·exact h 5 (by decide) (by decide) h1
   ·exact h 6 (by decide) (by decide) h1
   ·exact h 7 (by decide) (by decide) h1
   ·exact h 8 (by decide) (by decide) h1
   ·exact h 9 (by decide) (by decide) h1
end Gram
section
variable (b g cap : Nat) (rv : Value) (T : List Lex.Tk) (i d : Nat)
end
open Go.RowKit
def wpL (P : Program) (md : Region.Mode) (ops : Array Oper) (Q : Exit → Act → World → Prop) (S : World → Prop) (Z : List Nat) : Nat → Array Bool → Act → World → Prop
 | 0, l, a, w => Region.ready md ops l = [] ∧ Q .normal a w
 | f + 1, l, a, w => (Region.ready md ops l = [] → Q .normal a w) ∧ ∀ j ∈ Region.ready md ops l, wpOp P ops Q j (fun a' w' => (j ∉ Z → S w') ∧ wpL P md ops Q S Z f (l.setIfInBounds j true) a' w') a w
section
variable {P : Program} {ops : Array Oper} {Q : Exit → Act → World → Prop} {md : Region.Mode} {S : World → Prop} {Z : List Nat}
theorem wpL_any : ∀ (f : Nat) (l : Array Bool) (a : Act) (w : World), wpL P md ops Q S Z f l a w → wpAny P md ops Q f l a w
 | 0, _, _, _, h => h
 | f + 1, _, _, _, h => ⟨h.1, fun j hj => wpOp_mono (fun a w hh => wpL_any f _ a w hh.2) (h.2 j hj)⟩
theorem wp_region_L {id : Nat} {a : Act} {w : World} (hm : P.follows .mixedOrders = true) (h : wpL P .any ops Q S Z ops.size (Array.replicate ops.size false) a w.drew) : (Code.region id ops true).wp P Q a w :=
 wp_region_any hm (wpL_any _ _ _ _ h)
theorem not_ready {z i : Nat} {oz : Oper} {l : Array Bool} (hz : ops[z]? = some oz) (he : oz.after.any (fun e => Region.binds md e && e.on == i) = true) (hi : l.getD i true = false) : z ∉ Region.ready md ops l := by
 intro hr
 obtain ⟨_, o, ho, hall⟩ := mem_ready.1 hr
 have e0 := Option.some.inj (hz.symm.trans ho)
 subst e0
 rw [Array.any_eq_true] at he
 obtain ⟨n, hn, hb⟩ := he
 rw [Bool.and_eq_true, beq_iff_eq] at hb
 have h1 := hall _ (Array.getElem_mem hn) hb.1
 rw [hb.2] at h1
 simp only [Array.getD_eq_getD_getElem?] at hi h1
 cases hl : l[i]? with
 | none => rw [hl] at h1; simp at h1
 | some v => rw [hl] at hi h1; simp at hi h1; rw [hi] at h1; cases h1
theorem wpL_first {i : Nat} {oi : Oper} {v : Value} (hi : ops[i]? = some oi) (hsel : ∀ (j : Nat) (o : Oper) cs b, ops[j]? = some o → o.op ≠ .select cs b)
  (hQ : ∀ c a w, Q (.panic c) (a.put oi.dst v) w → Q (.panic c) a w) (hZ : ∀ z ∈ Z, ∃ oz, ops[z]? = some oz ∧ oz.after.any (fun e => Region.binds md e && e.on == i) = true) :
  ∀ (f : Nat) (l : Array Bool) (a : Act) (w : World), (∀ j oj, ops[j]? = some oj → j ≠ i → l.getD j true = false → (∀ e ∈ oj.after, Region.binds md e = true → e.on ≠ i) → oi.apart ops oj = true) →
   i ∈ Region.ready md ops l → YieldsIf P ops S oi v a → S w → wpL P md ops Q S Z f (l.setIfInBounds i true) (a.put oi.dst v) w → wpL P md ops Q S Z (f + 1) l a w
 | f, l, a, w, hfree, hr, hy, hS, H => by
  refine ⟨fun h => by rw [h] at hr; exact absurd hr (by simp), fun j hj => ?_⟩
  by_cases hji : j = i
  ·subst hji
   exact hy.wpOp hi hS ⟨fun _ => hS, H⟩
  ·have hin := ready_mono hj hji
   have hl0 := (mem_ready.1 hr).1
   cases f with
   | zero => rw [H.1] at hin; exact absurd hin (by simp)
   | succ f =>
    obtain ⟨hjun, oj, hoj, hall⟩ := mem_ready.1 hj
    have hnot : ∀ e ∈ oj.after, Region.binds md e = true → e.on ≠ i := fun e he hb heq => by
     have hz : j ∉ Region.ready md ops l := not_ready hoj (by rw [Array.any_eq_true]; obtain ⟨n, hn, hx⟩ := Array.getElem_of_mem he; exact ⟨n, hn, by rw [hx, hb, Bool.true_and, beq_iff_eq]; exact heq⟩) hl0
     exact hz hj
    have hjZ : j ∉ Z := fun hz => by
     obtain ⟨oz, h1, h2⟩ := hZ j hz
     exact not_ready h1 h2 hl0 hj
    have h2 := wpOp_putIf hoj (hfree j oj hoj hji hjun hnot) (fun cs b => hsel i oi cs b hi) (fun cs b => hsel j oj cs b hoj) hQ hy (H.2 j hin)
    refine wpOp_mono (fun a' w' h3 => ⟨fun _ => h3.2.1 hjZ, ?_⟩) h2
    refine wpL_first hi hsel hQ hZ f _ a' w' (fun k ok hk hki hun hno => hfree k ok hk hki ?_ hno) (ready_mono hr (Ne.symm hji)) h3.1 (h3.2.1 hjZ) ?_
    ·by_cases hjk : j = k
     ·subst hjk; exact hjun
     ·rw [getD_set_ne true hjk] at hun; exact hun
    ·rw [Array.setIfInBounds_comm _ _ hji]
     exact h3.2.2
theorem wpL_take {i : Nat} {oi : Oper} {v : Value} {f : Nat} {l : Array Bool} {a : Act} {w : World} (hi : ops[i]? = some oi)
  (hs : Region.noSelect ops = true) (hf : Region.free md ops l i = true) (hr : (Region.ready md ops l).contains i = true)
  (hQ : ∀ c a w, Q (.panic c) (a.put oi.dst v) w → Q (.panic c) a w) (hZ : (Z.all fun z => ((ops[z]?).map fun oz => oz.after.any fun e => Region.binds md e && e.on == i).getD false) = true) (hy : YieldsIf P ops S oi v a) (hS : S w)
  (h : wpL P md ops Q S Z f (l.setIfInBounds i true) (a.put oi.dst v) w) : wpL P md ops Q S Z (f + 1) l a w :=
 wpL_first hi (Region.noSelect_spec hs) hQ (fun z hz => by
  have h1 := List.all_eq_true.1 hZ z hz
  cases ho : ops[z]? with
  | none => rw [ho] at h1; cases h1
  | some oz => rw [ho] at h1; exact ⟨oz, rfl, h1⟩) f l a w (Region.free_spec hi hf) (by simpa using hr) hy hS h
theorem wpL_one {i : Nat} {f : Nat} {l : Array Bool} {a : Act} {w : World} (hr : Region.ready md ops l = [i])
  (h : wpOp P ops Q i (fun a' w' => (i ∉ Z → S w') ∧ wpL P md ops Q S Z f (l.setIfInBounds i true) a' w') a w) : wpL P md ops Q S Z (f + 1) l a w :=
 ⟨fun h0 => (by rw [hr] at h0; exact absurd h0 (by simp)), fun j hj => (by rw [hr] at hj; obtain rfl := List.mem_singleton.1 hj; exact h)⟩
theorem wpL_done {l : Array Bool} {a : Act} {w : World} (hr : Region.ready md ops l = []) (h : Q .normal a w) : ∀ f, wpL P md ops Q S Z f l a w
 | 0 => ⟨hr, h⟩
 | _ + 1 => ⟨fun _ => h, by rw [hr]; simp⟩
end
def rePostB (w : World) (B b g cap : Nat) (T : List Lex.Tk) (r : Option (Gram.Exp × Gram.Rf.St)) (e : Ending) (w' : World) : Prop :=
 match r with
 | some x => ∃ k, e = .returned (expV x.1 k) ∧ Kids w' B x.1.kids k ∧ Rp w' b g cap T x.2 ∧ w.grownBy w' (some b)
 | none => False
theorem KidsX.one' {w : World} {B : Nat} {E : List Nat} {x : Gram.Exp} {k v : Value} (ho : w.ownsRow B 85 9 v 1 (expCells x k)) (hE : ∀ k ∈ E, v.ownBlock ≠ some k) (h : KidsX w B E x.kids k) : KidsX w B E [x] v := by
 refine .l (xs := expCells x k) (by simpa [expsD] using ho) hE ?_
 simpa [expsD] using exp_row h
section
variable (b g cap : Nat) (T : List Lex.Tk)
theorem rindexed_any (f B : Nat) (x0 : Gram.Exp) (k0 : Value) (s : Gram.Rf.St) (w : World) (hB : B ≤ w.heap.size) (hbB : b < B) (h : Rp w b g cap T s) (hk0 : Kids w B x0.kids k0) (hf : (Gram.Rf.indexed T f x0 s).isSome = true) :
  Calls Tryz.prog 181 #[.pointer (some ⟨b, 0, none⟩), expV x0 k0] w fun e w' => rePostB w B b g cap T (Gram.Rf.indexed T f x0 s) e w' := by
 have hbw := h.bl
 obtain ⟨la, ln, lc, rfl⟩ := hk0.form
 have HH := ld h
 have HK0 := ld hk0
 clear h hk0
 cases hx : x0 with
 | mk g1 u1 om1 vk1 vl1 o1 p1 us1 c1 =>
 have HX := ld hx
 simp only [expV]
 clear hx
 rw [← HX.out]
 go_enter Tryz.func181, Tryz.ntmps181
 go_wp2
 go_loopg [] f (fun (f' : Nat) (wr : World) => ∃ (x : Gram.Exp) (s' : Gram.Rf.St) (ka : Option Addr) (kn kc : Nat), f' ≤ f ∧ Hid (wr.heap[w.heap.size]? = some (.cells (expCells x (.slice ka kn kc)).toArray 85 (0, 0)) ∧ wr.heap[w.heap.size + 1]? = some exp0 ∧ KidsX wr B [w.heap.size, w.heap.size + 1] x.kids (.slice ka kn kc) ∧ Rp wr b g cap T s' ∧ w.grownBy wr (some b) ∧ Gram.Rf.indexed T f' x s' = Gram.Rf.indexed T f x0 s))
 case atStart =>
  refine ⟨x0, s, la, ln, lc, Nat.le_refl _, ld ⟨?_, heap_alloc2_new w _ _, ?_, (HH.out.alloc _).alloc _, galloc (ga w _ (some b)) _, rfl⟩⟩
  ·rw [HX.out]; exact heap_alloc2_old w _ _
  ·exact RepC.kept (galloc (ga w _ none) _) (fun k e => by cases e) (RepC.toX [w.heap.size, w.heap.size + 1] (fun k e => by simp at e; omega) HK0.out)
 case round =>
  obtain ⟨x, s', ka, kn, kc, hff, HG⟩ := hrel
  obtain ⟨hE, hE1, hk, hP, hg, hL⟩ := HG.out
  rw [← hL] at hf
  have HL := ld hL
  clear HG hL
  cases x with
  | mk f1 s1 nm1 tk1 tl1 n1 m1 ks1 a1 =>
  rcases Nat.eq_zero_or_pos gk with hz | hz
  ·rw [hz] at hf; exact absurd hf (by simp [Gram.Rf.indexed])
  obtain ⟨f', hfe⟩ : ∃ f', gk = f' + 1 := ⟨gk - 1, by omega⟩
  subst hfe
  obtain ⟨c0, c1', c2, c3, c4, c5, c6, c7, c8, cf⟩ := Nc.of (show wr.heap[w.heap.size]? = some (.cells #[.int .i64 f1, .int .i64 s1, .string ⟨nm1.toArray⟩, .int .i64 tk1, .int .i64 tl1, .int .i64 n1, .int .i64 m1, .slice ka kn kc, .int .i64 a1] 85 (0, 0)) from hE)
  have hEl : w.heap.size + 1 < wr.heap.size := (Array.getElem?_eq_some_iff.1 hE1).1
  have hS := rmaybe_any b g cap T s' ⟨#[91]⟩ wr hP
  unfold Gram.Rf.maybe at hS
  rw [show ((⟨#[91]⟩ : ByteArray)).data.toList = [91] from rfl] at hS
  have hwb : ¬ w.heap.size = b := by omega
  cases hsx : Gram.Rf.is T [91] s' with
  | false =>
   rw [hsx, if_neg (by decide)] at hS
   have hr : Gram.Rf.indexed T f x0 s = some (.mk f1 s1 nm1 tk1 tl1 n1 m1 ks1 a1, s') := by rw [← HL.out]; unfold Gram.Rf.indexed; rw [hsx]; rfl
   have HR := ld hr
   clear hr hf
   go_wp2_with (go_at_call 102; refine hS.mono ?_; rintro e w2 ⟨rfl, hP2, hg2⟩; refine Hid.out ?_)
   obtain ⟨d0, d1, d2, d3, d4, d5, d6, d7, d8, df⟩ := Nc.of ((hg2.block w.heap.size (by omega) (by simp; omega)).trans (show wr.heap[w.heap.size]? = some (.cells #[.int .i64 f1, .int .i64 s1, .string ⟨nm1.toArray⟩, .int .i64 tk1, .int .i64 tl1, .int .i64 n1, .int .i64 m1, .slice ka kn kc, .int .i64 a1] 85 (0, 0)) from hE))
   have hs2 := hg2.size
   refine ld ?_
   go_wp2_with (with_reducible refine hold_st 4 ?_)
   refine sg ((hg2.block (w.heap.size + 1) (by omega) (by simp; omega)).trans hE1) ?_
   intro w4 hh4 hg4
   go_wp2
   (try simp only [Exit.inBlock, Exit.then])
   refine br hh4 Tryz.underlying85 ?_
   rw [HR.out]
   have hG : w.grownBy w4 (some b) := (hg.trans hg2).andThen hg4 (fun j e => .inl (by cases e; omega))
   exact ⟨_, rfl, RepC.noX (RepC.keptX hg4 (fun k e => by cases e; simp) (RepC.keptX hg2 (fun k e => by cases e; exact .inl hbB) hk)), HH.out.to hG (hP2.st.kept hg4 (by simp; omega)) hP2.lt, hG⟩
  | true =>
   rw [hsx, if_pos rfl] at hS
   have hr : Gram.Rf.indexed T f x0 s = Gram.Rf.indexed T f' (.mk 16 0 [] 0 0 (Gram.Rf.size T (Gram.Rf.adv s')).1 0 [.mk f1 s1 nm1 tk1 tl1 n1 m1 ks1 a1] a1) (Gram.Rf.take T [93] (Gram.Rf.size T (Gram.Rf.adv s')).2) := by rw [← HL.out]; conv => lhs; unfold Gram.Rf.indexed; rw [if_pos hsx]; simp only [Gram.Exp.at_]
   have HR := ld hr
   clear hr hf
   go_wp2_with (go_at_call 102; refine hS.mono ?_; rintro e w2 ⟨rfl, hP2, hg2⟩; refine Hid.out ?_)
   have hZ := rsize_any b g cap T _ w2 hP2
   refine ld ?_
   go_wp2_with (go_at_call 163; refine hZ.mono ?_; rintro e w3 ⟨rfl, hP3, hg3⟩; refine Hid.out ?_)
   have hTk := rtake_any b g cap T _ ⟨#[93]⟩ w3 hP3
   rw [show ((⟨#[93]⟩ : ByteArray)).data.toList = [93] from rfl] at hTk
   refine ld ?_
   go_wp2_with (go_at_call 99; refine hTk.mono ?_; rintro e w4 ⟨rfl, hP4, hg4⟩; refine Hid.out ?_)
   have hgA : wr.grownBy w4 (some b) := (hg2.trans hg3).trans hg4
   have hE4 := (hgA.block w.heap.size (by omega) (by simp; omega)).trans (show wr.heap[w.heap.size]? = some (.cells #[.int .i64 f1, .int .i64 s1, .string ⟨nm1.toArray⟩, .int .i64 tk1, .int .i64 tl1, .int .i64 n1, .int .i64 m1, .slice ka kn kc, .int .i64 a1] 85 (0, 0)) from hE)
   obtain ⟨d0, d1, d2, d3, d4, d5, d6, d7, d8, df⟩ := Nc.of hE4
   have hs4 := hgA.size
   have hn4 : ¬ w.heap.size = w4.heap.size := by omega
   have e8 := (ga w4 (.cells #[.int .i64 f1, .int .i64 s1, .string ⟨nm1.toArray⟩, .int .i64 tk1, .int .i64 tl1, .int .i64 n1, .int .i64 m1, .slice ka kn kc, .int .i64 a1] 85) none).cell d8 (by simp)
   refine ld ?_
   go_wp2_with (with_reducible refine hold_st 3 ?_)
   obtain ⟨W, hW⟩ : ∃ W, W = w4.alloc (.cells #[.int .i64 f1, .int .i64 s1, .string ⟨nm1.toArray⟩, .int .i64 tk1, .int .i64 tl1, .int .i64 n1, .int .i64 m1, .slice ka kn kc, .int .i64 a1] 85) := ⟨_, rfl⟩
   have hgW : w4.grownBy W none := by rw [hW]; exact ga w4 _ none
   have hoW : W.ownsRow B 85 9 (.slice (some ⟨w4.heap.size, 0, none⟩) 1 1) 1 (expCells (.mk f1 s1 nm1 tk1 tl1 n1 m1 ks1 a1) (.slice ka kn kc)) := by rw [hW]; exact owns_new (w := w4) 85 9 1 (expCells (.mk f1 s1 nm1 tk1 tl1 n1 m1 ks1 a1) (.slice ka kn kc)) (by omega) rfl (by unfold maxLen; omega)
   rw [← hW]
   clear hW
   refine wpList_store_gen rfl _ _ _ rfl w.heap.size #[.int .i64 16, .int .i64 0, .string ⟨#[]⟩, .int .i64 0, .int .i64 0, .int .i64 (Gram.Rf.size T (Gram.Rf.adv s')).1, .int .i64 0, .slice (some ⟨w4.heap.size, 0, none⟩) 1 1, .int .i64 a1] rfl rfl 85 _ ((hgW.block w.heap.size (by omega) (by simp)).trans hE4) (by kernel_rfl) rfl (by simp [Value.oneCell']) ?_
   intro w6 hh6 hg6
   have hKx : KidsX W B [w.heap.size, w.heap.size + 1] [.mk f1 s1 nm1 tk1 tl1 n1 m1 ks1 a1] (.slice (some ⟨w4.heap.size, 0, none⟩) 1 1) := KidsX.one' hoW (fun k e hv => by simp [Value.ownBlock] at hv e; omega) (RepC.kept hgW (fun k e => by cases e) (RepC.kept hgA (fun k e => by cases e; exact hbB) hk))
   go_wp2
   go_roundg f'
   case measure => exact Nat.lt_succ_self _
   case rel =>
   have hG : w.grownBy w6 (some b) := ((hg.trans hgA).trans (grown_some hgW b)).andThen hg6 (fun j e => .inl (by cases e; exact Nat.le_refl _))
   refine ⟨.mk 16 0 [] 0 0 (Gram.Rf.size T (Gram.Rf.adv s')).1 0 [.mk f1 s1 nm1 tk1 tl1 n1 m1 ks1 a1] a1, _, some ⟨w4.heap.size, 0, none⟩, 1, 1, by omega, ld ⟨hh6, ?_, ?_, HH.out.to hG ((hP4.kept hgW).st.kept hg6 (by simp; omega)) hP4.lt, hG, HR.out.symm⟩⟩
   ·exact (hg6.block (w.heap.size + 1) (by have := hgW.size; omega) (by simp)).trans ((hgW.block (w.heap.size + 1) (by omega) (by simp)).trans ((hgA.block (w.heap.size + 1) hEl (by simp; omega)).trans hE1))
   ·exact RepC.keptX hg6 (fun k e => .inr (by cases e; simp)) hKx
end
section
variable (b g cap : Nat) (T : List Lex.Tk) (s : Gram.Rf.St)
theorem rinfix_any (n : Nat) (hn : n ≤ 7) (w : World) (h : Rp w b g cap T s) :
  Calls Tryz.prog 179 #[.pointer (some ⟨b, 0, none⟩), .int .i64 (n : Int)] w fun e w' => e = .returned (.int .i64 (Gram.Rf.inf T n s)) ∧ w.grownBy w' none := by
 have hn0 := rtok_any b g cap T s w h
 have HH := ld h
 have hx : tokV (Gram.tk T s.i) = .agg #[.int .i64 (Gram.tk T s.i).kind, .string ⟨(Gram.tk T s.i).text.toArray⟩, .int .i64 (Gram.tk T s.i).n, .int .i64 (Gram.tk T s.i).t, .int .i64 0, .int .i64 ((Gram.tk T s.i).at_ : Int)] := rfl
 rw [hx] at hn0
 obtain ⟨R, hR⟩ : ∃ R, R = Gram.Rf.inf T n s := ⟨_, rfl⟩
 rw [← hR]
 unfold Gram.Rf.inf at hR
 generalize Gram.tk T s.i = y at hn0 hR
 clear hx h
 by_cases h0 : s.e = 0
 ·have b0 : (s.e != 0) = false := bne_t (by rw [beq_iff_eq]; exact h0)
  by_cases h3 : y.kind = 3 ∨ y.kind = 4
  ·rw [if_pos ⟨h0, h3⟩] at hR
   have hk : ((y.kind != 3) = false) ∨ ((y.kind != 3) = true ∧ (y.kind != 4) = false) := by
    by_cases h4 : y.kind = 3
    · exact .inl (bne_t (by rw [beq_iff_eq]; exact h4))
    · exact .inr ⟨bne_f (by rw [beq_eq_false_iff_ne]; exact h4), bne_t (by rw [beq_iff_eq]; rcases h3 with e | e; exact absurd e h4; exact e)⟩
   clear h3 h0
   obtain ⟨kd, tx, nn, tt, aa⟩ := y
   simp only at hn0 hR hk
   rcases hk with b3 | ⟨b3, b4⟩
   all_goals (rcases (show n = 0 ∨ n = 1 ∨ n = 2 ∨ n = 3 ∨ n = 4 ∨ n = 5 ∨ n = 6 ∨ n = 7 by omega) with rfl | rfl | rfl | rfl | rfl | rfl | rfl | rfl)
   all_goals
    (unfold Gram.Rf.infixOf at hR
     have HR := ld hR
     clear hR
     go_enter Tryz.func179, Tryz.ntmps179
     go_wp2_with (go_at_call 62; refine hn0.mono ?_; rintro e w1 ⟨rfl, hg1⟩; refine Hid.out ?_)
     have p2 := (HH.out.kept hg1).st.c2
     have hb1 := (HH.out.kept hg1).bl
     have n1 : ¬ b = w1.heap.size := by omega
     have HG : Hid (∀ o, w.grownBy (w1.alloc o) none) := ld (fun o => galloc hg1 o)
     clear hg1 hn0
     refine ld ?_
     go_wp2
     all_goals (go_ret; refine ⟨?_, HG.out _⟩; rw [HR.out]; simp_all))
  ·rw [if_neg (fun e => h3 e.2)] at hR
   have b3 : (y.kind != 3) = true := bne_f (by rw [beq_eq_false_iff_ne]; exact fun e => h3 (.inl e))
   have b4 : (y.kind != 4) = true := bne_f (by rw [beq_eq_false_iff_ne]; exact fun e => h3 (.inr e))
   clear h3 h0
   have HR := ld hR
   clear hR
   go_enter Tryz.func179, Tryz.ntmps179
   go_wp2_with (go_at_call 62; refine hn0.mono ?_; rintro e w1 ⟨rfl, hg1⟩; refine Hid.out ?_)
   have p2 := (HH.out.kept hg1).st.c2
   have hb1 := (HH.out.kept hg1).bl
   have n1 : ¬ b = w1.heap.size := by omega
   have HG : Hid (∀ o, w.grownBy (w1.alloc o) none) := ld (fun o => galloc hg1 o)
   clear hg1 hn0
   refine ld ?_
   go_wp2
   go_ret
   exact ⟨by rw [HR.out]; rfl, HG.out _⟩
 ·rw [if_neg (fun e => h0 e.1)] at hR
  have b0 : (s.e != 0) = true := bne_f (by rw [beq_eq_false_iff_ne]; exact h0)
  clear h0
  have HR := ld hR
  clear hR
  go_enter Tryz.func179, Tryz.ntmps179
  go_wp2_with (go_at_call 62; refine hn0.mono ?_; rintro e w1 ⟨rfl, hg1⟩; refine Hid.out ?_)
  have p2 := (HH.out.kept hg1).st.c2
  have hb1 := (HH.out.kept hg1).bl
  have n1 : ¬ b = w1.heap.size := by omega
  have HG : Hid (∀ o, w.grownBy (w1.alloc o) none) := ld (fun o => galloc hg1 o)
  clear hg1 hn0
  refine ld ?_
  go_wp2
  go_ret
  exact ⟨by rw [HR.out]; rfl, HG.out _⟩
end
end Go.Proofs.YtbbamgjdnibldaaGreat
