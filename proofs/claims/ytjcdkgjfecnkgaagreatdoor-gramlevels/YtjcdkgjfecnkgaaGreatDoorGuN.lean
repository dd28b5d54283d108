/- The plain mathematics of GramLevels' texts, by the kernel. -/
import Derived.Test.YtjcdkgjfecnkgaaGreatDoorMgK
namespace Go.Proofs.YtjcdkgjfecnkgaaGreatDoor.Gram
open Go.RowKit

def lvOps : List B := [[45, 62], [102, 98, 121], [61, 62], [111, 114], [97, 110, 100], [61], [124], [38], [60, 60], [43], [42], [120, 111, 114], [60], [94], [45], [47], [109, 111, 100]]
def lvOf : List Nat := [0, 1, 2, 3, 4, 5, 6, 7, 8, 9, 10, 3, 5, 6, 9, 10, 10]
def lvText (i j : Nat) : B := [110, 111, 100, 101, 32, 102, 40, 41, 32, 114, 101, 116, 117, 114, 110, 115, 32, 40, 122, 58, 32, 105, 56, 41, 32, 108, 101, 116, 32, 122, 32, 61, 32, 97, 32] ++ ((lvOps[i]?).getD [] ++ ([32, 98, 32] ++ ((lvOps[j]?).getD [] ++ [32, 99, 59, 32, 116, 101, 108])))
def lvRight (i j : Nat) : Bool := decide ((lvOf[i]?).getD 0 < (lvOf[j]?).getD 0) || (decide ((lvOf[i]?).getD 0 = (lvOf[j]?).getD 0) && decide ((lvOf[i]?).getD 0 ≤ 2))
def lvSame (i j : Nat) : Bool := decide ((lvOf[i]?).getD 0 = 5) && decide ((lvOf[j]?).getD 0 = 5)
/-- the parts of the one equation's expression -/
def twoKids (r : Res) : Option (Exp × Exp) := match r with
  | .ok [⟨_, _, _, _, [.mk _ (.mk _ _ _ _ _ _ _ [a, b] _) _ _], _⟩] => some (a, b)
  | _ => none
def lvB (i j : Nat) : Bool :=
  if lvSame i j then (match parse (lvText i j) with | .bad _ e => e == 12 | _ => false)
  else match twoKids (parse (lvText i j)) with
    | some (a, b) => if lvRight i j then a.name == [97] && b.kids.length == 2 else b.name == [99] && a.kids.length == 2
    | none => false
theorem levels_all : ((List.range 17).all fun i => (List.range 17).all fun j => lvB i j) = true := by kernel_rfl
theorem levels (i j : Nat) (hi : i < 17) (hj : j < 17) : lvB i j = true := List.all_eq_true.1 (List.all_eq_true.1 levels_all i (List.mem_range.2 hi)) j (List.mem_range.2 hj)
end Go.Proofs.YtjcdkgjfecnkgaaGreatDoor.Gram
