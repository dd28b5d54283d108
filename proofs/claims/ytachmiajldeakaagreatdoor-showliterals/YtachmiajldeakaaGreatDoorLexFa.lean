/- The tokens of a text with blanks ahead are those of the text, each so much further on (plain mathematics; as LexS, over LexM alone). -/
import Derived.Test.YtachmiajldeakaaGreatDoorMgA
namespace Go.Proofs.YtachmiajldeakaaGreatDoor.Lex
open Go.RowKit
def Tk.far (d : Nat) (x : Tk) : Tk := { x with at_ := x.at_ + d }
def Res.far (d : Nat) : Res → Res
  | .ok l => .ok (l.map (Tk.far d))
  | .err a e => .err (a + d) e
theorem Res.far_pre (d : Nat) (x : Tk) (r : Res) : (r.pre x).far d = (r.far d).pre (x.far d) := by cases r <;> rfl
theorem toks_far (d : Nat) : ∀ (f : Nat) (l : List UInt8) (a room : Nat), toks f l (a + d) room = (toks f l a room).far d
  | 0, _, _, _ => rfl
  | f + 1, l, a, room => by
    rw [toks, toks]
    have e0 : a + d + skp false l = a + skp false l + d := by omega
    cases tokAt (l.drop (skp false l)) with
    | bad e => dsimp only; rw [e0]; rfl
    | tok kd n t len =>
      dsimp only
      by_cases h0 : room = 0
      · rw [if_pos h0, if_pos h0, e0]; rfl
      · rw [if_neg h0, if_neg h0]
        by_cases h5 : kd = 5
        · rw [if_pos h5, if_pos h5, e0]; rfl
        · rw [if_neg h5, if_neg h5, Res.far_pre, ← toks_far d f, e0]
          rw [show a + skp false l + d + len = a + skp false l + len + d by omega]
          rfl
theorem skp_cons_blank (c : UInt8) (r : List UInt8) (h : blank c = true) : skp false (c :: r) = skp false r + 1 := by
  rw [skp, if_pos h]
theorem skp_ahead : ∀ (k : Nat) (l : List UInt8), skp false (List.replicate k 32 ++ l) = k + skp false l
  | 0, l => by simp
  | k + 1, l => by rw [List.replicate_succ, List.cons_append, skp_cons_blank _ _ (by decide), skp_ahead k l]; omega
theorem toks_ahead (k f : Nat) (l : List UInt8) (a room : Nat) : toks (f + 1) (List.replicate k 32 ++ l) a room = toks (f + 1) l (a + k) room := by
  rw [toks, toks, skp_ahead]
  rw [show (List.replicate k (32 : UInt8) ++ l).drop (k + skp false l) = l.drop (skp false l) by rw [← List.drop_drop]; simp]
  rw [Nat.add_assoc]
/-- the tokens of a text with blanks ahead -/
theorem tokens_ahead (k : Nat) (l : List UInt8) (h : k + l.length ≤ 65536) : tokens (List.replicate k 32 ++ l) = (tokens l).far k := by
  unfold tokens
  rw [List.length_append, List.length_replicate, if_neg (by omega), if_neg (by omega), toks_ahead, ← toks_far]
  exact toks_fuel _ _ _ _ _ (by omega) (by omega)
end Go.Proofs.YtachmiajldeakaaGreatDoor.Lex
