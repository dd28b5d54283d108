/- The plain mathematics of tokens: the tokens of GramDecls' texts (written by mkxa.py). -/
import Derived.Test.YtjcdkgjfecnkgabGreatDoorGwB
namespace Go.Proofs.YtjcdkgjfecnkgabGreatDoor.Lex
open Go.RowKit

/-- the digits of a number below 100 -/
def dig (i : Nat) : List UInt8 := if i < 10 then [UInt8.ofNat (48 + i)] else [UInt8.ofNat (48 + i / 10), UInt8.ofNat (48 + i % 10)]
def nameL (i : Nat) : List UInt8 := 97 :: dig i
theorem name_facts : ∀ i : Fin 100, (nameL i).all word = true ∧ (look (nameL i)).isSome = false ∧ (nameL i).length ≤ 3 ∧ digit 97 = false ∧ blank 97 = false := by decide
theorem dig_facts : ∀ i : Fin 100, (dig i).all digit = true ∧ numVal (dig i) = i ∧ (dig i).length ≤ 2 ∧ dig i ≠ [] := by decide
theorem spn_whole {p : UInt8 → Bool} : ∀ (u : List UInt8) {X : List UInt8}, u.all p = true → spn p X = 0 → spn p (u ++ X) = u.length
  | [], X, _, h => by simpa using h
  | c :: u, X, ha, h => by
    have h1 : p c = true ∧ u.all p = true := by simpa using ha
    have ih := spn_whole u h1.2 h
    unfold spn at ih ⊢
    rw [List.cons_append, List.takeWhile_cons, if_pos h1.1, List.length_cons, ih, List.length_cons]
theorem nw_spn {c : UInt8} (h : word c = false) (r : List UInt8) : spn word (c :: r) = 0 := by
  unfold spn; rw [List.takeWhile_cons, if_neg (by simp [h])]; rfl
theorem nw_dig {c : UInt8} (h : digit c = false) (r : List UInt8) : spn digit (c :: r) = 0 := by
  unfold spn; rw [List.takeWhile_cons, if_neg (by simp [h])]; rfl
/-- one name -/
theorem tks_name (i : Nat) (hi : i < 100) {c : UInt8} (hc : word c = false) (r : List UInt8) (a room : Nat) (hr : room ≠ 0) : tks (nameL i ++ c :: r) a room = (tks (c :: r) (a + (nameL i).length) (room - 1)).pre ⟨1, nameL i, 0, 0, a⟩ := by
  obtain ⟨f1, f2, f3, f4, f5⟩ := name_facts ⟨i, hi⟩
  simp only at f1 f2 f3
  have h0 : skp false (nameL i ++ c :: r) = 0 := by
    unfold nameL
    rw [List.cons_append, skp, if_neg (by simp [f5]), if_neg (by simp)]
  have h1 : tokAt ((nameL i ++ c :: r).drop (skp false (nameL i ++ c :: r))) = .tok 1 0 0 (nameL i).length := by
    rw [h0, List.drop_zero]
    have e : tokAt (nameL i ++ c :: r) = nameTok (nameL i ++ c :: r) := by
      show (if digit 97 then numTok (nameL i ++ c :: r) else if word 97 then nameTok (nameL i ++ c :: r) else signTok (nameL i ++ c :: r)) = _
      rw [if_neg (by decide), if_pos (by decide)]
    rw [e]
    unfold nameTok
    dsimp only
    rw [spn_whole _ f1 (nw_spn hc r), List.take_left', f2]
    · rw [if_neg (by simp), if_neg (by omega)]
    · rfl
  have e := tks_step (a := a) h1 (by decide) hr (r := c :: r) (by rw [h0, List.drop_zero, List.drop_left' rfl])
  rw [h0, List.drop_zero, List.take_left' rfl] at e
  exact e
theorem tks_comma (X : List UInt8) (a room : Nat) (hr : room ≠ 0) : tks (44 :: 32 :: X) a room = (tks X (a + 2) (room - 1)).pre ⟨4, [44], 0, 0, a⟩ := by
  have e := tks_step (l := 44 :: 32 :: X) (r := 32 :: X) (kd := 4) (n := 0) (t := 0) (len := 1) (a := a) (room := room) (by kernel_rfl) (by decide) hr (by kernel_rfl)
  have e2 : tks (32 :: X) (a + 0 + 1) (room - 1) = tks X (a + 2) (room - 1) := tks_blank X (a + 0 + 1) _ (by decide)
  rw [e]
  show (tks (32 :: X) (a + 0 + 1) (room - 1)).pre _ = _
  rw [e2]
  rfl
/-- where the i-th name stands -/
def plc : Nat → Nat
  | 0 => 7
  | i + 1 => plc i + (nameL i).length + 2
/-- m + 1 names -/
def namesTo : Nat → List UInt8
  | 0 => nameL 0
  | m + 1 => namesTo m ++ 44 :: 32 :: nameL (m + 1)
def namesT : Nat → List Tk
  | 0 => [⟨1, nameL 0, 0, 0, 7⟩]
  | m + 1 => namesT m ++ [⟨4, [44], 0, 0, plc m + (nameL m).length⟩, ⟨1, nameL (m + 1), 0, 0, plc (m + 1)⟩]
theorem namesT_len : ∀ m, (namesT m).length = 2 * m + 1
  | 0 => rfl
  | m + 1 => by simp [namesT, namesT_len m]; omega
theorem namesTo_len : ∀ m, m < 100 → 7 + (namesTo m).length = plc m + (nameL m).length ∧ (namesTo m).length ≤ 5 * m + 3
  | 0, _ => by decide
  | m + 1, h => by
    obtain ⟨h1, h2⟩ := namesTo_len m (by omega)
    have h3 := (name_facts ⟨m + 1, h⟩).2.2.1
    simp only at h3
    simp only [namesTo, List.length_append, List.length_cons, plc]
    omega
theorem preL_app (A B : List Tk) (r : Res) : preL (A ++ B) r = preL A (preL B r) := by simp [preL]
theorem tks_names : ∀ (m : Nat), m < 100 → ∀ (c : UInt8) (r : List UInt8) (room : Nat), word c = false → 2 * m + 1 ≤ room → tks (namesTo m ++ c :: r) 7 room = preL (namesT m) (tks (c :: r) (plc m + (nameL m).length) (room - (2 * m + 1)))
  | 0, h, c, r, room, hc, hr => by
    show tks (nameL 0 ++ c :: r) 7 room = _
    rw [tks_name 0 h hc r 7 room (by omega)]
    rfl
  | m + 1, h, c, r, room, hc, hr => by
    show tks (namesTo m ++ 44 :: 32 :: nameL (m + 1) ++ c :: r) 7 room = _
    rw [List.append_assoc, List.cons_append, List.cons_append, tks_names m (by omega) 44 _ room (by decide) (by omega), tks_comma _ _ _ (by omega), tks_name (m + 1) h hc r _ _ (by omega)]
    show _ = preL (namesT m ++ [_, _]) _
    rw [preL_app]
    rw [show room - (2 * m + 1) - 1 - 1 = room - (2 * (m + 1) + 1) by omega]
    rfl
/-- the kind's name -/
def kindN (k : Nat) : List UInt8 := match k with

  | 1 => [98, 111, 111, 108]
  | 2 => [105, 56]
  | 3 => [105, 49, 54]
  | 4 => [105, 51, 50]
  | 5 => [105, 54, 52]
  | 6 => [117, 56]
  | 7 => [117, 49, 54]
  | 8 => [117, 51, 50]
  | 9 => [117, 54, 52]
  | _ => []
theorem tks_kind (k : Nat) (h1 : 1 ≤ k) (h2 : k ≤ 9) {c : UInt8} (hc : c = 94 ∨ c = 59) (r : List UInt8) (a room : Nat) (hr : 2 ≤ room) : tks (58 :: 32 :: (kindN k ++ c :: r)) a room = preL [⟨4, [58], 0, 0, a⟩, ⟨3, kindN k, 0, 0, a + 2⟩] (tks (c :: r) (a + 2 + (kindN k).length) (room - 2)) := by
  have e := tks_step (l := 58 :: 32 :: (kindN k ++ c :: r)) (r := 32 :: (kindN k ++ c :: r)) (kd := 4) (n := 0) (t := 0) (len := 1) (a := a) (room := room) (by kernel_rfl) (by decide) (by omega) (by kernel_rfl)
  have e2 : tks (32 :: (kindN k ++ c :: r)) (a + 1) (room - 1) = tks (kindN k ++ c :: r) (a + 2) (room - 1) := tks_blank _ (a + 1) _ (by decide)
  have e3 : tks (kindN k ++ c :: r) (a + 2) (room - 1) = (tks (c :: r) (a + 2 + (kindN k).length) (room - 2)).pre ⟨3, kindN k, 0, 0, a + 2⟩ := by
    rcases (show k = 1 ∨ k = 2 ∨ k = 3 ∨ k = 4 ∨ k = 5 ∨ k = 6 ∨ k = 7 ∨ k = 8 ∨ k = 9 by omega) with rfl | rfl | rfl | rfl | rfl | rfl | rfl | rfl | rfl <;> rcases hc with rfl | rfl
    · exact tks_step (l := 98 :: 111 :: 111 :: 108 :: 94 :: r) (r := 94 :: r) (kd := 3) (n := 0) (t := 0) (len := 4) (a := a + 2) (room := room - 1) (by kernel_rfl) (by decide) (by omega) (by kernel_rfl)
    · exact tks_step (l := 98 :: 111 :: 111 :: 108 :: 59 :: r) (r := 59 :: r) (kd := 3) (n := 0) (t := 0) (len := 4) (a := a + 2) (room := room - 1) (by kernel_rfl) (by decide) (by omega) (by kernel_rfl)
    · exact tks_step (l := 105 :: 56 :: 94 :: r) (r := 94 :: r) (kd := 3) (n := 0) (t := 0) (len := 2) (a := a + 2) (room := room - 1) (by kernel_rfl) (by decide) (by omega) (by kernel_rfl)
    · exact tks_step (l := 105 :: 56 :: 59 :: r) (r := 59 :: r) (kd := 3) (n := 0) (t := 0) (len := 2) (a := a + 2) (room := room - 1) (by kernel_rfl) (by decide) (by omega) (by kernel_rfl)
    · exact tks_step (l := 105 :: 49 :: 54 :: 94 :: r) (r := 94 :: r) (kd := 3) (n := 0) (t := 0) (len := 3) (a := a + 2) (room := room - 1) (by kernel_rfl) (by decide) (by omega) (by kernel_rfl)
    · exact tks_step (l := 105 :: 49 :: 54 :: 59 :: r) (r := 59 :: r) (kd := 3) (n := 0) (t := 0) (len := 3) (a := a + 2) (room := room - 1) (by kernel_rfl) (by decide) (by omega) (by kernel_rfl)
    · exact tks_step (l := 105 :: 51 :: 50 :: 94 :: r) (r := 94 :: r) (kd := 3) (n := 0) (t := 0) (len := 3) (a := a + 2) (room := room - 1) (by kernel_rfl) (by decide) (by omega) (by kernel_rfl)
    · exact tks_step (l := 105 :: 51 :: 50 :: 59 :: r) (r := 59 :: r) (kd := 3) (n := 0) (t := 0) (len := 3) (a := a + 2) (room := room - 1) (by kernel_rfl) (by decide) (by omega) (by kernel_rfl)
    · exact tks_step (l := 105 :: 54 :: 52 :: 94 :: r) (r := 94 :: r) (kd := 3) (n := 0) (t := 0) (len := 3) (a := a + 2) (room := room - 1) (by kernel_rfl) (by decide) (by omega) (by kernel_rfl)
    · exact tks_step (l := 105 :: 54 :: 52 :: 59 :: r) (r := 59 :: r) (kd := 3) (n := 0) (t := 0) (len := 3) (a := a + 2) (room := room - 1) (by kernel_rfl) (by decide) (by omega) (by kernel_rfl)
    · exact tks_step (l := 117 :: 56 :: 94 :: r) (r := 94 :: r) (kd := 3) (n := 0) (t := 0) (len := 2) (a := a + 2) (room := room - 1) (by kernel_rfl) (by decide) (by omega) (by kernel_rfl)
    · exact tks_step (l := 117 :: 56 :: 59 :: r) (r := 59 :: r) (kd := 3) (n := 0) (t := 0) (len := 2) (a := a + 2) (room := room - 1) (by kernel_rfl) (by decide) (by omega) (by kernel_rfl)
    · exact tks_step (l := 117 :: 49 :: 54 :: 94 :: r) (r := 94 :: r) (kd := 3) (n := 0) (t := 0) (len := 3) (a := a + 2) (room := room - 1) (by kernel_rfl) (by decide) (by omega) (by kernel_rfl)
    · exact tks_step (l := 117 :: 49 :: 54 :: 59 :: r) (r := 59 :: r) (kd := 3) (n := 0) (t := 0) (len := 3) (a := a + 2) (room := room - 1) (by kernel_rfl) (by decide) (by omega) (by kernel_rfl)
    · exact tks_step (l := 117 :: 51 :: 50 :: 94 :: r) (r := 94 :: r) (kd := 3) (n := 0) (t := 0) (len := 3) (a := a + 2) (room := room - 1) (by kernel_rfl) (by decide) (by omega) (by kernel_rfl)
    · exact tks_step (l := 117 :: 51 :: 50 :: 59 :: r) (r := 59 :: r) (kd := 3) (n := 0) (t := 0) (len := 3) (a := a + 2) (room := room - 1) (by kernel_rfl) (by decide) (by omega) (by kernel_rfl)
    · exact tks_step (l := 117 :: 54 :: 52 :: 94 :: r) (r := 94 :: r) (kd := 3) (n := 0) (t := 0) (len := 3) (a := a + 2) (room := room - 1) (by kernel_rfl) (by decide) (by omega) (by kernel_rfl)
    · exact tks_step (l := 117 :: 54 :: 52 :: 59 :: r) (r := 59 :: r) (kd := 3) (n := 0) (t := 0) (len := 3) (a := a + 2) (room := room - 1) (by kernel_rfl) (by decide) (by omega) (by kernel_rfl)
  rw [e]
  show (tks (32 :: (kindN k ++ c :: r)) (a + 1) (room - 1)).pre _ = _
  rw [e2, e3]
  rfl
theorem tks_size (z : Nat) (hz : z < 100) (r : List UInt8) (a room : Nat) (hr : 2 ≤ room) : tks (94 :: (dig z ++ 59 :: r)) a room = preL [⟨4, [94], 0, 0, a⟩, ⟨2, dig z, z, 0, a + 1⟩] (tks (59 :: r) (a + 1 + (dig z).length) (room - 2)) := by
  obtain ⟨f1, f2, f3, f4⟩ := dig_facts ⟨z, hz⟩
  simp only at f1 f2 f3 f4
  have h0 : skp false (94 :: (dig z ++ 59 :: r)) = 0 := by simp [skp, blank]
  have h1 : tokAt ((94 :: (dig z ++ 59 :: r)).drop (skp false (94 :: (dig z ++ 59 :: r)))) = .tok 4 0 0 1 := by
    rw [h0, List.drop_zero]
    show (if digit 94 then numTok (94 :: (dig z ++ 59 :: r)) else if word 94 then nameTok (94 :: (dig z ++ 59 :: r)) else signTok (94 :: (dig z ++ 59 :: r))) = _
    rw [if_neg (by decide), if_neg (by decide)]; unfold signTok signW; simp [pk]
  have e := tks_step (a := a) (room := room) h1 (by decide) (by omega) (r := dig z ++ 59 :: r) (by rw [h0]; rfl)
  rw [h0] at e
  have hd : ∃ c u, dig z = c :: u ∧ digit c = true ∧ blank c = false ∧ ¬ c.toNat = 45 := by
    cases hz2 : dig z with
    | nil => exact absurd hz2 f4
    | cons c u =>
      rw [hz2] at f1
      have h3 : digit c = true := by simp at f1; exact f1.1
      refine ⟨c, u, rfl, h3, ?_, ?_⟩
      · unfold digit at h3; unfold blank; simp at h3 ⊢; omega
      · unfold digit at h3; simp at h3; omega
  obtain ⟨c, u, hcu, hd1, hd2, hd3⟩ := hd
  have k0 : skp false (dig z ++ 59 :: r) = 0 := by
    rw [hcu, List.cons_append, skp, if_neg (by simp [hd2]), if_neg (by rintro ⟨h, _⟩; exact hd3 h)]
  have k1 : tokAt ((dig z ++ 59 :: r).drop (skp false (dig z ++ 59 :: r))) = .tok 2 z 0 (dig z).length := by
    rw [k0, List.drop_zero]
    have e : tokAt (dig z ++ 59 :: r) = numTok (dig z ++ 59 :: r) := by
      rw [hcu]
      show (if digit c then numTok (c :: u ++ 59 :: r) else if word c then nameTok (c :: u ++ 59 :: r) else signTok (c :: u ++ 59 :: r)) = _
      rw [if_pos hd1]
    rw [e]
    unfold numTok
    dsimp only
    rw [spn_whole _ f1 (nw_dig (by decide) r), List.drop_left' rfl, List.take_left' rfl, nw_spn (by decide) r, if_pos rfl, if_pos (by unfold plainOk; simp; omega), f2]
  have e2 := tks_step (a := a + 1) (room := room - 1) k1 (by decide) (by omega) (r := 59 :: r) (by rw [k0, List.drop_zero, List.drop_left' rfl])
  rw [k0, List.drop_zero, List.take_left' rfl] at e2
  rw [e]
  show (tks (dig z ++ 59 :: r) (a + 1) (room - 1)).pre _ = _
  rw [e2]
  rfl
/-- more room does no harm -/
theorem toks_room : ∀ (f : Nat) (l : List UInt8) (a room room' : Nat) (L : List Tk), toks f l a room = .ok L → room ≤ room' → toks f l a room' = .ok L
  | 0, _, _, _, _, _, h, _ => by cases h
  | f + 1, l, a, room, room', L, h, hr => by
    rw [toks] at h ⊢
    cases htk : tokAt (l.drop (skp false l)) with
    | bad e => rw [htk] at h; cases h
    | tok kd n t len =>
      rw [htk] at h
      dsimp only at h ⊢
      by_cases h0 : room = 0
      · rw [if_pos h0] at h; cases h
      · rw [if_neg h0] at h
        rw [if_neg (by omega)]
        by_cases h5 : kd = 5
        · rw [if_pos h5] at h ⊢; exact h
        · rw [if_neg h5] at h ⊢
          obtain ⟨l2, hl, rfl⟩ := Res.pre_ok h
          rw [toks_room f _ _ _ (room' - 1) _ hl (by omega)]
          rfl

def sufL : List UInt8 := [59, 32, 99, 58, 32, 98, 111, 111, 108, 41, 32, 114, 101, 116, 117, 114, 110, 115, 32, 40, 122, 58, 32, 105, 56, 41, 32, 118, 97, 114, 32, 112, 44, 32, 113, 58, 32, 105, 56, 32, 119, 104, 101, 110, 32, 99, 32, 97, 110, 100, 32, 110, 111, 116, 32, 100, 59, 32, 108, 101, 116, 32, 122, 32, 61, 32, 97, 48, 59, 32, 116, 101, 108]
def sufT : List Tk := ⟨4, [59], 0, 0, 0⟩ :: ⟨1, [99], 0, 0, 2⟩ :: ⟨4, [58], 0, 0, 3⟩ :: ⟨3, [98, 111, 111, 108], 0, 0, 5⟩ :: ⟨4, [41], 0, 0, 9⟩ :: ⟨3, [114, 101, 116, 117, 114, 110, 115], 0, 0, 11⟩ :: ⟨4, [40], 0, 0, 19⟩ :: ⟨1, [122], 0, 0, 20⟩ :: ⟨4, [58], 0, 0, 21⟩ :: ⟨3, [105, 56], 0, 0, 23⟩ :: ⟨4, [41], 0, 0, 25⟩ :: ⟨3, [118, 97, 114], 0, 0, 27⟩ :: ⟨1, [112], 0, 0, 31⟩ :: ⟨4, [44], 0, 0, 32⟩ :: ⟨1, [113], 0, 0, 34⟩ :: ⟨4, [58], 0, 0, 35⟩ :: ⟨3, [105, 56], 0, 0, 37⟩ :: ⟨3, [119, 104, 101, 110], 0, 0, 40⟩ :: ⟨1, [99], 0, 0, 45⟩ :: ⟨3, [97, 110, 100], 0, 0, 47⟩ :: ⟨3, [110, 111, 116], 0, 0, 51⟩ :: ⟨1, [100], 0, 0, 55⟩ :: ⟨4, [59], 0, 0, 56⟩ :: ⟨3, [108, 101, 116], 0, 0, 58⟩ :: ⟨1, [122], 0, 0, 62⟩ :: ⟨4, [61], 0, 0, 64⟩ :: ⟨1, [97, 48], 0, 0, 66⟩ :: ⟨4, [59], 0, 0, 68⟩ :: ⟨3, [116, 101, 108], 0, 0, 70⟩ :: ⟨5, [], 0, 0, 73⟩ :: []
theorem tks_suf0 : toks (sufL.length + 1) sufL 0 30 = .ok sufT := by decide +kernel
theorem tks_suf (a room : Nat) (h : 30 ≤ room) : tks sufL a room = .ok (sufT.map (Tk.far a)) := by
  unfold tks
  have e := toks_far a (sufL.length + 1) sufL 0 room
  rw [Nat.zero_add, toks_room _ _ _ _ room _ tks_suf0 h] at e
  exact e
def nodeL : List UInt8 := [110, 111, 100, 101, 32, 102, 40]
def nodeT : List Tk := [⟨3, [110, 111, 100, 101], 0, 0, 0⟩, ⟨1, [102], 0, 0, 5⟩, ⟨4, [40], 0, 0, 6⟩]
theorem tks_node (X : List UInt8) (room : Nat) (h : 3 ≤ room) : tks (nodeL ++ X) 0 room = preL nodeT (tks X 7 (room - 3)) := by
  have h0 := tks_step (l := 110 :: 111 :: 100 :: 101 :: 32 :: 102 :: 40 :: X) (r := 32 :: 102 :: 40 :: X) (kd := 3) (n := 0) (t := 0) (len := 4) (a := 0) (room := room) (by kernel_rfl) (by decide) (by omega) (by kernel_rfl)
  have h1 := tks_step (l := 32 :: 102 :: 40 :: X) (r := 40 :: X) (kd := 1) (n := 0) (t := 0) (len := 1) (a := 4) (room := room - 1) (by kernel_rfl) (by decide) (by omega) (by kernel_rfl)
  have h2 := tks_one 40 (.inl rfl) X 6 (room - 1 - 1) (by omega)
  show tks (110 :: 111 :: 100 :: 101 :: 32 :: 102 :: 40 :: X) 0 room = _
  rw [h0]
  show (tks (32 :: 102 :: 40 :: X) 4 (room - 1)).pre _ = _
  rw [h1]
  show ((tks (40 :: X) 6 (room - 1 - 1)).pre _).pre _ = _
  rw [h2]
  rfl
/-- the type -/
def tyL (k z : Nat) : List UInt8 := kindN k ++ (if z = 0 then [] else 94 :: dig z)
def tyT (k z a : Nat) : List Tk := ⟨4, [58], 0, 0, a⟩ :: ⟨3, kindN k, 0, 0, a + 2⟩ :: (if z = 0 then [] else [⟨4, [94], 0, 0, a + 2 + (kindN k).length⟩, ⟨2, dig z, z, 0, a + 2 + (kindN k).length + 1⟩])
theorem tks_ty (k z : Nat) (h1 : 1 ≤ k) (h2 : k ≤ 9) (hz : z < 100) (r : List UInt8) (a room : Nat) (hr : 4 ≤ room) : tks (58 :: 32 :: (tyL k z ++ 59 :: r)) a room = preL (tyT k z a) (tks (59 :: r) (a + 2 + (tyL k z).length) (room - (tyT k z a).length)) := by
  by_cases h : z = 0
  · subst h
    unfold tyL tyT
    rw [if_pos rfl, if_pos rfl, List.append_nil, tks_kind k h1 h2 (.inr rfl) r a room (by omega)]
    rfl
  · unfold tyL tyT
    rw [if_neg h, if_neg h, List.append_assoc, List.cons_append, tks_kind k h1 h2 (.inl rfl) _ a room (by omega), tks_size z hz r _ _ (by omega)]
    rw [List.length_append, List.length_cons, show a + 2 + (kindN k).length + 1 + (dig z).length = a + 2 + ((kindN k).length + ((dig z).length + 1)) by omega, show room - 2 - 2 = room - 4 by omega]
    rfl
theorem kindN_len : ∀ k : Fin 10, (kindN k).length ≤ 4 := by decide
theorem tyL_len (k z : Nat) (h2 : k ≤ 9) (hz : z < 100) : (tyL k z).length ≤ 7 := by
  have h3 := kindN_len ⟨k, by omega⟩
  have h4 := (dig_facts ⟨z, hz⟩).2.2.1
  simp only at h3 h4
  unfold tyL
  split
  · simp; omega
  · simp; omega
/-- the text that GramDecls makes, of m + 1 names -/
def declL (m k z : Nat) : List UInt8 := nodeL ++ namesTo m ++ 58 :: 32 :: (tyL k z ++ sufL)
def declT (m k z : Nat) : List Tk := nodeT ++ (namesT m ++ (tyT k z (plc m + (nameL m).length) ++ sufT.map (Tk.far (plc m + (nameL m).length + 2 + (tyL k z).length))))
theorem tokens_decl (m k z : Nat) (hm : m < 30) (h1 : 1 ≤ k) (h2 : k ≤ 9) (hz : z < 100) : tokens (declL m k z) = .ok (declT m k z) := by
  have l1 := (namesTo_len m (by omega)).2
  have l2 := tyL_len k z h2 hz
  have l3 : sufL.length = 73 := rfl
  have l4 : nodeL.length = 7 := rfl
  have l5 : (tyT k z (plc m + (nameL m).length)).length ≤ 4 := by unfold tyT; split <;> simp
  unfold tokens
  rw [if_neg (by unfold declL; simp [l3, l4]; omega)]
  show tks (declL m k z) 0 20000 = _
  unfold declL
  rw [List.append_assoc, tks_node _ _ (by omega), tks_names m (by omega) 58 _ _ (by decide) (by omega)]
  have e : tks (58 :: 32 :: (tyL k z ++ sufL)) (plc m + (nameL m).length) (20000 - 3 - (2 * m + 1)) = preL (tyT k z (plc m + (nameL m).length)) (tks sufL (plc m + (nameL m).length + 2 + (tyL k z).length) (20000 - 3 - (2 * m + 1) - (tyT k z (plc m + (nameL m).length)).length)) := tks_ty k z h1 h2 hz [32, 99, 58, 32, 98, 111, 111, 108, 41, 32, 114, 101, 116, 117, 114, 110, 115, 32, 40, 122, 58, 32, 105, 56, 41, 32, 118, 97, 114, 32, 112, 44, 32, 113, 58, 32, 105, 56, 32, 119, 104, 101, 110, 32, 99, 32, 97, 110, 100, 32, 110, 111, 116, 32, 100, 59, 32, 108, 101, 116, 32, 122, 32, 61, 32, 97, 48, 59, 32, 116, 101, 108] _ _ (by omega)
  rw [e, tks_suf _ _ (by omega), preL_ok, preL_ok, preL_ok]
  rfl
end Go.Proofs.YtjcdkgjfecnkgabGreatDoor.Lex
