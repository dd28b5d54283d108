/- The plain mathematics of the grammar: runs of the model over tokens of which only kinds and texts are known. -/
import Derived.Test.YtachmiajldeakaaGreatDoorMgK
namespace Go.Proofs.YtachmiajldeakaaGreatDoor.Gram
open Go.RowKit
open Lex (Tk)

/-- a token's kind and text -/
def key (t : Tk) : Int × B := (t.kind, t.text)
def keys (T : List Tk) : List (Int × B) := T.map key
/-- the token at i has that kind and text -/
def At (T : List Tk) (i : Nat) (k : Int × B) : Prop := (tk T i).kind = k.1 ∧ (tk T i).text = k.2
theorem at_of {T : List Tk} {i : Nat} {l : List (Int × B)} (h : (keys T).drop i = l) (k : Nat) {x : Int × B} (hk : l[k]? = some x) : At T (i + k) x := by
  rw [← h, List.getElem?_drop] at hk
  unfold keys at hk
  rw [List.getElem?_map] at hk
  cases ht : T[i + k]? with
  | none => rw [ht] at hk; cases hk
  | some t =>
    rw [ht] at hk
    simp at hk
    have e : tk T (i + k) = t := by unfold tk; simp [List.getD, ht]
    unfold At
    rw [e, ← hk]
    exact ⟨rfl, rfl⟩
theorem drop_of {α : Type} {K : List α} {i : Nat} {u r : List α} (h : K.drop i = u ++ r) : K.drop (i + u.length) = r := by
  rw [← List.drop_drop, h]; simp

section
variable {T : List Tk} {i : Nat} {k : Int × B}
theorem At.sees (h : At T i k) (s : B) : sees T i s = (k.2 == s) := by unfold Gram.sees; rw [h.2]
theorem At.isName (h : At T i k) : isName T i = (k.1 == 1) := by unfold Gram.isName; rw [h.1]
theorem At.isNum (h : At T i k) : isNum T i = (k.1 == 2) := by unfold Gram.isNum; rw [h.1]
theorem At.isVal (h : At T i k) (hk : k.1 ≠ 2) : isVal T i = false := by unfold Gram.isVal; rw [h.isNum]; simp [hk]
theorem At.expect (h : At T i k) (s : B) (hs : k.2 = s) : expect T i s = .ok (tk T i) (i + 1) := by unfold Gram.expect Gram.need; rw [h.sees, hs]; simp
theorem At.name (h : At T i k) (hk : k.1 = 1) : name T i = .ok k.2 (i + 1) := by unfold Gram.name Gram.need; rw [h.isName, hk, h.2]; simp
theorem At.sign (h : At T i k) (lv : Nat) : sign T i lv = (signs lv).find? (fun s => k.2 == s.1) := by unfold Gram.sign; rw [h.2]
theorem At.seesExp (h : At T i k) (hk : k.1 ≠ 2) : seesExp T i = (expWords.contains k.2 || k.1 == 1) := by unfold Gram.seesExp; rw [h.2, h.isName, h.isVal hk]; simp
theorem At.kind (h : At T i k) (hk : Lex.kindOf k.2 ≠ 0) : kind T i = .ok (Lex.kindOf k.2) (i + 1) := by unfold Gram.kind Gram.need; rw [h.2]; simp [hk]
end

/-- the signs behind which no expression goes on -/
def Quiet (s : B) : Bool := s == [59] || s == [44] || s == [41] || s == [93] || s == [58]
theorem quiet_sign {s : B} (h : Quiet s = true) (lv : Nat) : (signs lv).find? (fun x => s == x.1) = none := by
  unfold Quiet at h
  simp only [Bool.or_eq_true, beq_iff_eq] at h
  unfold signs
  rcases h with (((rfl | rfl) | rfl) | rfl) | rfl <;> split <;> decide
theorem quiet_91 {s : B} (h : Quiet s = true) : (s == [91]) = false ∧ (s == [40]) = false := by
  unfold Quiet at h
  simp only [Bool.or_eq_true, beq_iff_eq] at h
  rcases h with (((rfl | rfl) | rfl) | rfl) | rfl <;> decide

/-- what the tightest level reads, all levels read, if no sign is behind it -/
theorem read_up {T : List Tk} {f d i j : Nat} {e : Exp} (h : read T (f + 1) d 11 i = .ok e j) (hs : ∀ lv, sign T j lv = none) : ∀ k, k ≤ 11 → read T (f + 1 + k) d (11 - k) i = .ok e j
  | 0, _ => h
  | k + 1, hk => by
    have ih := read_up h hs k (by omega)
    have e1 : 11 - (k + 1) + 1 = 11 - k := by omega
    have e2 : f + 1 + (k + 1) = (f + 1 + k) + 1 := by omega
    rw [e2, read, e1, ih]
    have h3 := hs (11 - (k + 1))
    by_cases h1 : 11 - (k + 1) ≤ 2
    · rw [if_pos h1]; simp only [PR.bind, h3]
    · rw [if_neg h1]
      by_cases h2 : 11 - (k + 1) = 5
      · rw [if_pos h2]; simp only [PR.bind, h3]
      · rw [if_neg h2, if_pos (by omega)]
        simp only [PR.bind]
        rw [show f + 1 + k = (f + k) + 1 by omega, lefts, h3]
def quietOn (T : List Tk) (j : Nat) : Prop := ∃ k, At T j k ∧ Quiet k.2 = true
theorem quietOn.sign {T : List Tk} {j : Nat} (h : quietOn T j) (lv : Nat) : sign T j lv = none := by
  obtain ⟨k, h1, h2⟩ := h
  rw [h1.sign]; exact quiet_sign h2 lv
/-- a name alone -/
theorem exp_name {T : List Tk} {i : Nat} {s : B} (h : At T i (1, s)) (hs : (s == [110, 111, 116]) = false ∧ (s == [45]) = false ∧ (s == [112, 114, 101]) = false) (hq : quietOn T (i + 1)) (f d : Nat) (hd : d < 40) (hf : 15 ≤ f) : exp T f d i = .ok (.mk 2 0 s 0 0 0 0 [] (tk T i).at_) (i + 1) := by
  obtain ⟨g, rfl⟩ : ∃ g, f = g + 15 := ⟨f - 15, by omega⟩
  have h11 : read T (g + 2 + 1) (d + 1) 11 i = .ok (.mk 2 0 s 0 0 0 0 [] (tk T i).at_) (i + 1) := by
    rw [read, if_neg (by omega), if_neg (by omega), if_neg (by omega), h.sees, h.sees, h.sees, hs.1, hs.2.1, hs.2.2]
    simp only [Bool.or_self, Bool.false_eq_true, if_false]
    rw [prim, h.isVal (by simp), h.isName]
    obtain ⟨k, h1, h2⟩ := hq
    rw [h1.sees, (quiet_91 h2).2]
    simp only [Bool.false_eq_true, if_false, beq_self_eq_true, if_true, PR.bind]
    rw [indexed, h1.sees, (quiet_91 h2).1, h.2]
    simp
  have h0 := read_up h11 (fun lv => hq.sign lv) 11 (by omega)
  rw [exp, h.seesExp (by simp)]
  simp only [need, beq_self_eq_true, Bool.or_true, if_true]
  unfold room
  rw [if_neg (by omega)]
  exact h0

/-! z = a; -/
def itemU : List (Int × B) := [(1, [122]), (4, [61]), (1, [97]), (4, [59])]
theorem item_run {T : List Tk} {i : Nat} {r : List (Int × B)} (h : (keys T).drop i = itemU ++ r) (f d : Nat) (hd : d < 40) (hf : 16 ≤ f) : ∃ x, item T f d i = .ok x (i + 4) := by
  obtain ⟨g, rfl⟩ : ∃ g, f = g + 16 := ⟨f - 16, by omega⟩
  have h0 := at_of h 0 rfl
  have h1 := at_of h 1 rfl
  have h2 := at_of h 2 rfl
  have h3 := at_of h 3 rfl
  rw [Nat.add_zero] at h0
  rw [item, h0.sees]
  rw [if_neg (by decide)]
  unfold equation
  rw [h0.sees, if_neg (by decide), h0.name rfl]
  simp only [PR.bind]
  rw [h1.expect _ rfl]
  simp only
  rw [exp_name h2 (by decide) ⟨_, h3, by decide⟩ _ _ hd (by omega)]
  simp only
  rw [h3.expect _ rfl]
  exact ⟨_, rfl⟩
theorem seesItem_at {T : List Tk} {i : Nat} {k : Int × B} (h : At T i k) : seesItem T i = (k.1 == 1 || k.2 == [40] || k.2 == [97, 117, 116, 111, 109, 97, 116, 111, 110]) := by
  unfold seesItem; rw [h.isName, h.sees, h.sees]
/-- n equations, and what is no item behind them -/
theorem items_run {T : List Tk} {k : Int × B} {r : List (Int × B)} (hk : (k.1 == 1 || k.2 == [40] || k.2 == [97, 117, 116, 111, 109, 97, 116, 111, 110]) = false) : ∀ (n : Nat) (f d : Nat) (acc : List Item) (i : Nat), d < 40 → n + 17 ≤ f → (keys T).drop i = (List.replicate n itemU).flatten ++ k :: r → acc.length ≤ 200 →
    (acc.length + n ≤ 200 → ∃ l, items T f d acc i = .ok l (i + 4 * n)) ∧ (200 < acc.length + n → ∃ a, items T f d acc i = .bad a 2)
  | 0, f, d, acc, i, hd, hf, h, ha => by
    obtain ⟨g, rfl⟩ : ∃ g, f = g + 1 := ⟨f - 1, by omega⟩
    have h0 := at_of h 0 rfl
    rw [Nat.add_zero] at h0
    rw [items, seesItem_at h0, hk]
    exact ⟨fun _ => ⟨_, rfl⟩, fun h => by omega⟩
  | n + 1, f, d, acc, i, hd, hf, h, ha => by
    obtain ⟨g, rfl⟩ : ∃ g, f = g + 1 := ⟨f - 1, by omega⟩
    rw [List.replicate_succ, List.flatten_cons, List.append_assoc] at h
    have h0 := at_of h 0 rfl
    rw [Nat.add_zero] at h0
    rw [items, seesItem_at h0]
    simp only [beq_self_eq_true, Bool.true_or, if_true]
    unfold room
    by_cases hr : 200 ≤ acc.length
    · rw [if_pos hr]
      exact ⟨fun _ => by omega, fun _ => ⟨_, rfl⟩⟩
    · rw [if_neg hr]
      obtain ⟨x, hx⟩ := item_run h g d hd (by omega)
      rw [hx]
      simp only [PR.bind]
      have h2 := drop_of h
      have ih := items_run hk n g d (acc ++ [x]) (i + 4) hd (by omega) h2 (by simp; omega)
      rw [List.length_append, List.length_singleton] at ih
      refine ⟨fun h5 => ?_, fun h5 => ih.2 (by omega)⟩
      obtain ⟨l, hl⟩ := ih.1 (by omega)
      exact ⟨l, by rw [hl]; congr 1; omega⟩

/-! node f() returns (z: i8) let ITEMS tel -/
def nodeU1 : List (Int × B) := [(3, [110, 111, 100, 101]), (1, [102]), (4, [40]), (4, [41]), (3, [114, 101, 116, 117, 114, 110, 115]), (4, [40]), (1, [122]), (4, [58]), (3, [105, 56]), (4, [41]), (3, [108, 101, 116])]
theorem decls_z {T : List Tk} {i : Nat} (h0 : At T i (1, [122])) (h1 : At T (i + 1) (4, [58])) (h2 : At T (i + 1 + 1) (3, [105, 56])) (h3 : At T (i + 1 + 1 + 1) (4, [41])) (f : Nat) (hf : 3 ≤ f) : ∃ l, decls T f [] i = .ok l (i + 1 + 1 + 1) := by
  obtain ⟨g, rfl⟩ : ∃ g, f = g + 2 := ⟨f - 2, by omega⟩
  have hn : names T (g + 1) [] 0 i = .ok [([122], ((tk T i).at_ : Int))] (i + 1) := by
    rw [names, h0.isName, h1.sees, h0.2]
    simp [need, room]
  rw [decls]
  unfold decl
  rw [List.length_nil, hn]
  simp only [PR.bind]
  rw [h1.expect _ rfl]
  simp only
  unfold ty
  rw [h2.kind (by decide)]
  simp only [PR.bind]
  rw [h3.sees, if_neg (by decide)]
  simp only
  rw [h3.sees, if_neg (by decide)]
  exact ⟨_, rfl⟩
/-- the head of such a node, then its items -/
theorem node_head {T : List Tk} {i : Nat} {r : List (Int × B)} (h : (keys T).drop i = nodeU1 ++ r) (f : Nat) (hf : 3 ≤ f) : ∃ F : List Item → Node, node T f i = need T (i + 11) (seesItem T (i + 11)) ((items T f 0 [] (i + 11)).bind fun its j => (expect T j [116, 101, 108]).bind fun _ j => .ok (F its) j) := by
  have h0 := at_of h 0 rfl
  have h1 := at_of h 1 rfl
  have h2 := at_of h 2 rfl
  have h3 := at_of h 3 rfl
  have h4 := at_of h 4 rfl
  have h5 := at_of h 5 rfl
  have h6 := at_of h 6 rfl
  have h7 := at_of h 7 rfl
  have h8 := at_of h 8 rfl
  have h9 := at_of h 9 rfl
  have h10 := at_of h 10 rfl
  obtain ⟨l, hl⟩ := decls_z h6 h7 h8 h9 f hf
  unfold node
  rw [Nat.add_zero] at h0
  rw [h0.expect _ rfl]
  simp only [PR.bind]
  rw [h1.name rfl]
  simp only
  rw [h2.expect _ rfl]
  simp only
  rw [h3.sees, if_pos (by decide)]
  simp only
  rw [h3.expect _ rfl]
  simp only
  rw [h4.expect _ rfl]
  simp only
  rw [h5.expect _ rfl]
  simp only
  rw [hl]
  simp only
  rw [h9.expect _ rfl]
  simp only
  unfold locals
  rw [h10.sees, if_neg (by decide)]
  simp only
  rw [h10.expect _ rfl]
  exact ⟨_, rfl⟩
def nodeU : List (Int × B) := nodeU1 ++ itemU ++ [(3, [116, 101, 108])]
theorem node_run {T : List Tk} {i : Nat} {r : List (Int × B)} (h : (keys T).drop i = nodeU ++ r) (f : Nat) (hf : 20 ≤ f) : ∃ x, node T f i = .ok x (i + 16) := by
  have h1 : (keys T).drop i = nodeU1 ++ (itemU ++ ((3, [116, 101, 108]) :: r)) := by rw [h]; simp [nodeU]
  obtain ⟨F, hF⟩ := node_head h1 f (by omega)
  have h2 := drop_of h1
  have h3 := at_of h2 0 rfl
  obtain ⟨l, hl⟩ := (items_run (T := T) (k := (3, [116, 101, 108])) (r := r) (by decide) 1 f 0 [] (i + 11) (by omega) (by omega) (by rw [show i + 11 = i + nodeU1.length from rfl, h2]; rfl) (by simp)).1 (by simp)
  have h4 : (keys T).drop (i + 15) = (3, [116, 101, 108]) :: r := by have := drop_of h2; exact this
  have h5 := at_of h4 0 rfl
  rw [hF, show seesItem T (i + 11) = true from by rw [show i + 11 = i + nodeU1.length + 0 from rfl, seesItem_at h3]; rfl]
  simp only [need, if_true]
  rw [hl]
  simp only [PR.bind]
  rw [show i + 11 + 4 * 1 = i + 15 + 0 from rfl, h5.expect _ rfl]
  exact ⟨_, rfl⟩
theorem nodes_run {T : List Tk} {r : List (Int × B)} : ∀ (n : Nat) (f : Nat) (acc : List Node) (i : Nat), n + 21 ≤ f → (keys T).drop i = (List.replicate n nodeU).flatten ++ (5, []) :: r → acc.length ≤ 60 →
    (acc.length + n ≤ 60 → ∃ l, nodes T f acc i = .ok l (i + 16 * n)) ∧ (60 < acc.length + n → ∃ a, nodes T f acc i = .bad a 2)
  | 0, f, acc, i, hf, h, ha => by
    obtain ⟨g, rfl⟩ : ∃ g, f = g + 1 := ⟨f - 1, by omega⟩
    have h0 := at_of h 0 rfl
    rw [Nat.add_zero] at h0
    rw [nodes, h0.sees]
    exact ⟨fun _ => ⟨_, rfl⟩, fun h => by omega⟩
  | n + 1, f, acc, i, hf, h, ha => by
    obtain ⟨g, rfl⟩ : ∃ g, f = g + 1 := ⟨f - 1, by omega⟩
    rw [List.replicate_succ, List.flatten_cons, List.append_assoc] at h
    have h0 := at_of h 0 rfl
    rw [Nat.add_zero] at h0
    rw [nodes, h0.sees, if_pos (by decide)]
    unfold room
    by_cases hr : 60 ≤ acc.length
    · rw [if_pos hr]
      exact ⟨fun _ => by omega, fun _ => ⟨_, rfl⟩⟩
    · rw [if_neg hr]
      obtain ⟨x, hx⟩ := node_run h g (by omega)
      rw [hx]
      simp only [PR.bind]
      have h2 : (keys T).drop (i + 16) = _ := drop_of h
      have ih := nodes_run n g (acc ++ [x]) (i + 16) (by omega) h2 (by simp; omega)
      rw [List.length_append, List.length_singleton] at ih
      refine ⟨fun h5 => ?_, fun h5 => ih.2 (by omega)⟩
      obtain ⟨l, hl⟩ := ih.1 (by omega)
      exact ⟨l, by rw [hl]; congr 1; omega⟩
end Go.Proofs.YtachmiajldeakaaGreatDoor.Gram
