/- As GuE: rows of names, of arguments, of states. -/
import Derived.Test.YtjcdkgjfecnkgaaGreatDoorGuE
namespace Go.Proofs.YtjcdkgjfecnkgaaGreatDoor.Gram
open Go.RowKit
open Lex (Tk)

def commaU : List (Int × B) := [(4, [44]), (1, [97])]
theorem names_run {T : List Tk} {r : List (Int × B)} : ∀ (m f : Nat) (acc : List (B × Int)) (i : Nat), m + 1 ≤ f → (keys T).drop i = (1, [97]) :: ((List.replicate m commaU).flatten ++ (4, [58]) :: r) → acc.length ≤ 200 →
    (acc.length + m + 1 ≤ 200 → ∃ l, names T f acc 0 i = .ok l (i + 2 * m + 1)) ∧ (200 < acc.length + m + 1 → ∃ a, names T f acc 0 i = .bad a 2)
  | 0, f, acc, i, hf, h, ha => by
    obtain ⟨g, rfl⟩ : ∃ g, f = g + 1 := ⟨f - 1, by omega⟩
    have h0 := at_of h 0 rfl
    have h1 := at_of h 1 rfl
    rw [Nat.add_zero] at h0
    rw [names, h0.isName, h1.sees]
    simp only [need, beq_self_eq_true, if_true]
    unfold room
    by_cases hr : 200 ≤ 0 + acc.length
    · rw [if_pos hr]; exact ⟨fun _ => by omega, fun _ => ⟨_, rfl⟩⟩
    · rw [if_neg hr, if_neg (by decide)]; exact ⟨fun _ => ⟨_, rfl⟩, fun _ => by omega⟩
  | m + 1, f, acc, i, hf, h, ha => by
    obtain ⟨g, rfl⟩ : ∃ g, f = g + 1 := ⟨f - 1, by omega⟩
    rw [List.replicate_succ, List.flatten_cons, List.append_assoc] at h
    have h0 := at_of h 0 rfl
    have h1 := at_of h 1 rfl
    rw [Nat.add_zero] at h0
    rw [names, h0.isName, h1.sees]
    simp only [need, beq_self_eq_true, if_true]
    unfold room
    by_cases hr : 200 ≤ 0 + acc.length
    · rw [if_pos hr]; exact ⟨fun _ => by omega, fun _ => ⟨_, rfl⟩⟩
    · rw [if_neg hr]
      have h2 : (keys T).drop (i + 2) = (1, [97]) :: ((List.replicate m commaU).flatten ++ (4, [58]) :: r) := drop_of (u := [(1, [97]), (4, [44])]) h
      have ih := names_run m g (acc ++ [((tk T i).text, ((tk T i).at_ : Int))]) (i + 2) (by omega) h2 (by simp; omega)
      rw [List.length_append, List.length_singleton] at ih
      refine ⟨fun h5 => ?_, fun h5 => ih.2 (by omega)⟩
      obtain ⟨l, hl⟩ := ih.1 (by omega)
      exact ⟨l, by rw [hl]; congr 1; omega⟩

/-! node f(a, .., a: i8) returns (z: i8) let z = a; tel -/
def insU1 : List (Int × B) := [(3, [110, 111, 100, 101]), (1, [102]), (4, [40])]
def insU2 : List (Int × B) := [(4, [58]), (3, [105, 56]), (4, [41]), (3, [114, 101, 116, 117, 114, 110, 115]), (4, [40]), (1, [122]), (4, [58]), (3, [105, 56]), (4, [41]), (3, [108, 101, 116])] ++ itemU ++ [(3, [116, 101, 108]), (5, [])]
theorem ins_run {T : List Tk} (m : Nat) (h : (keys T).drop 0 = insU1 ++ ((1, [97]) :: ((List.replicate m commaU).flatten ++ insU2))) (f : Nat) (hf : m + 30 ≤ f) :
    (m + 1 ≤ 200 → ∃ l j, program T f = .ok l j) ∧ (200 < m + 1 → ∃ a, program T f = .bad a 2) := by
  obtain ⟨g, rfl⟩ : ∃ g, f = g + 3 := ⟨f - 3, by omega⟩
  have h0 := at_of h 0 rfl
  have h1 := at_of h 1 rfl
  have h2 := at_of h 2 rfl
  have h3 := at_of h 3 rfl
  have hA : (keys T).drop (0 + 3) = _ := drop_of h
  have hN := names_run (T := T) m (g + 1) [] (0 + 3) (by omega) hA (by simp)
  rw [List.length_nil, Nat.zero_add] at hN
  have e1 : (List.replicate m commaU).flatten.length = 2 * m := by simp [commaU, List.length_flatten]; omega
  have hB : (keys T).drop (0 + 3 + 2 * m + 1) = insU2 := by
    have := drop_of (u := (1, [97]) :: (List.replicate m commaU).flatten) hA
    rw [List.length_cons, e1] at this
    rw [show 0 + 3 + 2 * m + 1 = 0 + 3 + (2 * m + 1) by omega]
    exact this
  obtain ⟨p, hp⟩ : ∃ p, p = 0 + 3 + 2 * m + 1 := ⟨_, rfl⟩
  rw [← hp] at hB hN
  have b0 := at_of hB 0 rfl
  have b1 := at_of hB 1 rfl
  have b2 := at_of hB 2 rfl
  have b3 := at_of hB 3 rfl
  have b4 := at_of hB 4 rfl
  have b5 := at_of hB 5 rfl
  have b6 := at_of hB 6 rfl
  have b7 := at_of hB 7 rfl
  have b8 := at_of hB 8 rfl
  have b9 := at_of hB 9 rfl
  have b10 := at_of hB 10 rfl
  have b14 := at_of hB 14 rfl
  have b15 := at_of hB 15 rfl
  rw [Nat.add_zero] at b0
  have hk : nodes T (g + 3) [] 0 = (node T (g + 2) 0).bind fun n j => nodes T (g + 2) ([] ++ [n]) j := by
    rw [nodes, show sees T 0 [110, 111, 100, 101] = true from by rw [h0.sees]; rfl]
    simp [room]
  have hd : node T (g + 2) 0 = (decls T (g + 2) [] 3).bind fun ins j => (expect T j [41]).bind fun _ j => (expect T j [114, 101, 116, 117, 114, 110, 115]).bind fun _ j => (expect T j [40]).bind fun _ j =>
      (decls T (g + 2) [] j).bind fun outs j => (expect T j [41]).bind fun _ j => (locals T (g + 2) j).bind fun ls j => (expect T j [108, 101, 116]).bind fun _ j =>
        need T j (seesItem T j) ((items T (g + 2) 0 [] j).bind fun its j => (expect T j [116, 101, 108]).bind fun _ j => .ok ⟨[102], ins, outs, ls, its, (tk T 0).at_⟩ j) := by
    unfold node
    rw [h0.expect _ rfl]
    simp only [PR.bind]
    rw [h1.name rfl]
    simp only
    rw [h2.expect _ rfl]
    simp only
    rw [show sees T (0 + 2 + 1) [41] = false from by rw [h3.sees]; rfl]
    rfl
  unfold program
  rw [hk, hd]
  refine ⟨fun hm => ?_, fun hm => ?_⟩
  · obtain ⟨l, hl⟩ := hN.1 hm
    have hD : ∃ vs, decls T (g + 2) [] 3 = .ok vs (p + 2) := by
      rw [decls]
      unfold decl
      rw [List.length_nil, hl]
      simp only [PR.bind]
      rw [b0.expect _ rfl]
      simp only
      unfold ty
      rw [b1.kind (by decide)]
      simp only [PR.bind]
      rw [b2.sees, if_neg (by decide)]
      simp only
      rw [b2.sees, if_neg (by decide)]
      exact ⟨_, rfl⟩
    obtain ⟨vs, hvs⟩ := hD
    obtain ⟨o, ho⟩ := decls_z b5 b6 b7 b8 (g + 2) (by omega)
    have hC : (keys T).drop (p + 10) = itemU ++ [(3, [116, 101, 108]), (5, [])] := by
      have := drop_of (K := keys T) (i := p) (u := [(4, [58]), (3, [105, 56]), (4, [41]), (3, [114, 101, 116, 117, 114, 110, 115]), (4, [40]), (1, [122]), (4, [58]), (3, [105, 56]), (4, [41]), (3, [108, 101, 116])]) (r := itemU ++ [(3, [116, 101, 108]), (5, [])]) (by rw [hB]; rfl)
      exact this
    obtain ⟨its, hi⟩ := (items_run (T := T) (k := (3, [116, 101, 108])) (r := [(5, [])]) (by decide) 1 (g + 2) 0 [] (p + 10) (by omega) (by omega) (by rw [hC]; rfl) (by simp)).1 (by simp)
    rw [hvs]
    simp only [PR.bind]
    rw [b2.expect _ rfl]
    simp only
    rw [b3.expect _ rfl]
    simp only
    rw [b4.expect _ rfl]
    simp only
    rw [ho]
    simp only
    rw [b8.expect _ rfl]
    simp only
    unfold locals
    rw [b9.sees, if_neg (by decide)]
    simp only
    rw [b9.expect _ rfl]
    simp only
    rw [show seesItem T (p + 9 + 1) = true from by rw [seesItem_at b10]; rfl]
    simp only [need, if_true]
    rw [show items T (g + 2) 0 [] (p + 9 + 1) = .ok its (p + 10 + 4 * 1) from hi]
    simp only
    rw [show p + 10 + 4 * 1 = p + 14 from rfl, b14.expect _ rfl]
    simp only
    rw [nodes, b15.sees]
    rw [if_neg (by decide)]
    simp only
    rw [b15.1]
    exact ⟨_, _, rfl⟩
  · obtain ⟨a, hl⟩ := hN.2 (by omega)
    have hD : decls T (g + 2) [] 3 = .bad a 2 := by
      rw [decls]
      unfold decl
      rw [List.length_nil, hl]
      rfl
    rw [hD]
    exact ⟨a, rfl⟩

/-! arguments -/
theorem exps_run {T : List Tk} {r : List (Int × B)} : ∀ (m f d : Nat) (acc : List Exp) (i : Nat), d < 40 → m + 17 ≤ f → (keys T).drop i = (1, [97]) :: ((List.replicate m commaU).flatten ++ (4, [41]) :: r) → acc.length ≤ 16 →
    (acc.length + m + 1 ≤ 16 → ∃ l, exps T f d acc i = .ok l (i + 2 * m + 1)) ∧ (16 < acc.length + m + 1 → ∃ a, exps T f d acc i = .bad a 2)
  | 0, f, d, acc, i, hd, hf, h, ha => by
    obtain ⟨g, rfl⟩ : ∃ g, f = g + 1 := ⟨f - 1, by omega⟩
    have h0 := at_of h 0 rfl
    have h1 := at_of h 1 rfl
    rw [Nat.add_zero] at h0
    rw [exps, h0.seesExp (by simp)]
    simp only [need, beq_self_eq_true, Bool.or_true, if_true]
    unfold room
    by_cases hr : 16 ≤ acc.length
    · rw [if_pos hr]; exact ⟨fun _ => by omega, fun _ => ⟨_, rfl⟩⟩
    · rw [if_neg hr, exp_name h0 (by decide) ⟨_, h1, by decide⟩ g d hd (by omega)]
      simp only [PR.bind]
      rw [h1.sees, if_neg (by decide)]
      exact ⟨fun _ => ⟨_, rfl⟩, fun _ => by omega⟩
  | m + 1, f, d, acc, i, hd, hf, h, ha => by
    obtain ⟨g, rfl⟩ : ∃ g, f = g + 1 := ⟨f - 1, by omega⟩
    rw [List.replicate_succ, List.flatten_cons, List.append_assoc] at h
    have h0 := at_of h 0 rfl
    have h1 := at_of h 1 rfl
    rw [Nat.add_zero] at h0
    rw [exps, h0.seesExp (by simp)]
    simp only [need, beq_self_eq_true, Bool.or_true, if_true]
    unfold room
    by_cases hr : 16 ≤ acc.length
    · rw [if_pos hr]; exact ⟨fun _ => by omega, fun _ => ⟨_, rfl⟩⟩
    · rw [if_neg hr, exp_name h0 (by decide) ⟨_, h1, by decide⟩ g d hd (by omega)]
      simp only [PR.bind]
      rw [h1.sees, if_pos (by decide)]
      have h2 : (keys T).drop (i + 2) = (1, [97]) :: ((List.replicate m commaU).flatten ++ (4, [41]) :: r) := drop_of (u := [(1, [97]), (4, [44])]) h
      have ih := exps_run m g d (acc ++ [.mk 2 0 [97] 0 0 0 0 [] (tk T i).at_]) (i + 2) hd (by omega) h2 (by simp; omega)
      rw [List.length_append, List.length_singleton] at ih
      refine ⟨fun h5 => ?_, fun h5 => ih.2 (by omega)⟩
      obtain ⟨l, hl⟩ := ih.1 (by omega)
      exact ⟨l, by rw [hl]; congr 1; omega⟩
/-- what the tightest level can't read, no level can -/
theorem read_bad {T : List Tk} {f d i : Nat} {a e : Int} (h : read T (f + 1) d 11 i = .bad a e) : ∀ k, k ≤ 11 → read T (f + 1 + k) d (11 - k) i = .bad a e
  | 0, _ => h
  | k + 1, hk => by
    have ih := read_bad h k (by omega)
    have e1 : 11 - (k + 1) + 1 = 11 - k := by omega
    have e2 : f + 1 + (k + 1) = (f + 1 + k) + 1 := by omega
    rw [e2, read, e1, ih]
    by_cases h1 : 11 - (k + 1) ≤ 2
    · rw [if_pos h1]; rfl
    · rw [if_neg h1]
      by_cases h2 : 11 - (k + 1) = 5
      · rw [if_pos h2]; rfl
      · rw [if_neg h2, if_pos (by omega)]; rfl

/-! node f() returns (z: i8) let z = g(a, .., a); tel -/
def callU1 : List (Int × B) := nodeU1 ++ [(1, [122]), (4, [61]), (1, [103]), (4, [40])]
def callU2 : List (Int × B) := [(4, [41]), (4, [59]), (3, [116, 101, 108]), (5, [])]
theorem exp_call {T : List Tk} {i m : Nat} (h : (keys T).drop i = (1, [103]) :: (4, [40]) :: (1, [97]) :: ((List.replicate m commaU).flatten ++ callU2)) (f d : Nat) (hd : d + 1 < 40) (hf : m + 50 ≤ f) :
    (m + 1 ≤ 16 → ∃ x, exp T f d i = .ok x (i + 2 * m + 4)) ∧ (16 < m + 1 → ∃ a, exp T f d i = .bad a 2) := by
  obtain ⟨g, rfl⟩ : ∃ g, f = g + 15 := ⟨f - 15, by omega⟩
  have h0 := at_of h 0 rfl
  have h1 := at_of h 1 rfl
  have h2 := at_of h 2 rfl
  rw [Nat.add_zero] at h0
  have hA : (keys T).drop (i + 2) = _ := drop_of (u := [(1, [103]), (4, [40])]) h
  have hS := exps_run (T := T) m g (d + 1) [] (i + 2) hd (by omega) hA (by simp)
  rw [List.length_nil, Nat.zero_add] at hS
  have e1 : (List.replicate m commaU).flatten.length = 2 * m := by simp [commaU, List.length_flatten]; omega
  have hB : (keys T).drop (i + 2 + 2 * m + 1) = callU2 := by
    have := drop_of (u := (1, [97]) :: (List.replicate m commaU).flatten) hA
    rw [List.length_cons, e1] at this
    rw [show i + 2 + 2 * m + 1 = i + 2 + (2 * m + 1) by omega]
    exact this
  have b0 := at_of hB 0 rfl
  have b1 := at_of hB 1 rfl
  rw [Nat.add_zero] at b0
  have hE : exp T (g + 15) d i = read T (g + 14) (d + 1) 0 i := by
    rw [exp, h0.seesExp (by simp)]
    simp only [need, beq_self_eq_true, Bool.or_true, if_true]
    unfold room
    rw [if_neg (by omega)]
  have h11 : read T (g + 2 + 1) (d + 1) 11 i = (exps T g (d + 1) [] (i + 2)).bind fun l j => (expect T j [41]).bind fun _ k => indexed T (g + 2) (.mk 13 0 [103] 0 0 0 0 l (tk T i).at_) k := by
    rw [read, if_neg (by omega), if_neg (by omega), if_neg (by omega), h0.sees, h0.sees, h0.sees, if_neg (by decide)]
    rw [prim, h0.isVal (by simp), h0.isName, h1.sees]
    simp only [Bool.false_eq_true, if_false, beq_self_eq_true, if_true]
    rw [args, h1.expect _ rfl]
    simp only [PR.bind]
    rw [h2.sees, if_neg (by decide), h0.2]
    cases exps T g (d + 1) [] (i + 1 + 1) with
    | fuel => rfl
    | bad => rfl
    | ok l j =>
      simp only
      cases expect T j [41] <;> rfl
  refine ⟨fun hm => ?_, fun hm => ?_⟩
  · obtain ⟨l, hl⟩ := hS.1 hm
    have hq : quietOn T (i + 2 + 2 * m + 1 + 1) := ⟨_, b1, by decide⟩
    have h12 : ∃ x, read T (g + 2 + 1) (d + 1) 11 i = .ok x (i + 2 + 2 * m + 1 + 1) := by
      rw [h11, hl]
      simp only [PR.bind]
      rw [b0.expect _ rfl]
      simp only
      rw [indexed, b1.sees, if_neg (by decide)]
      exact ⟨_, rfl⟩
    obtain ⟨x, hx⟩ := h12
    have h13 := read_up hx (fun lv => hq.sign lv) 11 (by omega)
    exact ⟨x, by rw [hE]; rw [show i + 2 * m + 4 = i + 2 + 2 * m + 1 + 1 by omega]; exact h13⟩
  · obtain ⟨a, hl⟩ := hS.2 (by omega)
    have h12 : read T (g + 2 + 1) (d + 1) 11 i = .bad a 2 := by rw [h11, hl]; rfl
    exact ⟨a, by rw [hE]; exact read_bad h12 11 (by omega)⟩
theorem call_run {T : List Tk} (m : Nat) (h : (keys T).drop 0 = callU1 ++ ((1, [97]) :: ((List.replicate m commaU).flatten ++ callU2))) (f : Nat) (hf : m + 70 ≤ f) :
    (m + 1 ≤ 16 → ∃ l j, program T f = .ok l j) ∧ (16 < m + 1 → ∃ a, program T f = .bad a 2) := by
  obtain ⟨g, rfl⟩ : ∃ g, f = g + 4 := ⟨f - 4, by omega⟩
  have h1 : (keys T).drop 0 = nodeU1 ++ ([(1, [122]), (4, [61]), (1, [103]), (4, [40])] ++ ((1, [97]) :: ((List.replicate m commaU).flatten ++ callU2))) := by rw [h]; simp [callU1]
  have h0 := at_of h 0 rfl
  have hA : (keys T).drop (0 + 11) = _ := drop_of h1
  have a0 := at_of hA 0 rfl
  have a1 := at_of hA 1 rfl
  have hB : (keys T).drop (0 + 11 + 2) = _ := drop_of (u := [(1, [122]), (4, [61])]) hA
  have hX := exp_call (T := T) (i := 0 + 11 + 2) hB (g + 1) 0 (by omega) (by omega)
  obtain ⟨F, hF⟩ := node_head h1 (g + 3) (by omega)
  have hk : nodes T (g + 4) [] 0 = (node T (g + 3) 0).bind fun n j => nodes T (g + 3) ([] ++ [n]) j := by
    rw [nodes, show sees T 0 [110, 111, 100, 101] = true from by rw [h0.sees]; rfl]
    simp [room]
  have hI : items T (g + 3) 0 [] (0 + 11) = (item T (g + 2) 0 (0 + 11)).bind fun x j => items T (g + 2) 0 ([] ++ [x]) j := by
    rw [items, seesItem_at a0]
    simp [room]
  have hJ : item T (g + 2) 0 (0 + 11) = (exp T (g + 1) 0 (0 + 11 + 2)).bind fun e j => (expect T j [59]).bind fun _ j => .ok (.mk [[122]] e [] (tk T (0 + 11)).at_) j := by
    rw [item, a0.sees, if_neg (by decide)]
    unfold equation
    rw [a0.sees, if_neg (by decide), a0.name rfl]
    simp only [PR.bind]
    rw [a1.expect _ rfl]
  have hs : seesItem T (0 + 11) = true := by rw [show 0 + 11 = 0 + 11 + 0 from rfl, seesItem_at a0]; rfl
  unfold program
  rw [hk, hF, hs]
  simp only [need, if_true]
  rw [hI, hJ]
  refine ⟨fun hm => ?_, fun hm => ?_⟩
  · obtain ⟨x, hx⟩ := hX.1 hm
    have e1 : (List.replicate m commaU).flatten.length = 2 * m := by simp [commaU, List.length_flatten]; omega
    have hC : (keys T).drop (0 + 11 + 2 + 2 * m + 3) = callU2 := by
      have := drop_of (u := (1, [103]) :: (4, [40]) :: (1, [97]) :: (List.replicate m commaU).flatten) hB
      rw [List.length_cons, List.length_cons, List.length_cons, e1] at this
      rw [show 0 + 11 + 2 + 2 * m + 3 = 0 + 11 + 2 + (2 * m + 1 + 1 + 1) by omega]
      exact this
    have b1 := at_of hC 1 rfl
    have b2 := at_of hC 2 rfl
    have b3 := at_of hC 3 rfl
    rw [hx]
    simp only [PR.bind]
    rw [show 0 + 11 + 2 + 2 * m + 4 = 0 + 11 + 2 + 2 * m + 3 + 1 by omega, b1.expect _ rfl]
    simp only
    rw [items, seesItem_at b2]
    simp only [Bool.or_self, show ((3 : Int) == 1) = false from rfl, show (([116, 101, 108] : B) == [40]) = false from by decide, show (([116, 101, 108] : B) == [97, 117, 116, 111, 109, 97, 116, 111, 110]) = false from by decide, Bool.false_eq_true, if_false]
    rw [b2.expect _ rfl]
    simp only
    rw [nodes, b3.sees, if_neg (by decide)]
    simp only
    rw [b3.1]
    exact ⟨_, _, rfl⟩
  · obtain ⟨a, ha⟩ := hX.2 hm
    rw [ha]
    exact ⟨a, rfl⟩

/-! states -/
def stateU : List (Int × B) := [(3, [115, 116, 97, 116, 101]), (1, [115]), (3, [100, 111])] ++ itemU
theorem state_run {T : List Tk} {i : Nat} {k : Int × B} {r : List (Int × B)} (h : (keys T).drop i = stateU ++ k :: r) (hk : k = (3, [115, 116, 97, 116, 101]) ∨ k = (3, [101, 110, 100])) (f d : Nat) (hd : d < 40) (hf : 20 ≤ f) : ∃ x, state T f d i = .ok x (i + 7) := by
  obtain ⟨g, rfl⟩ : ∃ g, f = g + 1 := ⟨f - 1, by omega⟩
  have h1 := at_of h 1 rfl
  have h2 := at_of h 2 rfl
  have h3 := at_of h 3 rfl
  have h7 := at_of h 7 rfl
  have hA : (keys T).drop (i + 3) = itemU ++ k :: r := drop_of (u := [(3, [115, 116, 97, 116, 101]), (1, [115]), (3, [100, 111])]) h
  obtain ⟨l, hl⟩ := (items_run (T := T) (k := k) (r := r) (by rcases hk with rfl | rfl <;> decide) 1 g d [] (i + 3) hd (by omega) (by rw [hA]; rfl) (by simp)).1 (by simp)
  obtain ⟨g2, rfl⟩ : ∃ g2, g = g2 + 1 := ⟨g - 1, by omega⟩
  rw [state, h1.name rfl]
  simp only [PR.bind]
  rw [transs, h2.sees, if_neg (by decide)]
  simp only
  unfold locals
  rw [h2.sees, if_neg (by decide)]
  simp only
  rw [h2.expect _ rfl]
  simp only
  rw [show seesItem T (i + 2 + 1) = true from by rw [seesItem_at h3]; rfl]
  simp only [need, if_true]
  rw [show items T (g2 + 1) d [] (i + 2 + 1) = .ok l (i + 3 + 4 * 1) from hl]
  simp only
  rw [transs, show i + 3 + 4 * 1 = i + 7 from rfl, h7.sees, if_neg (by rcases hk with rfl | rfl <;> decide)]
  exact ⟨_, rfl⟩
theorem states_run {T : List Tk} {r : List (Int × B)} : ∀ (n f d : Nat) (acc : List State) (i : Nat), d < 40 → n + 21 ≤ f → (keys T).drop i = (List.replicate n stateU).flatten ++ (3, [101, 110, 100]) :: r → acc.length ≤ 16 →
    (acc.length + n ≤ 16 → ∃ l, states T f d acc i = .ok l (i + 7 * n)) ∧ (16 < acc.length + n → ∃ a, states T f d acc i = .bad a 2)
  | 0, f, d, acc, i, hd, hf, h, ha => by
    obtain ⟨g, rfl⟩ : ∃ g, f = g + 1 := ⟨f - 1, by omega⟩
    have h0 := at_of h 0 rfl
    rw [Nat.add_zero] at h0
    rw [states, h0.sees]
    exact ⟨fun _ => ⟨_, rfl⟩, fun h => by omega⟩
  | n + 1, f, d, acc, i, hd, hf, h, ha => by
    obtain ⟨g, rfl⟩ : ∃ g, f = g + 1 := ⟨f - 1, by omega⟩
    rw [List.replicate_succ, List.flatten_cons, List.append_assoc] at h
    have h0 := at_of h 0 rfl
    rw [Nat.add_zero] at h0
    rw [states, h0.sees, if_pos (by decide)]
    unfold room
    by_cases hr : 16 ≤ acc.length
    · rw [if_pos hr]
      exact ⟨fun _ => by omega, fun _ => ⟨_, rfl⟩⟩
    · rw [if_neg hr]
      have hk : ∃ k q, (List.replicate n stateU).flatten ++ (3, [101, 110, 100]) :: r = k :: q ∧ (k = (3, [115, 116, 97, 116, 101]) ∨ k = (3, [101, 110, 100])) := by
        cases n with
        | zero => exact ⟨_, _, rfl, .inr rfl⟩
        | succ n => rw [List.replicate_succ, List.flatten_cons]; exact ⟨_, _, rfl, .inl rfl⟩
      obtain ⟨k, q, hq, hk⟩ := hk
      obtain ⟨x, hx⟩ := state_run (h.trans (by rw [hq])) hk g d hd (by omega)
      rw [hx]
      simp only [PR.bind]
      have h2 : (keys T).drop (i + 7) = _ := drop_of h
      have ih := states_run n g d (acc ++ [x]) (i + 7) hd (by omega) h2 (by simp; omega)
      rw [List.length_append, List.length_singleton] at ih
      refine ⟨fun h5 => ?_, fun h5 => ih.2 (by omega)⟩
      obtain ⟨l, hl⟩ := ih.1 (by omega)
      exact ⟨l, by rw [hl]; congr 1; omega⟩
def autoU2 : List (Int × B) := [(3, [101, 110, 100]), (3, [116, 101, 108]), (5, [])]
theorem auto_run {T : List Tk} (n : Nat) (hn : 0 < n) (h : (keys T).drop 0 = nodeU1 ++ ((3, [97, 117, 116, 111, 109, 97, 116, 111, 110]) :: ((List.replicate n stateU).flatten ++ autoU2))) (f : Nat) (hf : n + 70 ≤ f) :
    (n ≤ 16 → ∃ l j, program T f = .ok l j) ∧ (16 < n → ∃ a, program T f = .bad a 2) := by
  obtain ⟨g, rfl⟩ : ∃ g, f = g + 4 := ⟨f - 4, by omega⟩
  have h0 := at_of h 0 rfl
  have hA : (keys T).drop (0 + 11) = _ := drop_of h
  have a0 := at_of hA 0 rfl
  have hB : (keys T).drop (0 + 11 + 1) = (List.replicate n stateU).flatten ++ autoU2 := drop_of (u := [(3, [97, 117, 116, 111, 109, 97, 116, 111, 110])]) hA
  have hS := states_run (T := T) n (g + 1) 1 [] (0 + 11 + 1) (by omega) (by omega) hB (by simp)
  rw [List.length_nil, Nat.zero_add] at hS
  have a1 : At T (0 + 11 + 1) (3, [115, 116, 97, 116, 101]) := by
    obtain ⟨m, rfl⟩ : ∃ m, n = m + 1 := ⟨n - 1, by omega⟩
    rw [List.replicate_succ, List.flatten_cons, List.append_assoc] at hB
    exact at_of hB 0 rfl
  obtain ⟨F, hF⟩ := node_head h (g + 3) (by omega)
  have hk : nodes T (g + 4) [] 0 = (node T (g + 3) 0).bind fun n j => nodes T (g + 3) ([] ++ [n]) j := by
    rw [nodes, show sees T 0 [110, 111, 100, 101] = true from by rw [h0.sees]; rfl]
    simp [room]
  have hs : seesItem T (0 + 11) = true := by rw [show 0 + 11 = 0 + 11 + 0 from rfl, seesItem_at a0]; decide
  have hI : items T (g + 3) 0 [] (0 + 11) = (item T (g + 2) 0 (0 + 11)).bind fun x j => items T (g + 2) 0 ([] ++ [x]) j := by
    rw [items, hs]
    simp [room]
  have hJ : item T (g + 2) 0 (0 + 11) = (states T (g + 1) 1 [] (0 + 11 + 1)).bind fun ss j => (expect T j [101, 110, 100]).bind fun _ k => .ok (.mk [] zeroExp ss (tk T (0 + 11)).at_) k := by
    rw [item, show sees T (0 + 11) [97, 117, 116, 111, 109, 97, 116, 111, 110] = true from by rw [show 0 + 11 = 0 + 11 + 0 from rfl, a0.sees]; decide, show sees T (0 + 11 + 1) [115, 116, 97, 116, 101] = true from by rw [a1.sees]; decide]
    simp [room, need]
  unfold program
  rw [hk, hF, hs]
  simp only [need, if_true]
  rw [hI, hJ]
  refine ⟨fun hm => ?_, fun hm => ?_⟩
  · obtain ⟨x, hx⟩ := hS.1 hm
    have e1 : (List.replicate n stateU).flatten.length = 7 * n := by simp [stateU, itemU, List.length_flatten]; omega
    have hC : (keys T).drop (0 + 11 + 1 + 7 * n) = autoU2 := by
      have := drop_of hB
      rw [e1] at this
      exact this
    have b0 := at_of hC 0 rfl
    have b1 := at_of hC 1 rfl
    have b2 := at_of hC 2 rfl
    rw [Nat.add_zero] at b0
    rw [hx]
    simp only [PR.bind]
    rw [b0.expect _ rfl]
    simp only
    rw [items, seesItem_at b1]
    simp only [Bool.or_self, show ((3 : Int) == 1) = false from rfl, show (([116, 101, 108] : B) == [40]) = false from by decide, show (([116, 101, 108] : B) == [97, 117, 116, 111, 109, 97, 116, 111, 110]) = false from by decide, Bool.false_eq_true, if_false]
    rw [b1.expect _ rfl]
    simp only
    rw [nodes, b2.sees, if_neg (by decide)]
    simp only
    rw [b2.1]
    exact ⟨_, _, rfl⟩
  · obtain ⟨a, ha⟩ := hS.2 hm
    rw [ha]
    exact ⟨a, rfl⟩
/-! nodes; equations -/
theorem many_nodes {T : List Tk} (n : Nat) (h : (keys T).drop 0 = (List.replicate n nodeU).flatten ++ [(5, [])]) (f : Nat) (hf : n + 70 ≤ f) :
    (n ≤ 60 → ∃ l j, program T f = .ok l j) ∧ (60 < n → ∃ a, program T f = .bad a 2) := by
  have hN := nodes_run (T := T) (r := []) n f [] 0 (by omega) h (by simp)
  rw [List.length_nil, Nat.zero_add] at hN
  unfold program
  refine ⟨fun hm => ?_, fun hm => ?_⟩
  · obtain ⟨x, hx⟩ := hN.1 hm
    have e1 : (List.replicate n nodeU).flatten.length = 16 * n := by simp [nodeU, nodeU1, itemU, List.length_flatten]; omega
    have hC : (keys T).drop (0 + 16 * n) = [(5, [])] := by have := drop_of h; rw [e1] at this; exact this
    have b0 := at_of hC 0 rfl
    rw [Nat.add_zero] at b0
    rw [hx]
    simp only [PR.bind]
    rw [b0.1]
    exact ⟨_, _, rfl⟩
  · obtain ⟨a, ha⟩ := hN.2 hm
    rw [ha]
    exact ⟨a, rfl⟩
theorem many_items {T : List Tk} (n : Nat) (hn : 0 < n) (h : (keys T).drop 0 = nodeU1 ++ ((List.replicate n itemU).flatten ++ [(3, [116, 101, 108]), (5, [])])) (f : Nat) (hf : n + 70 ≤ f) :
    (n ≤ 200 → ∃ l j, program T f = .ok l j) ∧ (200 < n → ∃ a, program T f = .bad a 2) := by
  obtain ⟨g, rfl⟩ : ∃ g, f = g + 4 := ⟨f - 4, by omega⟩
  have h0 := at_of h 0 rfl
  have hA : (keys T).drop (0 + 11) = _ := drop_of h
  have hI := items_run (T := T) (k := (3, [116, 101, 108])) (r := [(5, [])]) (by decide) n (g + 3) 0 [] (0 + 11) (by omega) (by omega) hA (by simp)
  rw [List.length_nil, Nat.zero_add] at hI
  have a0 : At T (0 + 11) (1, [122]) := by
    obtain ⟨m, rfl⟩ : ∃ m, n = m + 1 := ⟨n - 1, by omega⟩
    rw [List.replicate_succ, List.flatten_cons, List.append_assoc] at hA
    exact at_of hA 0 rfl
  obtain ⟨F, hF⟩ := node_head h (g + 3) (by omega)
  have hk : nodes T (g + 4) [] 0 = (node T (g + 3) 0).bind fun n j => nodes T (g + 3) ([] ++ [n]) j := by
    rw [nodes, show sees T 0 [110, 111, 100, 101] = true from by rw [h0.sees]; rfl]
    simp [room]
  have hs : seesItem T (0 + 11) = true := by rw [seesItem_at a0]; rfl
  unfold program
  rw [hk, hF, hs]
  simp only [need, if_true]
  refine ⟨fun hm => ?_, fun hm => ?_⟩
  · obtain ⟨x, hx⟩ := hI.1 hm
    have e1 : (List.replicate n itemU).flatten.length = 4 * n := by simp [itemU, List.length_flatten]; omega
    have hC : (keys T).drop (0 + 11 + 4 * n) = [(3, [116, 101, 108]), (5, [])] := by have := drop_of hA; rw [e1] at this; exact this
    have b0 := at_of hC 0 rfl
    have b1 := at_of hC 1 rfl
    rw [Nat.add_zero] at b0
    rw [hx]
    simp only [PR.bind]
    rw [b0.expect _ rfl]
    simp only
    rw [nodes, b1.sees, if_neg (by decide)]
    simp only
    rw [b1.1]
    exact ⟨_, _, rfl⟩
  · obtain ⟨a, ha⟩ := hI.2 hm
    rw [ha]
    exact ⟨a, rfl⟩
end Go.Proofs.YtjcdkgjfecnkgaaGreatDoor.Gram
