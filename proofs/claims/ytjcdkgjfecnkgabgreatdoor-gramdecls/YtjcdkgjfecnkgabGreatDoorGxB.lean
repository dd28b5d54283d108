/- The plain mathematics of the grammar: the program that GramDecls' text is. -/
import Derived.Test.YtjcdkgjfecnkgabGreatDoorGuE
import Derived.Test.YtjcdkgjfecnkgabGreatDoorGxA
namespace Go.Proofs.YtjcdkgjfecnkgabGreatDoor.Gram
open Go.RowKit
open Lex (Tk nameL plc namesT tyT tyL kindN dig sufT nodeT declT declL)

theorem tkR (A R : List Tk) (i : Nat) : tk (A ++ R) (A.length + i) = tk R i := by
  unfold tk
  rw [List.getD_eq_getElem?_getD, List.getD_eq_getElem?_getD, List.getElem?_append_right (by omega), Nat.add_sub_cancel_left]
theorem tkL {A R : List Tk} {i : Nat} (h : i < A.length) : tk (A ++ R) i = tk A i := by
  unfold tk
  rw [List.getD_eq_getElem?_getD, List.getD_eq_getElem?_getD, List.getElem?_append_left h]
theorem namesT_at : ∀ (m i : Nat), i ≤ m → tk (namesT m) (2 * i) = ⟨1, nameL i, 0, 0, plc i⟩
  | 0, i, h => by
    have e : i = 0 := by omega
    subst e; rfl
  | m + 1, i, h => by
    unfold namesT
    by_cases h1 : i ≤ m
    · rw [tkL (by rw [Lex.namesT_len]; omega)]; exact namesT_at m i h1
    · have e : i = m + 1 := by omega
      subst e
      rw [show 2 * (m + 1) = (namesT m).length + 1 by rw [Lex.namesT_len]; omega, tkR]
      rfl
theorem namesT_comma : ∀ (m i : Nat), i < m → At (namesT m) (2 * i + 1) (4, [44])
  | 0, i, h => by omega
  | m + 1, i, h => by
    unfold At namesT
    by_cases h1 : i < m
    · rw [tkL (by rw [Lex.namesT_len]; omega)]; exact namesT_comma m i h1
    · have e : i = m := by omega
      subst e
      rw [show 2 * i + 1 = (namesT i).length + 0 by rw [Lex.namesT_len], tkR]
      exact ⟨rfl, rfl⟩
/-- the names, each with its place -/
def nms : Nat → List (B × Int)
  | 0 => []
  | i + 1 => nms i ++ [(nameL i, (plc i : Int))]
theorem nms_len : ∀ i, (nms i).length = i
  | 0 => rfl
  | i + 1 => by simp [nms, nms_len i]
theorem nms_at : ∀ (n i : Nat), i < n → (nms n)[i]? = some (nameL i, (plc i : Int))
  | 0, i, h => by omega
  | n + 1, i, h => by
    unfold nms
    by_cases h1 : i < n
    · rw [List.getElem?_append_left (by rw [nms_len]; exact h1)]; exact nms_at n i h1
    · have e : i = n := by omega
      subst e
      rw [List.getElem?_append_right (by rw [nms_len]; omega), nms_len, Nat.sub_self]; rfl

section
variable {T : List Tk} {m P : Nat}
theorem names_decl (hm : m < 200) (hn : ∀ i, i ≤ m → tk T (3 + 2 * i) = ⟨1, nameL i, 0, 0, plc i⟩) (hc : ∀ i, i < m → At T (3 + 2 * i + 1) (4, [44])) (he : At T (3 + 2 * m + 1) (4, [58])) : ∀ (d i f : Nat), i + d = m → names T (d + 1 + f) (nms i) 0 (3 + 2 * i) = .ok (nms (m + 1)) (3 + 2 * m + 1)
  | 0, i, f, h => by
    have e : i = m := by omega
    subst e
    rw [show 0 + 1 + f = f + 1 by omega, names]
    unfold isName
    rw [hn i (Nat.le_refl _), he.sees, nms_len]
    simp only [need, room]
    rw [if_pos (by decide), if_neg (by omega), if_neg (by decide)]
    rfl
  | d + 1, i, f, h => by
    have h2 := hc i (by omega)
    rw [show d + 1 + 1 + f = (d + 1 + f) + 1 by omega, names]
    unfold isName
    rw [hn i (by omega), h2.sees, nms_len]
    simp only [need, room]
    rw [if_pos (by decide), if_neg (by omega), if_pos (by decide)]
    have ih := names_decl hm hn hc he d (i + 1) f (by omega)
    rw [show 3 + 2 * (i + 1) = 3 + 2 * i + 2 by omega] at ih
    exact ih
theorem decl_first (hm : m < 200) (hn : ∀ i, i ≤ m → tk T (3 + 2 * i) = ⟨1, nameL i, 0, 0, plc i⟩) (hc : ∀ i, i < m → At T (3 + 2 * i + 1) (4, [44])) (he : At T (3 + 2 * m + 1) (4, [58])) {k z : Int} (ht : ty T (3 + 2 * m + 2) = .ok (k, z) P) (f : Nat) (hf : m + 1 ≤ f) :
    decl T f [] 3 = .ok ((nms (m + 1)).map fun n => ⟨n.1, k, z, [], n.2⟩) P := by
  obtain ⟨g, rfl⟩ : ∃ g, f = m + 1 + g := ⟨f - (m + 1), by omega⟩
  have e := names_decl hm hn hc he m 0 g (by omega)
  unfold decl
  rw [List.length_nil, show (3 : Nat) = 3 + 2 * 0 by omega]
  show ((names T (m + 1 + g) (nms 0) 0 (3 + 2 * 0)).bind _) = _
  rw [e]
  simp only [PR.bind]
  rw [he.expect _ rfl]
  simp only
  rw [show 3 + 2 * m + 1 + 1 = 3 + 2 * m + 2 by omega, ht]
  rfl
/-- a clock -/
def clk : List Edge := [⟨[99], true⟩, ⟨[100], false⟩]
theorem suf_run (hs : ∀ j, j < 30 → At T (P + j) ((key (tk sufT j)))) {V : List Var} (h0 : At T 0 (3, [110, 111, 100, 101])) (h1 : At T 1 (1, [102])) (h2 : At T 2 (4, [40])) (h3 : sees T 3 [41] = false) (M f : Nat) (hf : M + 42 ≤ f) (hV : V.length < 200) (hd : ∀ q, M ≤ q → decl T q [] 3 = .ok V P) :
    ∃ o its a b c d, program T f = .ok [⟨[102], V ++ [⟨[99], 1, 0, [], c⟩], o, [⟨[112], 2, 0, clk, a⟩, ⟨[113], 2, 0, clk, b⟩], its, d⟩] (P + 28 + 1) := by
  obtain ⟨g, rfl⟩ : ∃ g, f = g + 42 := ⟨f - 42, by omega⟩
  have s0 : At T P (4, [59]) := hs 0 (by decide)
  have s1 : At T (P + 1) (1, [99]) := hs 1 (by decide)
  have s2 : At T (P + 1 + 1) (4, [58]) := hs 2 (by decide)
  have s3 : At T (P + 1 + 1 + 1) (3, [98, 111, 111, 108]) := hs 3 (by decide)
  have s4 : At T (P + 1 + 1 + 1 + 1) (4, [41]) := hs 4 (by decide)
  have s5 : At T (P + 1 + 1 + 1 + 1 + 1) (3, [114, 101, 116, 117, 114, 110, 115]) := hs 5 (by decide)
  have s6 : At T (P + 1 + 1 + 1 + 1 + 1 + 1) (4, [40]) := hs 6 (by decide)
  have s7 : At T (P + 7) (1, [122]) := hs 7 (by decide)
  have s8 : At T (P + 7 + 1) (4, [58]) := hs 8 (by decide)
  have s9 : At T (P + 7 + 1 + 1) (3, [105, 56]) := hs 9 (by decide)
  have s10 : At T (P + 7 + 1 + 1 + 1) (4, [41]) := hs 10 (by decide)
  have s11 : At T (P + 11) (3, [118, 97, 114]) := hs 11 (by decide)
  have s12 : At T (P + 12) (1, [112]) := hs 12 (by decide)
  have s13 : At T (P + 12 + 1) (4, [44]) := hs 13 (by decide)
  have s14 : At T (P + 14) (1, [113]) := hs 14 (by decide)
  have s15 : At T (P + 14 + 1) (4, [58]) := hs 15 (by decide)
  have s16 : At T (P + 14 + 1 + 1) (3, [105, 56]) := hs 16 (by decide)
  have s17 : At T (P + 14 + 1 + 1 + 1) (3, [119, 104, 101, 110]) := hs 17 (by decide)
  have s18 : At T (P + 18) (1, [99]) := hs 18 (by decide)
  have s19 : At T (P + 18 + 1) (3, [97, 110, 100]) := hs 19 (by decide)
  have s20 : At T (P + 20) (3, [110, 111, 116]) := hs 20 (by decide)
  have s21 : At T (P + 20 + 1) (1, [100]) := hs 21 (by decide)
  have s22 : At T (P + 20 + 1 + 1) (4, [59]) := hs 22 (by decide)
  have s23 : At T (P + 23) (3, [108, 101, 116]) := hs 23 (by decide)
  have s24 : At T (P + 24) (1, [122]) := hs 24 (by decide)
  have s25 : At T (P + 24 + 1) (4, [61]) := hs 25 (by decide)
  have s26 : At T (P + 24 + 1 + 1) (1, [97, 48]) := hs 26 (by decide)
  have s27 : At T (P + 24 + 1 + 1 + 1) (4, [59]) := hs 27 (by decide)
  have s28 : At T (P + 28) (3, [116, 101, 108]) := hs 28 (by decide)
  have s29 : At T (P + 28 + 1) (5, []) := hs 29 (by decide)
  -- the second declaration
  have n1 : names T (g + 39) [] V.length (P + 1) = .ok [([99], ((tk T (P + 1)).at_ : Int))] (P + 1 + 1) := by
    rw [names, s1.isName, s2.sees, s1.2]
    simp only [need, room]
    rw [if_pos (by decide), if_neg (by simp; omega), if_neg (by decide)]
    rfl
  have t1 : ty T (P + 1 + 1 + 1) = .ok (1, 0) (P + 1 + 1 + 1 + 1) := by
    unfold ty
    rw [s3.kind (by decide)]
    simp only [PR.bind]
    rw [s4.sees, if_neg (by decide)]
    rfl
  have d1 : decls T (g + 41) [] 3 = .ok (V ++ [⟨[99], 1, 0, [], ((tk T (P + 1)).at_ : Int)⟩]) (P + 1 + 1 + 1 + 1) := by
    rw [decls, hd _ (by omega)]
    simp only [PR.bind]
    rw [s0.sees, if_pos (by decide), decls]
    unfold decl
    rw [n1]
    simp only [PR.bind]
    rw [s2.expect _ rfl]
    simp only
    rw [t1]
    simp only
    rw [s4.sees, if_neg (by decide)]
    rfl
  obtain ⟨o, d2⟩ := decls_z s7 s8 s9 s10 (g + 41) (by omega)
  -- the locals
  have n2 : names T (g + 40) [] 0 (P + 12) = .ok [([112], ((tk T (P + 12)).at_ : Int)), ([113], ((tk T (P + 14)).at_ : Int))] (P + 14 + 1) := by
    rw [names, s12.isName, s13.sees, s12.2]
    simp only [need, room]
    rw [if_pos (by decide), if_neg (by simp), if_pos (by decide), names]
    rw [show P + 12 + 2 = P + 14 by omega, s14.isName, s15.sees, s14.2]
    simp only [need, room]
    rw [if_pos (by decide), if_neg (by simp), if_neg (by decide)]
    rfl
  have t2 : ty T (P + 14 + 1 + 1) = .ok (2, 0) (P + 14 + 1 + 1 + 1) := by
    unfold ty
    rw [s16.kind (by decide)]
    simp only [PR.bind]
    rw [s17.sees, if_neg (by decide)]
    rfl
  have g1 : edge T (P + 18) = .ok ⟨[99], true⟩ (P + 18 + 1) := by
    unfold edge
    rw [s18.sees, if_neg (by decide), s18.name rfl]
    rfl
  have g2 : edge T (P + 20) = .ok ⟨[100], false⟩ (P + 20 + 1 + 1) := by
    unfold edge
    rw [s20.sees, if_pos (by decide), s21.name rfl]
    rfl
  have e1 : edges T (g + 40) [] (P + 18) = .ok clk (P + 20 + 1 + 1) := by
    rw [edges, s18.isName, g1]
    simp only [need, room]
    rw [if_pos (by simp), if_neg (by simp)]
    simp only [PR.bind]
    rw [s19.sees, if_pos (by decide), show P + 18 + 1 + 1 = P + 20 by omega, edges, s20.sees, g2]
    simp only [need, room]
    rw [if_pos (by simp), if_neg (by simp)]
    simp only [PR.bind]
    rw [s22.sees, if_neg (by decide)]
    rfl
  have l1 : locals T (g + 41) (P + 11) = .ok [⟨[112], 2, 0, clk, ((tk T (P + 12)).at_ : Int)⟩, ⟨[113], 2, 0, clk, ((tk T (P + 14)).at_ : Int)⟩] (P + 23) := by
    unfold locals
    rw [s11.sees, if_pos (by decide), localsL]
    unfold local_ decl
    rw [List.length_nil, show P + 11 + 1 = P + 12 by omega, n2]
    simp only [PR.bind]
    rw [s15.expect _ rfl]
    simp only
    rw [t2]
    simp only
    rw [s17.sees, if_pos (by decide), show P + 14 + 1 + 1 + 1 + 1 = P + 18 by omega, e1]
    simp only
    rw [s22.expect _ rfl]
    simp only
    rw [show P + 20 + 1 + 1 + 1 = P + 23 by omega, s23.isName, if_neg (by decide)]
    rfl
  -- the item
  have x1 : ∃ x, item T (g + 40) 0 (P + 24) = .ok x (P + 28) := by
    rw [item, s24.sees, if_neg (by decide)]
    unfold equation
    rw [s24.sees, if_neg (by decide), s24.name rfl]
    simp only [PR.bind]
    rw [s25.expect _ rfl]
    simp only
    rw [exp_name s26 (by decide) ⟨_, s27, by decide⟩ _ _ (by omega) (by omega)]
    simp only
    rw [s27.expect _ rfl]
    exact ⟨_, rfl⟩
  obtain ⟨x, hx⟩ := x1
  have i1 : items T (g + 41) 0 [] (P + 24) = .ok [x] (P + 28) := by
    rw [items, seesItem_at s24, if_pos (by decide), hx]
    simp only [room]
    rw [if_neg (by simp)]
    simp only [PR.bind]
    rw [items, seesItem_at s28, if_neg (by decide)]
    rfl
  refine ⟨o, [x], (tk T (P + 12)).at_, (tk T (P + 14)).at_, (tk T (P + 1)).at_, (tk T 0).at_, ?_⟩
  unfold program
  rw [nodes, h0.sees, if_pos (by decide)]
  simp only [room]
  rw [if_neg (by simp)]
  unfold node
  rw [h0.expect _ rfl]
  simp only [PR.bind]
  rw [h1.name rfl]
  simp only
  rw [h2.expect _ rfl]
  simp only
  rw [h3, if_neg (by decide), d1]
  simp only
  rw [s4.expect _ rfl]
  simp only
  rw [s5.expect _ rfl]
  simp only
  rw [s6.expect _ rfl]
  simp only
  rw [show P + 1 + 1 + 1 + 1 + 1 + 1 + 1 = P + 7 by omega, d2]
  simp only
  rw [s10.expect _ rfl]
  simp only
  rw [show P + 7 + 1 + 1 + 1 + 1 = P + 11 by omega, l1]
  simp only
  rw [s23.expect _ rfl]
  simp only
  rw [show P + 23 + 1 = P + 24 by omega, seesItem_at s24]
  simp only [need]
  rw [if_pos (by decide), i1]
  simp only
  rw [s28.expect _ rfl]
  simp only
  rw [nodes, s29.sees, if_neg (by decide)]
  simp only
  rw [s29.1]
  rfl
end

theorem kindN_of : ∀ k : Fin 10, 1 ≤ k.val → Lex.kindOf (kindN k) = ((k.val : Nat) : Int) := by decide
/-- the program that GramDecls' text is -/
theorem parse_decl (m k z : Nat) (hm : m < 30) (h1 : 1 ≤ k) (h2 : k ≤ 9) (hz : z < 100) :
    ∃ o its a b c d, parse (declL m k z) = .ok [⟨[102], ((nms (m + 1)).map fun n => ⟨n.1, (k : Int), (z : Int), [], n.2⟩) ++ [⟨[99], 1, 0, [], c⟩], o, [⟨[112], 2, 0, clk, a⟩, ⟨[113], 2, 0, clk, b⟩], its, d⟩] := by
  obtain ⟨q, hq⟩ : ∃ q, q = plc m + (nameL m).length := ⟨_, rfl⟩
  have hT : declT m k z = nodeT ++ (namesT m ++ (tyT k z q ++ sufT.map (Tk.far (q + 2 + (tyL k z).length)))) := by rw [hq]; rfl
  have hk := kindN_of ⟨k, by omega⟩ h1
  simp only at hk
  have l1 := Lex.namesT_len m
  have l0 : nodeT.length = 3 := rfl
  generalize hTT : declT m k z = T at hT
  have hn : ∀ i, i ≤ m → tk T (3 + 2 * i) = ⟨1, nameL i, 0, 0, plc i⟩ := fun i hi => by
    rw [hT, show 3 + 2 * i = nodeT.length + 2 * i from rfl, tkR, tkL (by rw [l1]; omega)]; exact namesT_at m i hi
  have hc : ∀ i, i < m → At T (3 + 2 * i + 1) (4, [44]) := fun i hi => by
    have := namesT_comma m i hi
    unfold At at this ⊢
    rw [hT, show 3 + 2 * i + 1 = nodeT.length + (2 * i + 1) from by rw [l0]; omega, tkR, tkL (by rw [l1]; omega)]; exact this
  have hy : ∀ i, i < (tyT k z q).length → tk T (3 + 2 * m + 1 + i) = tk (tyT k z q) i := fun i hi => by
    rw [hT, show 3 + 2 * m + 1 + i = nodeT.length + ((namesT m).length + i) by rw [l1, l0]; omega, tkR, tkR, tkL hi]
  have hs : ∀ j, j < 30 → At T (3 + 2 * m + 1 + (tyT k z q).length + j) (key (tk sufT j)) := fun j hj => by
    have hj2 : j < sufT.length := hj
    unfold At key
    rw [hT, show 3 + 2 * m + 1 + (tyT k z q).length + j = nodeT.length + ((namesT m).length + ((tyT k z q).length + j)) by rw [l1, l0]; omega, tkR, tkR, tkR]
    have e : tk (sufT.map (Tk.far (q + 2 + (tyL k z).length))) j = (tk sufT j).far (q + 2 + (tyL k z).length) := by
      unfold tk; simp [List.getD, hj2]
    rw [e]
    exact ⟨rfl, rfl⟩
  have he : At T (3 + 2 * m + 1) (4, [58]) := by
    have := hy 0 (by unfold tyT; simp)
    rw [Nat.add_zero] at this
    unfold At; rw [this]; exact ⟨rfl, rfl⟩
  have hkd : At T (3 + 2 * m + 1 + 1) (3, kindN k) := by
    have := hy 1 (by unfold tyT; simp)
    unfold At; rw [this]; exact ⟨rfl, rfl⟩
  have ht : ty T (3 + 2 * m + 2) = .ok ((k : Int), (z : Int)) (3 + 2 * m + 1 + (tyT k z q).length) := by
    unfold ty
    rw [show 3 + 2 * m + 2 = 3 + 2 * m + 1 + 1 by omega, hkd.kind (by show Lex.kindOf (kindN k) ≠ 0; rw [hk]; omega)]
    simp only [PR.bind]
    rw [hk]
    by_cases h0 : z = 0
    · subst h0
      have e : (tyT k 0 q).length = 2 := rfl
      have s0 := hs 0 (by omega)
      rw [e, Nat.add_zero] at s0
      rw [e, show 3 + 2 * m + 1 + 1 + 1 = 3 + 2 * m + 1 + 2 by omega, s0.sees, if_neg (by decide)]
      rfl
    · have e0 : tyT k z q = [⟨4, [58], 0, 0, q⟩, ⟨3, kindN k, 0, 0, q + 2⟩, ⟨4, [94], 0, 0, q + 2 + (kindN k).length⟩, ⟨2, dig z, z, 0, q + 2 + (kindN k).length + 1⟩] := by unfold tyT; rw [if_neg h0]
      rw [e0] at hy ⊢
      have a2 : At T (3 + 2 * m + 1 + 2) (4, [94]) := by unfold At; rw [hy 2 (by simp)]; exact ⟨rfl, rfl⟩
      have a3 := hy 3 (by simp)
      rw [show 3 + 2 * m + 1 + 1 + 1 = 3 + 2 * m + 1 + 2 by omega, a2.sees, if_pos (by decide)]
      unfold size isNum
      rw [show 3 + 2 * m + 1 + 2 + 1 = 3 + 2 * m + 1 + 3 by omega, a3]
      rfl
  have h3 : sees T 3 [41] = false := by
    unfold sees
    have := hn 0 (by omega)
    rw [show 3 + 2 * 0 = 3 from rfl] at this
    rw [this]
    rfl
  have hlen : T.length = 3 + (2 * m + 1) + (tyT k z q).length + 30 := by
    rw [hT]; simp [l0, l1]; rw [show sufT.length = 30 from rfl]; omega
  obtain ⟨o, its, a, b, c, d, hp⟩ := suf_run (T := T) (P := 3 + 2 * m + 1 + (tyT k z q).length) hs (V := (nms (m + 1)).map fun n => ⟨n.1, (k : Int), (z : Int), [], n.2⟩) (by rw [hT]; exact ⟨rfl, rfl⟩) (by rw [hT]; exact ⟨rfl, rfl⟩) (by rw [hT]; exact ⟨rfl, rfl⟩) h3 (m + 1) (20 * T.length + 100) (by omega) (by rw [List.length_map, nms_len]; omega) (fun q hq => decl_first (by omega) hn hc he ht q hq)
  refine ⟨o, its, a, b, c, d, ?_⟩
  unfold parse
  rw [Lex.tokens_decl m k z hm h1 h2 hz, hTT]
  simp only [hp]
end Go.Proofs.YtjcdkgjfecnkgabGreatDoor.Gram
