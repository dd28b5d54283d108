/- The plain mathematics of the grammar: a node with one equation is the same with brackets around its expression, the expression's places as much further on; or it is too deep. -/
import Derived.Test.YtjcdkgjfecnkgaaGreatDoorGwA
import Derived.Test.YtjcdkgjfecnkgaaGreatDoorGwB
namespace Go.Proofs.YtjcdkgjfecnkgaaGreatDoor.Gram
open Go.RowKit
open Lex (Tk headT headL brks telT)

theorem tk_right (A R : List Tk) (i : Nat) : tk (A ++ R) (A.length + i) = tk R i := by
  unfold tk
  rw [List.getD_eq_getElem?_getD, List.getD_eq_getElem?_getD, List.getElem?_append_right (by omega), Nat.add_sub_cancel_left]
theorem tk_left {A R : List Tk} {i : Nat} (h : i < A.length) : tk (A ++ R) i = tk A i := by
  unfold tk
  rw [List.getD_eq_getElem?_getD, List.getD_eq_getElem?_getD, List.getElem?_append_left h]
theorem tk_map (c : Nat) {A : List Tk} {i : Nat} (h : i < A.length) : tk (A.map (Tk.far c)) i = (tk A i).far c := tk_far h
theorem brks_at (c : UInt8) : ∀ (n a i : Nat), i < n → At (brks c n a) i (4, [c])
  | 0, _, _, h => by omega
  | n + 1, a, 0, _ => ⟨rfl, rfl⟩
  | n + 1, a, i + 1, h => by
    have := brks_at c n (a + 1) i (by omega)
    exact this

/-! brackets around an expression -/
theorem read_up_bad {T : List Tk} {f d i : Nat} {a e : Int} (h : read T (f + 1) d 11 i = .bad a e) : ∀ k, k ≤ 11 → read T (f + 1 + k) d (11 - k) i = .bad a e
  | 0, _ => h
  | k + 1, hk => by
    have ih := read_up_bad h k (by omega)
    have e1 : 11 - (k + 1) + 1 = 11 - k := by omega
    have e2 : f + 1 + (k + 1) = (f + 1 + k) + 1 := by omega
    rw [e2, read, e1, ih]
    by_cases h1 : 11 - (k + 1) ≤ 2
    · rw [if_pos h1]; rfl
    · rw [if_neg h1]
      by_cases h2 : 11 - (k + 1) = 5
      · rw [if_pos h2]; rfl
      · rw [if_neg h2, if_pos (by omega)]; rfl
def okOr {α : Type} (r : PR α) (x : α) (j : Nat) : Prop := r = .ok x j ∨ ∃ a, r = .bad a 2
theorem exp_br {T : List Tk} {i q F d : Nat} {e : Exp} (h0 : At T i (4, [40])) (hin : okOr (exp T F (d + 1) (i + 1)) e q) (h1 : At T q (4, [41])) (h2 : quietOn T (q + 1)) : okOr (exp T (F + 14) d i) e (q + 1) := by
  rw [exp, h0.seesExp (by decide)]
  unfold need room
  rw [if_pos (by decide)]
  by_cases hd : 40 ≤ d
  · rw [if_pos hd]; exact .inr ⟨_, rfl⟩
  rw [if_neg hd]
  have hp : read T (F + 1 + 1) (d + 1) 11 i = ((exp T F (d + 1) (i + 1)).bind fun e j => (expect T j [41]).bind fun _ k => PR.ok e k).bind fun e j => indexed T (F + 1) e j := by
    rw [read, if_neg (by omega), if_neg (by omega), if_neg (by omega), h0.sees, h0.sees, h0.sees, if_neg (by decide), prim, h0.isVal (by decide), h0.isName, h0.sees]
    rw [if_neg (by decide), if_neg (by decide), if_pos (by decide)]
  rcases hin with e1 | ⟨a, e1⟩
  · have h11 : read T (F + 1 + 1) (d + 1) 11 i = .ok e (q + 1) := by
      rw [hp, e1]
      simp only [PR.bind]
      rw [h1.expect _ rfl]
      simp only
      obtain ⟨k, k1, k2⟩ := h2
      rw [indexed, k1.sees, (quiet_91 k2).1]
      simp
    have := read_up h11 (fun lv => h2.sign lv) 11 (by omega)
    exact .inl this
  · have h11 : read T (F + 1 + 1) (d + 1) 11 i = .bad a 2 := by rw [hp, e1]; rfl
    have := read_up_bad h11 11 (by omega)
    exact .inr ⟨a, this⟩

/-! the node -/
theorem nodes_ge {T : List Tk} : ∀ (f : Nat) (acc : List Node) (i : Nat) (l : List Node) (j : Nat), nodes T f acc i = .ok l j → acc.length ≤ l.length
  | 0, _, _, _, _, h => by rw [nodes] at h; cases h
  | f + 1, acc, i, l, j, h => by
    rw [nodes] at h
    split at h
    · unfold room at h
      split at h
      · cases h
      · cases hn : node T f i with
        | bad a e => rw [hn] at h; cases h
        | fuel => rw [hn] at h; cases h
        | ok x k =>
          rw [hn] at h
          have := nodes_ge f (acc ++ [x]) k l j h
          simp at this; omega
    · injection h with h1 h2; rw [← h1]; exact Nat.le_refl _
theorem nodes_same {T : List Tk} {f : Nat} {acc : List Node} {i : Nat} {l : List Node} {j : Nat} (h : nodes T f acc i = .ok l j) (hl : l.length = acc.length) : l = acc ∧ j = i := by
  cases f with
  | zero => rw [nodes] at h; cases h
  | succ f =>
    rw [nodes] at h
    split at h
    · unfold room at h
      split at h
      · cases h
      · cases hn : node T f i with
        | bad a e => rw [hn] at h; cases h
        | fuel => rw [hn] at h; cases h
        | ok x k =>
          rw [hn] at h
          have := nodes_ge f (acc ++ [x]) k l j h
          simp at this; omega
    · injection h with h1 h2; exact ⟨h1.symm, h2.symm⟩
theorem items_ge {T : List Tk} {d : Nat} : ∀ (f : Nat) (acc : List Item) (i : Nat) (l : List Item) (j : Nat), items T f d acc i = .ok l j → acc.length ≤ l.length
  | 0, _, _, _, _, h => by rw [items] at h; cases h
  | f + 1, acc, i, l, j, h => by
    rw [items] at h
    split at h
    · unfold room at h
      split at h
      · cases h
      · cases hn : item T f d i with
        | bad a e => rw [hn] at h; cases h
        | fuel => rw [hn] at h; cases h
        | ok x k =>
          rw [hn] at h
          have := items_ge f (acc ++ [x]) k l j h
          simp at this; omega
    · injection h with h1 h2; rw [← h1]; exact Nat.le_refl _
theorem items_same {T : List Tk} {d f : Nat} {acc : List Item} {i : Nat} {l : List Item} {j : Nat} (h : items T f d acc i = .ok l j) (hl : l.length = acc.length) : l = acc ∧ j = i := by
  cases f with
  | zero => rw [items] at h; cases h
  | succ f =>
    rw [items] at h
    split at h
    · unfold room at h
      split at h
      · cases h
      · cases hn : item T f d i with
        | bad a e => rw [hn] at h; cases h
        | fuel => rw [hn] at h; cases h
        | ok x k =>
          rw [hn] at h
          have := items_ge f (acc ++ [x]) k l j h
          simp at this; omega
    · injection h with h1 h2; exact ⟨h1.symm, h2.symm⟩
theorem bind_ok {α β : Type} {r : PR α} {F : α → Nat → PR β} {y : β} {m : Nat} (h : r.bind F = .ok y m) : ∃ x j, r = .ok x j ∧ F x j = .ok y m := by
  cases r with
  | ok x j => exact ⟨x, j, rfl, h⟩
  | bad a e => cases h
  | fuel => cases h
theorem expect_ok {T : List Tk} {i m : Nat} {s : B} {t : Tk} (h : expect T i s = .ok t m) : sees T i s = true ∧ m = i + 1 := by
  unfold expect need at h
  split at h
  · rename_i h1; injection h with _ h2; exact ⟨h1, h2.symm⟩
  · cases h
/-- the node of that head with these items -/
def brNode (its : List Item) : Node := ⟨[102], [], [⟨[122], 2, 0, [], 18⟩], [], its, 0⟩
theorem head_node (R : List Tk) (f : Nat) (hf : 3 ≤ f) : node (headT ++ R) f 0 = (items (headT ++ R) f 0 [] 11).bind fun its j => (expect (headT ++ R) j [116, 101, 108]).bind fun _ j => .ok (brNode its) j := by
  obtain ⟨g, rfl⟩ : ∃ g, f = g + 2 := ⟨f - 2, by omega⟩
  have h0 : At (headT ++ R) 0 (3, [110, 111, 100, 101]) := ⟨rfl, rfl⟩
  have h1 : At (headT ++ R) 1 (1, [102]) := ⟨rfl, rfl⟩
  have h2 : At (headT ++ R) 2 (4, [40]) := ⟨rfl, rfl⟩
  have h3 : At (headT ++ R) 3 (4, [41]) := ⟨rfl, rfl⟩
  have h4 : At (headT ++ R) 4 (3, [114, 101, 116, 117, 114, 110, 115]) := ⟨rfl, rfl⟩
  have h5 : At (headT ++ R) 5 (4, [40]) := ⟨rfl, rfl⟩
  have h6 : At (headT ++ R) 6 (1, [122]) := ⟨rfl, rfl⟩
  have h7 : At (headT ++ R) 7 (4, [58]) := ⟨rfl, rfl⟩
  have h8 : At (headT ++ R) 8 (3, [105, 56]) := ⟨rfl, rfl⟩
  have h9 : At (headT ++ R) 9 (4, [41]) := ⟨rfl, rfl⟩
  have h10 : At (headT ++ R) 10 (3, [108, 101, 116]) := ⟨rfl, rfl⟩
  have h11 : At (headT ++ R) 11 (1, [122]) := ⟨rfl, rfl⟩
  have hn : names (headT ++ R) (g + 1) [] 0 6 = .ok [([122], 18)] 7 := by
    rw [names, h6.isName, h7.sees, h6.2]
    simp only [need, room, beq_self_eq_true, if_true]
    rfl
  have hd : decls (headT ++ R) (g + 2) [] 6 = .ok [⟨[122], 2, 0, [], 18⟩] 9 := by
    rw [decls]
    unfold decl
    rw [List.length_nil, hn]
    simp only [PR.bind]
    rw [h7.expect _ rfl]
    simp only
    unfold ty
    rw [h8.kind (by decide)]
    simp only [PR.bind]
    rw [h9.sees, if_neg (by decide)]
    simp only
    rw [h9.sees, if_neg (by decide)]
    rfl
  unfold node
  rw [h0.expect _ rfl]
  simp only [PR.bind]
  rw [h1.name rfl]
  simp only
  rw [h2.expect _ rfl]
  simp only
  rw [h3.sees, if_pos (by decide)]
  simp only
  rw [h3.expect _ rfl]
  simp only
  rw [h4.expect _ rfl]
  simp only
  rw [h5.expect _ rfl]
  simp only
  rw [hd]
  simp only
  rw [h9.expect _ rfl]
  simp only
  unfold locals
  rw [h10.sees, if_neg (by decide)]
  simp only
  rw [h10.expect _ rfl]
  simp only
  rw [seesItem_at h11]
  rfl
/-- the node's one equation -/
theorem head_item (R : List Tk) (g : Nat) : item (headT ++ R) (g + 1) 0 11 = (exp (headT ++ R) g 0 13).bind fun e j => (expect (headT ++ R) j [59]).bind fun _ j => .ok (.mk [[122]] e [] 29) j := by
  have h11 : At (headT ++ R) 11 (1, [122]) := ⟨rfl, rfl⟩
  have h12 : At (headT ++ R) 12 (4, [61]) := ⟨rfl, rfl⟩
  rw [item, h11.sees, if_neg (by decide)]
  unfold equation
  rw [h11.sees, if_neg (by decide), h11.name rfl]
  simp only [PR.bind]
  rw [h12.expect _ rfl]
  rfl
theorem head_items (R : List Tk) (g : Nat) : items (headT ++ R) (g + 2) 0 [] 11 = ((exp (headT ++ R) g 0 13).bind fun e j => (expect (headT ++ R) j [59]).bind fun _ j => PR.ok (Item.mk [[122]] e [] 29) j).bind fun x j => items (headT ++ R) (g + 1) 0 [x] j := by
  have h11 : At (headT ++ R) 11 (1, [122]) := ⟨rfl, rfl⟩
  rw [items, seesItem_at h11]
  unfold room
  rw [if_pos (by decide), if_neg (by decide), head_item]
  rfl
theorem head_program (R : List Tk) (g : Nat) (hg : 1 ≤ g) : program (headT ++ R) (g + 3) = (((((exp (headT ++ R) g 0 13).bind fun e j => (expect (headT ++ R) j [59]).bind fun _ j => PR.ok (Item.mk [[122]] e [] 29) j).bind fun x j => items (headT ++ R) (g + 1) 0 [x] j).bind fun its j => (expect (headT ++ R) j [116, 101, 108]).bind fun _ j => PR.ok (brNode its) j).bind fun n j => nodes (headT ++ R) (g + 2) [n] j).bind fun ns j => need (headT ++ R) j ((tk (headT ++ R) j).kind == 5) (.ok ns j) := by
  have h0 : At (headT ++ R) 0 (3, [110, 111, 100, 101]) := ⟨rfl, rfl⟩
  unfold program
  rw [nodes, h0.sees, if_pos (by decide)]
  unfold room
  rw [if_neg (by decide)]
  rw [head_node R _ (by omega), head_items]
  rfl

theorem tel_last {S : List Tk} {a i : Nat} (h : ∀ t ∈ S, t.kind ≠ 5) (hi : 13 ≤ i) (hk : (tk (headT ++ (S ++ telT a)) i).kind = 5) : 13 + S.length + 2 ≤ i := by
  obtain ⟨k, rfl⟩ : ∃ k, i = headT.length + k := ⟨i - 13, by have : headT.length = 13 := rfl; omega⟩
  have h13 : headT.length = 13 := rfl
  rw [tk_right] at hk
  by_cases h1 : k < S.length
  · rw [tk_left h1] at hk
    refine absurd hk (h _ ?_)
    unfold tk
    simp [List.getD, h1]
  · obtain ⟨m, rfl⟩ : ∃ m, k = S.length + m := ⟨k - S.length, by omega⟩
    rw [tk_right] at hk
    match m, hk with
    | 0, hk => exact absurd hk (by show ¬ ((4 : Int) = 5); decide)
    | 1, hk => exact absurd hk (by show ¬ ((3 : Int) = 5); decide)
    | m + 2, _ => omega

theorem parse_brks {s : B} {nd : Node} (hs : s.length ≤ 1000) (hd : Lex.noDash s) (h : parse (headL ++ s ++ [59, 32, 116, 101, 108]) = .ok [nd]) (h1 : nd.items.length = 1) : ∃ e, nd = brNode [.mk [[122]] e [] 29] ∧
    ∀ n, n ≤ 5 → parse (headL ++ (List.replicate n 40 ++ s ++ List.replicate n 41) ++ [59, 32, 116, 101, 108]) = .ok [brNode [.mk [[122]] (e.far n) [] 29]] ∨ ∃ a, parse (headL ++ (List.replicate n 40 ++ s ++ List.replicate n 41) ++ [59, 32, 116, 101, 108]) = .bad a 2 := by
  unfold parse at h
  cases hT : Lex.tokens (headL ++ s ++ [59, 32, 116, 101, 108]) with
  | err a e => rw [hT] at h; cases h
  | ok T =>
    obtain ⟨S, s1, s2, s3, s4⟩ := Lex.tokens_brks hs hd hT
    rw [hT] at h
    simp only at h
    have h13 : headT.length = 13 := rfl
    have hlen : T.length = 13 + S.length + 3 := by rw [s3]; simp [h13, telT]; omega
    cases hp : program T (20 * T.length + 100) with
    | bad a e => rw [hp] at h; cases h
    | fuel => rw [hp] at h; cases h
    | ok l j =>
      rw [hp] at h
      simp only at h
      injection h with h
      subst h
      rw [show 20 * T.length + 100 = (20 * T.length + 97) + 3 by omega] at hp
      generalize hg : 20 * T.length + 97 = g at hp
      generalize ha : 33 + s.length = a at s3
      subst s3
      rw [head_program _ _ (by omega)] at hp
      obtain ⟨ns, j5, hp1, c6⟩ := bind_ok hp
      obtain ⟨nd', j4, hp2, c5⟩ := bind_ok hp1
      obtain ⟨its, j3, hp3, c4⟩ := bind_ok hp2
      obtain ⟨x, j2, hp4, c3⟩ := bind_ok hp3
      obtain ⟨e, j1, hp5, c2⟩ := bind_ok hp4
      obtain ⟨_, j2', c2, c2'⟩ := bind_ok c2
      obtain ⟨hse, rfl⟩ := expect_ok c2
      injection c2' with e1 e2
      subst e1; subst e2
      obtain ⟨_, j4', c4, c4'⟩ := bind_ok c4
      obtain ⟨hte, rfl⟩ := expect_ok c4
      injection c4' with e1 e2
      subst e1; subst e2
      have c7 : ns = [nd] ∧ j5 = j := by
        unfold need at c6
        split at c6
        · injection c6 with e1 e2; exact ⟨e1, e2⟩
        · cases c6
      have c8 : (tk (headT ++ (S ++ telT a)) j5).kind = 5 := by
        unfold need at c6
        split at c6
        · rename_i hh; exact eq_of_beq hh
        · cases c6
      obtain ⟨rfl, rfl⟩ := c7
      obtain ⟨e3, rfl⟩ := nodes_same c5 rfl
      injection e3 with e3 _
      subst e3
      obtain ⟨e4, rfl⟩ := items_same c3 h1
      subst e4
      refine ⟨e, rfl, fun n hn => ?_⟩
      have hhi : (13 + S.length) = headT.length + S.length := by rw [h13]
      -- the window
      obtain ⟨b, hb⟩ : ∃ b, b = 33 + n + s.length := ⟨_, rfl⟩
      have hU := s4 n hn
      rw [← hb] at hU
      generalize hUU : headT ++ (brks 40 n 33 ++ (S.map (Tk.far n) ++ (brks 41 n b ++ telT (b + n)))) = U at hU
      have uo : ∀ i, i < n → At U (13 + i) (4, [40]) := fun i hi => by
        have h2 := brks_at 40 n 33 i hi
        unfold At at h2 ⊢
        rw [← hUU, ← h13, tk_right, tk_left (by rw [Lex.brks_len]; exact hi)]
        exact h2
      have us : ∀ i, i < S.length → tk U (13 + n + i) = (tk S i).far n := fun i hi => by
        have e1 := Lex.brks_len 40 n 33
        rw [← hUU, show 13 + n + i = headT.length + ((brks 40 n 33).length + i) by rw [e1, h13]; omega, tk_right, tk_right, tk_left (by simpa using hi), tk_map n hi]
      have uc : ∀ i, i < n → At U (13 + n + S.length + i) (4, [41]) := fun i hi => by
        have h2 := brks_at 41 n b i hi
        have e1 := Lex.brks_len 40 n 33
        have e2 : (S.map (Tk.far n)).length = S.length := by simp
        unfold At at h2 ⊢
        rw [← hUU, show 13 + n + S.length + i = headT.length + ((brks 40 n 33).length + ((S.map (Tk.far n)).length + i)) by rw [e1, e2, h13]; omega, tk_right, tk_right, tk_right, tk_left (by rw [Lex.brks_len]; exact hi)]
        exact h2
      have ut : ∀ i, tk U (13 + n + S.length + n + i) = tk (telT (b + n)) i := fun i => by
        have e1 := Lex.brks_len 40 n 33
        have e3 := Lex.brks_len 41 n b
        have e2 : (S.map (Tk.far n)).length = S.length := by simp
        rw [← hUU, show 13 + n + S.length + n + i = headT.length + ((brks 40 n 33).length + ((S.map (Tk.far n)).length + ((brks 41 n b).length + i))) by rw [e1, e2, e3, h13]; omega, tk_right, tk_right, tk_right, tk_right]
      have ut0 : At U (13 + n + S.length + n) (4, [59]) := by have := ut 0; rw [Nat.add_zero] at this; unfold At; rw [this]; exact ⟨rfl, rfl⟩
      have ut1 : At U (13 + n + S.length + n + 1) (3, [116, 101, 108]) := by unfold At; rw [ut 1]; exact ⟨rfl, rfl⟩
      have ut2 : At U (13 + n + S.length + n + 2) (5, []) := by unfold At; rw [ut 2]; exact ⟨rfl, rfl⟩
      have tt0 : At (headT ++ (S ++ telT a)) (13 + S.length) (4, [59]) := by
        unfold At
        rw [show 13 + S.length = headT.length + (S.length + 0) by rw [h13]; omega, tk_right, tk_right]
        exact ⟨rfl, rfl⟩
      have W : Win (headT ++ (S ++ telT a)) U 13 (13 + S.length) n n := by
        refine ⟨fun i g1 g2 => ?_, tt0, ?_⟩
        · obtain ⟨k, rfl⟩ : ∃ k, i = 13 + k := ⟨i - 13, by omega⟩
          rw [show 13 + k + n = 13 + n + k by omega, us k (by omega), show 13 + k = headT.length + k from rfl, tk_right, tk_left (by omega)]
        · cases n with
          | zero => right; exact ut0
          | succ n => left; have := uc 0 (by omega); rw [show 13 + S.length + (n + 1) = 13 + (n + 1) + S.length + 0 by omega]; exact this
      have hw := (winE W g).1 (g + 26 * n) 0 n 13 (by omega) (by omega) (by omega) e j1 hp5
      obtain ⟨w1, w2, w3⟩ := hw
      have hj : j1 = 13 + S.length := by
        have := tel_last s2 (by omega) c8
        omega
      subst hj
      have chain : ∀ k, k ≤ n → okOr (exp U (g + 26 * n + 14 * k) (n - k) (13 + (n - k))) (e.far n) (13 + n + S.length + k) := by
        intro k
        induction k with
        | zero =>
          intro _
          rw [Nat.sub_zero, Nat.mul_zero, Nat.add_zero, Nat.add_zero, show 13 + n + S.length = 13 + S.length + n by omega]
          exact w3
        | succ k ih =>
          intro hk
          have h2 := ih (by omega)
          rw [show n - k = n - (k + 1) + 1 by omega, show 13 + (n - (k + 1) + 1) = 13 + (n - (k + 1)) + 1 by omega] at h2
          have h3 := exp_br (uo (n - (k + 1)) (by omega)) h2 (uc k (by omega)) (by
            by_cases h4 : k + 1 < n
            · exact ⟨_, uc (k + 1) h4, by decide⟩
            · have e4 : k + 1 = n := by omega
              refine ⟨(4, [59]), ?_, by decide⟩
              rw [show 13 + n + S.length + k + 1 = 13 + n + S.length + n by omega]
              exact ut0)
          rw [show g + 26 * n + 14 * (k + 1) = g + 26 * n + 14 * k + 14 by omega]
          exact h3
      have hx := chain n (Nat.le_refl _)
      rw [Nat.sub_self, show g + 26 * n + 14 * n = g + 40 * n by omega, Nat.add_zero] at hx
      have hlU : U.length = (headT ++ (S ++ telT a)).length + 2 * n := by
        rw [← hUU]; simp [Lex.brks_len, telT]; omega
      have hpU : program U (20 * U.length + 100) = .ok [brNode [.mk [[122]] (e.far n) [] 29]] (13 + n + S.length + n + 2) ∨ ∃ a, program U (20 * U.length + 100) = .bad a 2 := by
        rw [show 20 * U.length + 100 = g + 40 * n + 3 by omega, ← hUU, head_program _ _ (by omega), hUU]
        rcases hx with hx | ⟨a', hx⟩
        · left
          rw [hx]
          simp only [PR.bind]
          rw [ut0.expect _ rfl]
          simp only
          rw [items, seesItem_at ut1, if_neg (by decide)]
          simp only
          rw [ut1.expect _ rfl]
          simp only
          rw [nodes, ut2.sees, if_neg (by decide)]
          simp only
          rw [ut2.1]
          rfl
        · right
          rw [hx]
          exact ⟨a', rfl⟩
      unfold parse
      rw [hU]
      simp only
      rcases hpU with hpU | ⟨a', hpU⟩
      · left; rw [hpU]
      · right; rw [hpU]; exact ⟨a', rfl⟩
end Go.Proofs.YtjcdkgjfecnkgaaGreatDoor.Gram
