/- The plain mathematics of tokens: the tokens of a text within another one, whether a semicolon or a bracket is behind it (written by mkwb.py). -/
import Derived.Test.YtachmiajldeakaaGreatDoorLexFa
namespace Go.Proofs.YtachmiajldeakaaGreatDoor.Lex
open Go.RowKit

/-- the tokens of a text at a place, if there is room for so many -/
def tks (l : List UInt8) (a room : Nat) : Res := toks (l.length + 1) l a room
theorem tks_step {l r : List UInt8} {kd n t : Int} {len a room : Nat} (h : tokAt (l.drop (skp false l)) = .tok kd n t len) (hk : kd ≠ 5) (hr : room ≠ 0) (e : (l.drop (skp false l)).drop len = r) : tks l a room = (tks r (a + skp false l + len) (room - 1)).pre ⟨kd, (l.drop (skp false l)).take len, n, t, a + skp false l⟩ := by
  unfold tks
  rw [toks, h]
  dsimp only
  rw [if_neg hr, if_neg hk, e]
  rcases tokAt_tok h with hh | ⟨hne, _, hlen⟩
  · exact absurd hh.2.1 hk
  · have h2 : 0 < (l.drop (skp false l)).length := by
      cases h3 : l.drop (skp false l) with
      | nil => exact absurd h3 hne
      | cons c r => simp
    have h3 : r.length < l.length := by
      rw [← e]
      simp only [List.length_drop] at h2 ⊢; omega
    rw [toks_fuel l.length (r.length + 1) _ _ _ (by omega) (by omega)]
theorem tks_bad {l : List UInt8} {er : Int} {a room : Nat} (h : tokAt (l.drop (skp false l)) = .bad er) : tks l a room = .err (a + skp false l) er := by
  unfold tks; rw [toks, h]
theorem tks_full {l : List UInt8} {kd n t : Int} {len a : Nat} (h : tokAt (l.drop (skp false l)) = .tok kd n t len) : tks l a 0 = .err (a + skp false l) 2 := by
  unfold tks; rw [toks, h]; dsimp only; rw [if_pos rfl]
theorem tks_blank {c : UInt8} (r : List UInt8) (a room : Nat) (h : blank c = true) : tks (c :: r) a room = tks r (a + 1) room := by
  unfold tks
  rw [toks_fuel (r.length + 1) (r.length + 2) r _ _ (by omega) (by omega), List.length_cons, toks, toks, skp_cons_blank _ _ h, List.drop_succ_cons]
  rw [show a + (skp false r + 1) = a + 1 + skp false r by omega]

/-- a byte that no token goes on with -/
def brk (x : UInt8) : Prop := x = 41 ∨ x = 59
theorem brk_word {x : UInt8} (h : brk x) (r : List UInt8) : spn word (x :: r) = 0 ∧ spn digit (x :: r) = 0 := by
  rcases h with rfl | rfl <;> simp [spn, word, digit]
theorem brk_sign (c : Nat) {x : UInt8} (h : brk x) : signW c x.toNat = signW c 0 := by
  rcases h with rfl | rfl <;> (unfold signW; simp)
theorem brk_spn {p : UInt8 → Bool} (u : List UInt8) {X : List UInt8} (h : spn p X = 0) : spn p (u ++ X) = spn p u := by
  induction u with
  | nil => simpa [spn] using h
  | cons c r ih =>
    unfold spn at ih ⊢
    rw [List.cons_append, List.takeWhile_cons, List.takeWhile_cons]
    cases p c <;> simp [ih]
theorem brk_num (u : List UInt8) {x : UInt8} (h : brk x) (r : List UInt8) : numTok (u ++ x :: r) = numTok u := by
  have h1 := (brk_word h r).2
  have h2 := (brk_word h r).1
  unfold numTok
  dsimp only
  rw [brk_spn u h1, List.drop_append_of_le_length (spn_le digit u), brk_spn _ h2, List.take_append_of_le_length (spn_le digit u), List.take_append_of_le_length (spn_le word _)]
theorem brk_name (u : List UInt8) {x : UInt8} (h : brk x) (r : List UInt8) : nameTok (u ++ x :: r) = nameTok u := by
  have h2 := (brk_word h r).1
  unfold nameTok
  dsimp only
  rw [brk_spn u h2, List.take_append_of_le_length (spn_le word u)]
theorem brk_signTok (c : UInt8) (u : List UInt8) {x : UInt8} (h : brk x) (r : List UInt8) : signTok (c :: u ++ x :: r) = signTok (c :: u) := by
  unfold signTok
  cases u with
  | cons d r => rfl
  | nil =>
    have e : signW (pk ([c] ++ x :: r) 0) (pk ([c] ++ x :: r) 1) = signW (pk [c] 0) (pk [c] 1) := by
      show signW c.toNat x.toNat = signW c.toNat 0
      exact brk_sign _ h
    rw [e]
theorem brk_tok (c : UInt8) (u : List UInt8) {x : UInt8} (h : brk x) (r : List UInt8) : tokAt (c :: u ++ x :: r) = tokAt (c :: u) := by
  have e1 := brk_num (c :: u) h r
  have e2 := brk_name (c :: u) h r
  have e3 := brk_signTok c u h r
  show (if digit c then numTok (c :: u ++ x :: r) else if word c then nameTok (c :: u ++ x :: r) else signTok (c :: u ++ x :: r)) = _
  rw [e1, e2, e3]
  rfl
theorem brk_len {l : List UInt8} {kd n t : Int} {len : Nat} (h : tokAt l = .tok kd n t len) : len ≤ l.length := by
  unfold tokAt at h
  split at h
  · injection h with h1 h2 h3 h4; subst h4; simp
  · rename_i c r
    split at h
    · unfold numTok at h
      dsimp only at h
      have h1 := spn_le digit (c :: r)
      have h2 := spn_le word ((c :: r).drop (spn digit (c :: r)))
      rw [List.length_drop] at h2
      split at h
      · split at h
        · injection h with _ _ _ h4; omega
        · cases h
      · split at h
        · injection h with _ _ _ h4; omega
        · cases h
    · split at h
      · unfold nameTok at h
        dsimp only at h
        have h1 := spn_le word (c :: r)
        split at h
        · injection h with _ _ _ h4; omega
        · split at h
          · cases h
          · injection h with _ _ _ h4; omega
      · unfold signTok at h
        dsimp only at h
        split at h
        · cases h
        · injection h with _ _ _ h4
          subst h4
          cases r with
          | nil => unfold signW at *; simp [pk]; split <;> simp_all
          | cons d q =>
            rw [List.length_cons, List.length_cons]
            unfold signW
            split
            · omega
            · split <;> omega

/-- no two dashes beside each other -/
def noDash (s : List UInt8) : Prop := ∀ i, ¬ (pk s i = 45 ∧ pk s (i + 1) = 45)
theorem brk_skp (c : UInt8) (u : List UInt8) {x : UInt8} (h : brk x) (r : List UInt8) (hb : blank c = false) (hd : noDash (c :: u)) : skp false (c :: u ++ x :: r) = 0 := by
  rw [List.cons_append, skp, if_neg (by simp [hb]), if_neg]
  rintro ⟨h1, h2⟩
  refine hd 0 ⟨by simpa [pk] using h1, ?_⟩
  cases u with
  | nil =>
    simp only [List.nil_append, List.head?_cons, Option.map_some] at h2
    rcases h with rfl | rfl <;> simp at h2
  | cons d q => simpa [pk] using h2
theorem Res.pre_ok {x : Tk} {r : Res} {L : List Tk} (h : r.pre x = .ok L) : ∃ l, r = .ok l ∧ L = x :: l := by
  cases r with
  | ok l => exact ⟨l, rfl, by injection h with h; exact h.symm⟩
  | err a e => cases h
theorem tks_win : ∀ (m : Nat) (s : List UInt8), s.length ≤ m → noDash s → ∀ (r : List UInt8) (a room : Nat) (L : List Tk), tks (s ++ 59 :: r) a room = .ok L → ∃ S : List Tk, S.length ≤ s.length ∧ (∀ t ∈ S, t.kind ≠ 5) ∧ S.length ≤ room ∧ tks (s ++ 59 :: r) a room = preL S (tks (59 :: r) (a + s.length) (room - S.length)) ∧
    ∀ (x : UInt8) (r' : List UInt8) (d room' : Nat), brk x → S.length ≤ room' → tks (s ++ x :: r') (a + d) room' = preL (S.map (Tk.far d)) (tks (x :: r') (a + d + s.length) (room' - S.length))
  | _, [], _, _, r, a, room, L, _ => ⟨[], by simp, by simp, by simp, by simp [preL], fun x r' d room' _ _ => by simp [preL]⟩
  | 0, c :: u, h, _, _, _, _, _, _ => by simp at h
  | m + 1, c :: u, hm, hd, r, a, room, L, hL => by
    by_cases hb : blank c = true
    · have hd' : noDash u := fun i hi => hd (i + 1) (by simpa [pk] using hi)
      rw [List.cons_append, tks_blank _ _ _ hb] at hL
      obtain ⟨S, s1, s2, s3, s4, s5⟩ := tks_win m u (by simp at hm; omega) hd' r (a + 1) room L hL
      refine ⟨S, by simp; omega, s2, s3, ?_, fun x r' d room' hx hr => ?_⟩
      · rw [List.cons_append, tks_blank _ _ _ hb, s4, List.length_cons]
        congr 2; omega
      · rw [List.cons_append, tks_blank _ _ _ hb, show a + d + 1 = a + 1 + d by omega, s5 x r' d room' hx hr, List.length_cons]
        congr 2; omega
    · have hb' : blank c = false := by simpa using hb
      have k0 : ∀ (x : UInt8) (r' : List UInt8), brk x → (c :: u ++ x :: r').drop (skp false (c :: u ++ x :: r')) = c :: u ++ x :: r' := fun x r' hx => by rw [brk_skp c u hx r' hb' hd, List.drop_zero]
      cases htk : tokAt (c :: u) with
      | bad er =>
        rw [tks_bad (er := er) (by rw [k0 _ _ (.inr rfl), brk_tok c u (.inr rfl), htk])] at hL
        cases hL
      | tok kd n t len =>
        have hlen := brk_len htk
        rcases tokAt_tok htk with hh | ⟨_, h5, hpos⟩
        · cases hh.1
        · have k1 : ∀ (x : UInt8) (r' : List UInt8), brk x → tokAt ((c :: u ++ x :: r').drop (skp false (c :: u ++ x :: r'))) = .tok kd n t len := fun x r' hx => by rw [k0 _ _ hx, brk_tok c u hx, htk]
          have k2 : ∀ (x : UInt8) (r' : List UInt8), brk x → ((c :: u ++ x :: r').drop (skp false (c :: u ++ x :: r'))).drop len = (c :: u).drop len ++ x :: r' := fun x r' hx => by rw [k0 _ _ hx, List.drop_append_of_le_length hlen]
          have k3 : ∀ (x : UInt8) (r' : List UInt8), brk x → ((c :: u ++ x :: r').drop (skp false (c :: u ++ x :: r'))).take len = (c :: u).take len := fun x r' hx => by rw [k0 _ _ hx, List.take_append_of_le_length hlen]
          have hroom : room ≠ 0 := by
            rintro rfl
            rw [tks_full (k1 _ _ (.inr rfl))] at hL
            cases hL
          have e1 := tks_step (a := a) (k1 59 r (.inr rfl)) h5 hroom (k2 59 r (.inr rfl))
          rw [k3 59 r (.inr rfl), brk_skp c u (.inr rfl) r hb' hd, Nat.add_zero] at e1
          rw [e1] at hL
          obtain ⟨l, hl, hL2⟩ := Res.pre_ok hL
          have hd' : noDash ((c :: u).drop len) := fun i hi => hd (len + i) (by rw [pk_drop, pk_drop] at hi; exact hi)
          obtain ⟨S, s1, s2, s3, s4, s5⟩ := tks_win m ((c :: u).drop len) (by rw [List.length_drop]; simp at hm ⊢; omega) hd' r (a + len) (room - 1) l hl
          rw [List.length_drop] at s1
          refine ⟨⟨kd, (c :: u).take len, n, t, a⟩ :: S, by rw [List.length_cons]; omega, ?_, by rw [List.length_cons]; omega, ?_, fun x r' d room' hx hr => ?_⟩
          · intro y hy
            rcases List.mem_cons.1 hy with rfl | hy
            · exact h5
            · exact s2 y hy
          · rw [e1, s4, List.length_drop]
            show _ = (preL S _).pre _
            rw [show a + len + ((c :: u).length - len) = a + (c :: u).length by omega, show room - 1 - S.length = room - (S.length + 1) by omega]
            rfl
          · rw [List.length_cons] at hr
            have e2 := tks_step (a := a + d) (room := room') (k1 x r' hx) h5 (by omega) (k2 x r' hx)
            rw [k3 x r' hx, brk_skp c u hx r' hb' hd, Nat.add_zero] at e2
            rw [e2, show a + d + len = a + len + d by omega, s5 x r' d (room' - 1) hx (by omega), List.length_drop]
            show _ = (preL (S.map (Tk.far d)) _).pre _
            rw [show a + len + d + ((c :: u).length - len) = a + d + (c :: u).length by omega, show room' - 1 - S.length = room' - (S.length + 1) by omega]
            rfl

/-- the tokens of the node's head -/
def headT : List Tk := [⟨3, [110, 111, 100, 101], 0, 0, 0⟩, ⟨1, [102], 0, 0, 5⟩, ⟨4, [40], 0, 0, 6⟩, ⟨4, [41], 0, 0, 7⟩, ⟨3, [114, 101, 116, 117, 114, 110, 115], 0, 0, 9⟩, ⟨4, [40], 0, 0, 17⟩, ⟨1, [122], 0, 0, 18⟩, ⟨4, [58], 0, 0, 19⟩, ⟨3, [105, 56], 0, 0, 21⟩, ⟨4, [41], 0, 0, 23⟩, ⟨3, [108, 101, 116], 0, 0, 25⟩, ⟨1, [122], 0, 0, 29⟩, ⟨4, [61], 0, 0, 31⟩]
def headL : List UInt8 := [110, 111, 100, 101, 32, 102, 40, 41, 32, 114, 101, 116, 117, 114, 110, 115, 32, 40, 122, 58, 32, 105, 56, 41, 32, 108, 101, 116, 32, 122, 32, 61, 32]
theorem tks_head (X : List UInt8) (room : Nat) (h : 13 ≤ room) : tks (headL ++ X) 0 room = preL headT (tks X 33 (room - 13)) := by
  have h0 : tks (110 :: 111 :: 100 :: 101 :: 32 :: 102 :: 40 :: 41 :: 32 :: 114 :: 101 :: 116 :: 117 :: 114 :: 110 :: 115 :: 32 :: 40 :: 122 :: 58 :: 32 :: 105 :: 56 :: 41 :: 32 :: 108 :: 101 :: 116 :: 32 :: 122 :: 32 :: 61 :: 32 :: X) 0 (room - 0) = (tks (32 :: 102 :: 40 :: 41 :: 32 :: 114 :: 101 :: 116 :: 117 :: 114 :: 110 :: 115 :: 32 :: 40 :: 122 :: 58 :: 32 :: 105 :: 56 :: 41 :: 32 :: 108 :: 101 :: 116 :: 32 :: 122 :: 32 :: 61 :: 32 :: X) 4 (room - 1)).pre ⟨3, [110, 111, 100, 101], 0, 0, 0⟩ := by
    have e := tks_step (l := 110 :: 111 :: 100 :: 101 :: 32 :: 102 :: 40 :: 41 :: 32 :: 114 :: 101 :: 116 :: 117 :: 114 :: 110 :: 115 :: 32 :: 40 :: 122 :: 58 :: 32 :: 105 :: 56 :: 41 :: 32 :: 108 :: 101 :: 116 :: 32 :: 122 :: 32 :: 61 :: 32 :: X) (r := 32 :: 102 :: 40 :: 41 :: 32 :: 114 :: 101 :: 116 :: 117 :: 114 :: 110 :: 115 :: 32 :: 40 :: 122 :: 58 :: 32 :: 105 :: 56 :: 41 :: 32 :: 108 :: 101 :: 116 :: 32 :: 122 :: 32 :: 61 :: 32 :: X) (kd := 3) (n := 0) (t := 0) (len := 4) (a := 0) (room := room - 0) (by kernel_rfl) (by decide) (by omega) (by kernel_rfl)
    exact e
  have h1 : tks (32 :: 102 :: 40 :: 41 :: 32 :: 114 :: 101 :: 116 :: 117 :: 114 :: 110 :: 115 :: 32 :: 40 :: 122 :: 58 :: 32 :: 105 :: 56 :: 41 :: 32 :: 108 :: 101 :: 116 :: 32 :: 122 :: 32 :: 61 :: 32 :: X) 4 (room - 1) = (tks (40 :: 41 :: 32 :: 114 :: 101 :: 116 :: 117 :: 114 :: 110 :: 115 :: 32 :: 40 :: 122 :: 58 :: 32 :: 105 :: 56 :: 41 :: 32 :: 108 :: 101 :: 116 :: 32 :: 122 :: 32 :: 61 :: 32 :: X) 6 (room - 2)).pre ⟨1, [102], 0, 0, 5⟩ := by
    have e := tks_step (l := 32 :: 102 :: 40 :: 41 :: 32 :: 114 :: 101 :: 116 :: 117 :: 114 :: 110 :: 115 :: 32 :: 40 :: 122 :: 58 :: 32 :: 105 :: 56 :: 41 :: 32 :: 108 :: 101 :: 116 :: 32 :: 122 :: 32 :: 61 :: 32 :: X) (r := 40 :: 41 :: 32 :: 114 :: 101 :: 116 :: 117 :: 114 :: 110 :: 115 :: 32 :: 40 :: 122 :: 58 :: 32 :: 105 :: 56 :: 41 :: 32 :: 108 :: 101 :: 116 :: 32 :: 122 :: 32 :: 61 :: 32 :: X) (kd := 1) (n := 0) (t := 0) (len := 1) (a := 4) (room := room - 1) (by kernel_rfl) (by decide) (by omega) (by kernel_rfl)
    exact e
  have h2 : tks (40 :: 41 :: 32 :: 114 :: 101 :: 116 :: 117 :: 114 :: 110 :: 115 :: 32 :: 40 :: 122 :: 58 :: 32 :: 105 :: 56 :: 41 :: 32 :: 108 :: 101 :: 116 :: 32 :: 122 :: 32 :: 61 :: 32 :: X) 6 (room - 2) = (tks (41 :: 32 :: 114 :: 101 :: 116 :: 117 :: 114 :: 110 :: 115 :: 32 :: 40 :: 122 :: 58 :: 32 :: 105 :: 56 :: 41 :: 32 :: 108 :: 101 :: 116 :: 32 :: 122 :: 32 :: 61 :: 32 :: X) 7 (room - 3)).pre ⟨4, [40], 0, 0, 6⟩ := by
    have e := tks_step (l := 40 :: 41 :: 32 :: 114 :: 101 :: 116 :: 117 :: 114 :: 110 :: 115 :: 32 :: 40 :: 122 :: 58 :: 32 :: 105 :: 56 :: 41 :: 32 :: 108 :: 101 :: 116 :: 32 :: 122 :: 32 :: 61 :: 32 :: X) (r := 41 :: 32 :: 114 :: 101 :: 116 :: 117 :: 114 :: 110 :: 115 :: 32 :: 40 :: 122 :: 58 :: 32 :: 105 :: 56 :: 41 :: 32 :: 108 :: 101 :: 116 :: 32 :: 122 :: 32 :: 61 :: 32 :: X) (kd := 4) (n := 0) (t := 0) (len := 1) (a := 6) (room := room - 2) (by kernel_rfl) (by decide) (by omega) (by kernel_rfl)
    exact e
  have h3 : tks (41 :: 32 :: 114 :: 101 :: 116 :: 117 :: 114 :: 110 :: 115 :: 32 :: 40 :: 122 :: 58 :: 32 :: 105 :: 56 :: 41 :: 32 :: 108 :: 101 :: 116 :: 32 :: 122 :: 32 :: 61 :: 32 :: X) 7 (room - 3) = (tks (32 :: 114 :: 101 :: 116 :: 117 :: 114 :: 110 :: 115 :: 32 :: 40 :: 122 :: 58 :: 32 :: 105 :: 56 :: 41 :: 32 :: 108 :: 101 :: 116 :: 32 :: 122 :: 32 :: 61 :: 32 :: X) 8 (room - 4)).pre ⟨4, [41], 0, 0, 7⟩ := by
    have e := tks_step (l := 41 :: 32 :: 114 :: 101 :: 116 :: 117 :: 114 :: 110 :: 115 :: 32 :: 40 :: 122 :: 58 :: 32 :: 105 :: 56 :: 41 :: 32 :: 108 :: 101 :: 116 :: 32 :: 122 :: 32 :: 61 :: 32 :: X) (r := 32 :: 114 :: 101 :: 116 :: 117 :: 114 :: 110 :: 115 :: 32 :: 40 :: 122 :: 58 :: 32 :: 105 :: 56 :: 41 :: 32 :: 108 :: 101 :: 116 :: 32 :: 122 :: 32 :: 61 :: 32 :: X) (kd := 4) (n := 0) (t := 0) (len := 1) (a := 7) (room := room - 3) (by kernel_rfl) (by decide) (by omega) (by kernel_rfl)
    exact e
  have h4 : tks (32 :: 114 :: 101 :: 116 :: 117 :: 114 :: 110 :: 115 :: 32 :: 40 :: 122 :: 58 :: 32 :: 105 :: 56 :: 41 :: 32 :: 108 :: 101 :: 116 :: 32 :: 122 :: 32 :: 61 :: 32 :: X) 8 (room - 4) = (tks (32 :: 40 :: 122 :: 58 :: 32 :: 105 :: 56 :: 41 :: 32 :: 108 :: 101 :: 116 :: 32 :: 122 :: 32 :: 61 :: 32 :: X) 16 (room - 5)).pre ⟨3, [114, 101, 116, 117, 114, 110, 115], 0, 0, 9⟩ := by
    have e := tks_step (l := 32 :: 114 :: 101 :: 116 :: 117 :: 114 :: 110 :: 115 :: 32 :: 40 :: 122 :: 58 :: 32 :: 105 :: 56 :: 41 :: 32 :: 108 :: 101 :: 116 :: 32 :: 122 :: 32 :: 61 :: 32 :: X) (r := 32 :: 40 :: 122 :: 58 :: 32 :: 105 :: 56 :: 41 :: 32 :: 108 :: 101 :: 116 :: 32 :: 122 :: 32 :: 61 :: 32 :: X) (kd := 3) (n := 0) (t := 0) (len := 7) (a := 8) (room := room - 4) (by kernel_rfl) (by decide) (by omega) (by kernel_rfl)
    exact e
  have h5 : tks (32 :: 40 :: 122 :: 58 :: 32 :: 105 :: 56 :: 41 :: 32 :: 108 :: 101 :: 116 :: 32 :: 122 :: 32 :: 61 :: 32 :: X) 16 (room - 5) = (tks (122 :: 58 :: 32 :: 105 :: 56 :: 41 :: 32 :: 108 :: 101 :: 116 :: 32 :: 122 :: 32 :: 61 :: 32 :: X) 18 (room - 6)).pre ⟨4, [40], 0, 0, 17⟩ := by
    have e := tks_step (l := 32 :: 40 :: 122 :: 58 :: 32 :: 105 :: 56 :: 41 :: 32 :: 108 :: 101 :: 116 :: 32 :: 122 :: 32 :: 61 :: 32 :: X) (r := 122 :: 58 :: 32 :: 105 :: 56 :: 41 :: 32 :: 108 :: 101 :: 116 :: 32 :: 122 :: 32 :: 61 :: 32 :: X) (kd := 4) (n := 0) (t := 0) (len := 1) (a := 16) (room := room - 5) (by kernel_rfl) (by decide) (by omega) (by kernel_rfl)
    exact e
  have h6 : tks (122 :: 58 :: 32 :: 105 :: 56 :: 41 :: 32 :: 108 :: 101 :: 116 :: 32 :: 122 :: 32 :: 61 :: 32 :: X) 18 (room - 6) = (tks (58 :: 32 :: 105 :: 56 :: 41 :: 32 :: 108 :: 101 :: 116 :: 32 :: 122 :: 32 :: 61 :: 32 :: X) 19 (room - 7)).pre ⟨1, [122], 0, 0, 18⟩ := by
    have e := tks_step (l := 122 :: 58 :: 32 :: 105 :: 56 :: 41 :: 32 :: 108 :: 101 :: 116 :: 32 :: 122 :: 32 :: 61 :: 32 :: X) (r := 58 :: 32 :: 105 :: 56 :: 41 :: 32 :: 108 :: 101 :: 116 :: 32 :: 122 :: 32 :: 61 :: 32 :: X) (kd := 1) (n := 0) (t := 0) (len := 1) (a := 18) (room := room - 6) (by kernel_rfl) (by decide) (by omega) (by kernel_rfl)
    exact e
  have h7 : tks (58 :: 32 :: 105 :: 56 :: 41 :: 32 :: 108 :: 101 :: 116 :: 32 :: 122 :: 32 :: 61 :: 32 :: X) 19 (room - 7) = (tks (32 :: 105 :: 56 :: 41 :: 32 :: 108 :: 101 :: 116 :: 32 :: 122 :: 32 :: 61 :: 32 :: X) 20 (room - 8)).pre ⟨4, [58], 0, 0, 19⟩ := by
    have e := tks_step (l := 58 :: 32 :: 105 :: 56 :: 41 :: 32 :: 108 :: 101 :: 116 :: 32 :: 122 :: 32 :: 61 :: 32 :: X) (r := 32 :: 105 :: 56 :: 41 :: 32 :: 108 :: 101 :: 116 :: 32 :: 122 :: 32 :: 61 :: 32 :: X) (kd := 4) (n := 0) (t := 0) (len := 1) (a := 19) (room := room - 7) (by kernel_rfl) (by decide) (by omega) (by kernel_rfl)
    exact e
  have h8 : tks (32 :: 105 :: 56 :: 41 :: 32 :: 108 :: 101 :: 116 :: 32 :: 122 :: 32 :: 61 :: 32 :: X) 20 (room - 8) = (tks (41 :: 32 :: 108 :: 101 :: 116 :: 32 :: 122 :: 32 :: 61 :: 32 :: X) 23 (room - 9)).pre ⟨3, [105, 56], 0, 0, 21⟩ := by
    have e := tks_step (l := 32 :: 105 :: 56 :: 41 :: 32 :: 108 :: 101 :: 116 :: 32 :: 122 :: 32 :: 61 :: 32 :: X) (r := 41 :: 32 :: 108 :: 101 :: 116 :: 32 :: 122 :: 32 :: 61 :: 32 :: X) (kd := 3) (n := 0) (t := 0) (len := 2) (a := 20) (room := room - 8) (by kernel_rfl) (by decide) (by omega) (by kernel_rfl)
    exact e
  have h9 : tks (41 :: 32 :: 108 :: 101 :: 116 :: 32 :: 122 :: 32 :: 61 :: 32 :: X) 23 (room - 9) = (tks (32 :: 108 :: 101 :: 116 :: 32 :: 122 :: 32 :: 61 :: 32 :: X) 24 (room - 10)).pre ⟨4, [41], 0, 0, 23⟩ := by
    have e := tks_step (l := 41 :: 32 :: 108 :: 101 :: 116 :: 32 :: 122 :: 32 :: 61 :: 32 :: X) (r := 32 :: 108 :: 101 :: 116 :: 32 :: 122 :: 32 :: 61 :: 32 :: X) (kd := 4) (n := 0) (t := 0) (len := 1) (a := 23) (room := room - 9) (by kernel_rfl) (by decide) (by omega) (by kernel_rfl)
    exact e
  have h10 : tks (32 :: 108 :: 101 :: 116 :: 32 :: 122 :: 32 :: 61 :: 32 :: X) 24 (room - 10) = (tks (32 :: 122 :: 32 :: 61 :: 32 :: X) 28 (room - 11)).pre ⟨3, [108, 101, 116], 0, 0, 25⟩ := by
    have e := tks_step (l := 32 :: 108 :: 101 :: 116 :: 32 :: 122 :: 32 :: 61 :: 32 :: X) (r := 32 :: 122 :: 32 :: 61 :: 32 :: X) (kd := 3) (n := 0) (t := 0) (len := 3) (a := 24) (room := room - 10) (by kernel_rfl) (by decide) (by omega) (by kernel_rfl)
    exact e
  have h11 : tks (32 :: 122 :: 32 :: 61 :: 32 :: X) 28 (room - 11) = (tks (32 :: 61 :: 32 :: X) 30 (room - 12)).pre ⟨1, [122], 0, 0, 29⟩ := by
    have e := tks_step (l := 32 :: 122 :: 32 :: 61 :: 32 :: X) (r := 32 :: 61 :: 32 :: X) (kd := 1) (n := 0) (t := 0) (len := 1) (a := 28) (room := room - 11) (by kernel_rfl) (by decide) (by omega) (by kernel_rfl)
    exact e
  have h12 : tks (32 :: 61 :: 32 :: X) 30 (room - 12) = (tks (32 :: X) 32 (room - 13)).pre ⟨4, [61], 0, 0, 31⟩ := by
    have e := tks_step (l := 32 :: 61 :: 32 :: X) (r := 32 :: X) (kd := 4) (n := 0) (t := 0) (len := 1) (a := 30) (room := room - 12) (by kernel_rfl) (by decide) (by omega) (by kernel_rfl)
    exact e
  have hb : tks (32 :: X) 32 (room - 13) = tks X 33 (room - 13) := tks_blank X 32 _ (by decide)
  show tks (110 :: 111 :: 100 :: 101 :: 32 :: 102 :: 40 :: 41 :: 32 :: 114 :: 101 :: 116 :: 117 :: 114 :: 110 :: 115 :: 32 :: 40 :: 122 :: 58 :: 32 :: 105 :: 56 :: 41 :: 32 :: 108 :: 101 :: 116 :: 32 :: 122 :: 32 :: 61 :: 32 :: X) 0 (room - 0) = _
  rw [h0, h1, h2, h3, h4, h5, h6, h7, h8, h9, h10, h11, h12, hb]
  rfl
/-- brackets in a row -/
def brks (c : UInt8) : Nat → Nat → List Tk
  | 0, _ => []
  | n + 1, a => ⟨4, [c], 0, 0, a⟩ :: brks c n (a + 1)
theorem brks_len (c : UInt8) : ∀ n a, (brks c n a).length = n
  | 0, _ => rfl
  | n + 1, a => by simp [brks, brks_len c n]
theorem tks_one (c : UInt8) (hc : c = 40 ∨ c = 41) (X : List UInt8) (a room : Nat) (h : room ≠ 0) : tks (c :: X) a room = (tks X (a + 1) (room - 1)).pre ⟨4, [c], 0, 0, a⟩ := by
  have h0 : skp false (c :: X) = 0 := by rcases hc with rfl | rfl <;> simp [skp, blank]
  have h1 : tokAt ((c :: X).drop (skp false (c :: X))) = .tok 4 0 0 1 := by
    rw [h0, List.drop_zero]
    show (if digit c then numTok (c :: X) else if word c then nameTok (c :: X) else signTok (c :: X)) = _
    rcases hc with rfl | rfl
    · rw [if_neg (by decide), if_neg (by decide)]; unfold signTok signW; simp [pk]
    · rw [if_neg (by decide), if_neg (by decide)]; unfold signTok signW; simp [pk]
  have e := tks_step (a := a) (room := room) h1 (by decide) h (r := X) (by rw [h0]; rfl)
  rw [h0] at e
  exact e
theorem tks_brks (c : UInt8) (hc : c = 40 ∨ c = 41) (X : List UInt8) : ∀ (n a room : Nat), n ≤ room → tks (List.replicate n c ++ X) a room = preL (brks c n a) (tks X (a + n) (room - n))
  | 0, a, room, _ => by simp [brks, preL]
  | n + 1, a, room, h => by
    rw [List.replicate_succ, List.cons_append, tks_one c hc _ _ _ (by omega), tks_brks c hc X n (a + 1) (room - 1) (by omega)]
    rw [show a + 1 + n = a + (n + 1) by omega, show room - 1 - n = room - (n + 1) by omega]
    rfl
def telT (a : Nat) : List Tk := [⟨4, [59], 0, 0, a⟩, ⟨3, [116, 101, 108], 0, 0, a + 2⟩, ⟨5, [], 0, 0, a + 5⟩]
theorem tks_tel (a room : Nat) (h : 3 ≤ room) : tks [59, 32, 116, 101, 108] a room = .ok (telT a) := by
  have e1 := tks_step (l := [59, 32, 116, 101, 108]) (r := [32, 116, 101, 108]) (kd := 4) (n := 0) (t := 0) (len := 1) (a := a) (room := room) (by kernel_rfl) (by decide) (by omega) (by kernel_rfl)
  have e2 := tks_step (l := [32, 116, 101, 108]) (r := []) (kd := 3) (n := 0) (t := 0) (len := 3) (a := a + 1) (room := room - 1) (by kernel_rfl) (by decide) (by omega) (by kernel_rfl)
  have e3 : tks [] (a + 5) (room - 2) = .ok [⟨5, [], 0, 0, a + 5⟩] := by
    unfold tks; rw [List.length_nil, toks]
    show (if room - 2 = 0 then _ else _) = _
    rw [if_neg (by omega)]
    rfl
  rw [e1]
  show (tks [32, 116, 101, 108] (a + 0 + 1) (room - 1)).pre _ = _
  rw [Nat.add_zero, e2]
  show ((tks [] (a + 1 + 1 + 3) (room - 1 - 1)).pre _).pre _ = _
  rw [show a + 1 + 1 + 3 = a + 5 by omega, show room - 1 - 1 = room - 2 by omega, e3]
  rfl

/-- the tokens of the node with s for its expression, and with n brackets around s -/
theorem tokens_brks {s : List UInt8} {T : List Tk} (hs : s.length ≤ 1000) (hd : noDash s) (hT : tokens (headL ++ s ++ [59, 32, 116, 101, 108]) = .ok T) : ∃ S : List Tk, S.length ≤ 1000 ∧ (∀ t ∈ S, t.kind ≠ 5) ∧ T = headT ++ (S ++ telT (33 + s.length)) ∧
    ∀ n, n ≤ 5 → tokens (headL ++ (List.replicate n 40 ++ s ++ List.replicate n 41) ++ [59, 32, 116, 101, 108]) = .ok (headT ++ (brks 40 n 33 ++ (S.map (Tk.far n) ++ (brks 41 n (33 + n + s.length) ++ telT (33 + n + s.length + n))))) := by
  have hh : headL.length = 33 := rfl
  have hT2 : tks (headL ++ (s ++ [59, 32, 116, 101, 108])) 0 20000 = .ok T := by
    rw [List.append_assoc] at hT
    unfold tokens at hT
    rw [if_neg (by simp [hh]; omega)] at hT
    exact hT
  rw [tks_head _ _ (by omega)] at hT2
  cases hw : tks (s ++ [59, 32, 116, 101, 108]) 33 (20000 - 13) with
  | err a e => rw [hw, preL_err] at hT2; cases hT2
  | ok L =>
    obtain ⟨S, s1, s2, s3, s4, s5⟩ := tks_win s.length s (Nat.le_refl _) hd [32, 116, 101, 108] 33 (20000 - 13) L hw
    refine ⟨S, by omega, s2, ?_, fun n hn => ?_⟩
    · rw [s4, tks_tel _ _ (by omega), preL_ok, preL_ok] at hT2
      injection hT2 with hT2
      exact hT2.symm
    · unfold tokens
      rw [if_neg (by simp [hh]; omega)]
      show tks (headL ++ (List.replicate n 40 ++ s ++ List.replicate n 41) ++ [59, 32, 116, 101, 108]) 0 20000 = _
      rw [List.append_assoc, tks_head _ _ (by omega), List.append_assoc, List.append_assoc, tks_brks 40 (.inl rfl) _ n 33 _ (by omega)]
      have e : tks (s ++ (List.replicate n 41 ++ [59, 32, 116, 101, 108])) (33 + n) (20000 - 13 - n) = preL (S.map (Tk.far n)) (tks (List.replicate n 41 ++ [59, 32, 116, 101, 108]) (33 + n + s.length) (20000 - 13 - n - S.length)) := by
        cases n with
        | zero => exact s5 59 [32, 116, 101, 108] 0 _ (.inr rfl) (by omega)
        | succ n =>
          rw [List.replicate_succ]
          exact s5 41 (List.replicate n 41 ++ [59, 32, 116, 101, 108]) (n + 1) (20000 - 13 - (n + 1)) (.inl rfl) (by omega)
      rw [e, tks_brks 41 (.inr rfl) _ n _ _ (by omega), tks_tel _ _ (by omega), preL_ok, preL_ok, preL_ok, preL_ok]
end Go.Proofs.YtachmiajldeakaaGreatDoor.Lex
