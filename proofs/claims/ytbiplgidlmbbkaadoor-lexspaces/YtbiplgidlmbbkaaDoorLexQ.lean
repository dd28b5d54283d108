/- Words with blanks, lines or comments ahead of each have the same tokens, but for their places, whichever of these stand there. -/
import Derived.Test.YtbiplgidlmbbkaaDoorLexS
namespace Go.Proofs.YtbiplgidlmbbkaaDoor
open Go.RowKit
namespace Lex

/-- a byte that a word may have -/
def plain (c : UInt8) : Bool := c.toNat != 10 && c.toNat != 45
/-- what stands behind a word: nothing, or a byte that no token goes on with -/
def stops (X : List UInt8) : Prop := X = [] ∨ ∃ c r, X = c :: r ∧ (c = 32 ∨ c = 10 ∨ c = 9 ∨ c = 45)

theorem stops_word {X : List UInt8} (h : stops X) : spn word X = 0 ∧ spn digit X = 0 := by
  rcases h with rfl | ⟨c, r, rfl, rfl | rfl | rfl | rfl⟩ <;> simp [spn, word, digit]
theorem spn_app {p : UInt8 → Bool} (u : List UInt8) {X : List UInt8} (h : spn p X = 0) : spn p (u ++ X) = spn p u := by
  induction u with
  | nil => simpa [spn] using h
  | cons c r ih =>
    unfold spn at ih ⊢
    rw [List.cons_append, List.takeWhile_cons, List.takeWhile_cons]
    cases p c <;> simp [ih]
theorem take_app {p : UInt8 → Bool} (u X : List UInt8) : (u ++ X).take (spn p u) = u.take (spn p u) := by
  rw [List.take_append_of_le_length (spn_le p u)]
theorem drop_app {p : UInt8 → Bool} (u X : List UInt8) : (u ++ X).drop (spn p u) = u.drop (spn p u) ++ X := by
  rw [List.drop_append_of_le_length (spn_le p u)]

theorem numTok_app (u : List UInt8) {X : List UInt8} (h : stops X) : numTok (u ++ X) = numTok u := by
  have h1 := (stops_word h).2
  have h2 := (stops_word h).1
  unfold numTok
  dsimp only
  rw [spn_app u h1, drop_app, spn_app _ h2, take_app]
  rw [take_app]
theorem nameTok_app (u : List UInt8) {X : List UInt8} (h : stops X) : nameTok (u ++ X) = nameTok u := by
  have h2 := (stops_word h).1
  unfold nameTok
  dsimp only
  rw [spn_app u h2, take_app]
theorem signW_stop (c d : Nat) (h : d = 0 ∨ d = 32 ∨ d = 10 ∨ d = 9 ∨ d = 45) : signW c d = signW c 0 := by
  unfold signW
  rcases h with rfl | rfl | rfl | rfl | rfl <;> simp
theorem signW_two (c d : Nat) : signW c d ≤ 2 := by
  unfold signW
  split
  · omega
  · split <;> omega
theorem signTok_app (c : UInt8) (u : List UInt8) {X : List UInt8} (h : stops X) : signTok (c :: u ++ X) = signTok (c :: u) := by
  unfold signTok
  cases u with
  | cons d r => rfl
  | nil =>
    rcases h with rfl | ⟨x, r, rfl, hx⟩
    · rfl
    · have e : signW (pk ([c] ++ x :: r) 0) (pk ([c] ++ x :: r) 1) = signW (pk [c] 0) (pk [c] 1) := by
        show signW c.toNat x.toNat = signW c.toNat 0
        exact signW_stop _ _ (by rcases hx with rfl | rfl | rfl | rfl <;> simp)
      rw [e]
theorem tokAt_app (c : UInt8) (u : List UInt8) {X : List UInt8} (h : stops X) : tokAt (c :: u ++ X) = tokAt (c :: u) := by
  have e1 := numTok_app (c :: u) h
  have e2 := nameTok_app (c :: u) h
  have e3 := signTok_app c u h
  show (if digit c then numTok (c :: u ++ X) else if word c then nameTok (c :: u ++ X) else signTok (c :: u ++ X)) = _
  rw [e1, e2, e3]
  rfl
/-- no token is longer than its text -/
theorem tokAt_len {l : List UInt8} {kd n t : Int} {len : Nat} (h : tokAt l = .tok kd n t len) : len ≤ l.length := by
  unfold tokAt at h
  split at h
  · injection h with h1 h2 h3 h4; subst h4; simp
  · rename_i c r
    split at h
    · have e1 := spn_le digit (c :: r)
      have e2 := spn_le word ((c :: r).drop (spn digit (c :: r)))
      rw [List.length_drop] at e2
      unfold numTok at h
      dsimp only at h
      repeat' split at h
      all_goals first | (cases h; done) | (injection h with h1 h2 h3 h4; omega)
    · split at h
      · have e1 := spn_le word (c :: r)
        unfold nameTok at h
        dsimp only at h
        repeat' split at h
        all_goals first | (cases h; done) | (injection h with h1 h2 h3 h4; omega)
      · unfold signTok at h
        dsimp only at h
        split at h
        · cases h
        · injection h with h1 h2 h3 h4
          rename_i hd hw hz
          cases r with
          | cons d s =>
            have : signW (pk (c :: d :: s) 0) (pk (c :: d :: s) 1) ≤ 2 := signW_two _ _
            simp only [List.length_cons]; omega
          | nil =>
            have : signW (pk [c] 0) (pk [c] 1) ≤ 1 := by
              show signW c.toNat 0 ≤ 1
              unfold signW; rw [if_neg (by omega)]; split <;> omega
            simp only [List.length_cons, List.length_nil]; omega

/-- bytes that are passed ahead of whatever follows -/
def Skips (p : List UInt8) : Prop := ∀ l, skp false (p ++ l) = p.length + skp false l
theorem skips_blanks {p : List UInt8} (h : ∀ c ∈ p, blank c = true) : Skips p := by
  induction p with
  | nil => intro l; simp
  | cons c r ih =>
    intro l
    rw [List.cons_append, skp_cons_blank _ _ (h c (by simp)), ih (fun d hd => h d (by simp [hd])) l, List.length_cons]
    omega
theorem skips_comment : Skips [45, 45, 32, 119, 111, 114, 100, 115, 10] := by
  intro l
  simp [skp, blank]
  omega
def sepL (g : Nat) : List UInt8 := if g = 0 then [32] else if g = 1 then [10] else if g = 2 then [9, 13] else [45, 45, 32, 119, 111, 114, 100, 115, 10]
theorem skips_sep (g : Nat) : Skips (sepL g) := by
  unfold sepL
  split
  · exact skips_blanks (by decide)
  · split
    · exact skips_blanks (by decide)
    · split
      · exact skips_blanks (by decide)
      · exact skips_comment
theorem stops_sep (g : Nat) (l : List UInt8) : stops (sepL g ++ l) := by
  refine .inr ?_
  unfold sepL
  split
  · exact ⟨32, l, rfl, .inl rfl⟩
  · split
    · exact ⟨10, l, rfl, .inr (.inl rfl)⟩
    · split
      · exact ⟨9, 13 :: l, rfl, .inr (.inr (.inl rfl))⟩
      · exact ⟨45, _, rfl, .inr (.inr (.inr rfl))⟩
theorem toks_skip {p : List UInt8} (h : Skips p) (f : Nat) (l : List UInt8) (a room : Nat) : toks (f + 1) (p ++ l) a room = toks (f + 1) l (a + p.length) room := by
  rw [toks, toks, h l]
  rw [show (p ++ l).drop (p.length + skp false l) = l.drop (skp false l) by rw [← List.drop_drop]; simp]
  rw [Nat.add_assoc]

/-- the same but for the places -/
def Tk.like (x y : Tk) : Prop := x.kind = y.kind ∧ x.text = y.text ∧ x.n = y.n ∧ x.t = y.t
inductive Likes : List Tk → List Tk → Prop
  | nil : Likes [] []
  | cons {x y : Tk} {l m : List Tk} : x.like y → Likes l m → Likes (x :: l) (y :: m)
def Res.like : Res → Res → Prop
  | .ok l, .ok m => Likes l m
  | .err _ e, .err _ f => e = f
  | _, _ => False
theorem Res.like_pre {x y : Tk} {r s : Res} (h : x.like y) (hr : r.like s) : (r.pre x).like (s.pre y) := by
  cases r <;> cases s <;> simp_all [Res.like, Res.pre]
  exact .cons h hr

/-- words, each with two numbers of what stands ahead of it -/
def glue1 : List (Nat × Nat × List UInt8) → List UInt8
  | [] => []
  | x :: r => sepL x.1 ++ (x.2.2 ++ glue1 r)
def glue2 : List (Nat × Nat × List UInt8) → List UInt8
  | [] => []
  | x :: r => sepL x.2.1 ++ (x.2.2 ++ glue2 r)
theorem stops_glue1 (ps : List (Nat × Nat × List UInt8)) : stops (glue1 ps) := by
  cases ps with
  | nil => exact .inl rfl
  | cons x r => exact stops_sep _ _
theorem stops_glue2 (ps : List (Nat × Nat × List UInt8)) : stops (glue2 ps) := by
  cases ps with
  | nil => exact .inl rfl
  | cons x r => exact stops_sep _ _

theorem split_blank (u : List UInt8) : (∀ c ∈ u, blank c = true) ∨ ∃ b c v, u = b ++ c :: v ∧ (∀ d ∈ b, blank d = true) ∧ blank c = false := by
  induction u with
  | nil => exact .inl (by simp)
  | cons c r ih =>
    cases hb : blank c with
    | false => exact .inr ⟨[], c, r, rfl, by simp, hb⟩
    | true =>
      rcases ih with h | ⟨b, d, v, rfl, h1, h2⟩
      · exact .inl (by simp_all)
      · exact .inr ⟨c :: b, d, v, rfl, by simp_all, h2⟩

theorem toks_like_step (f : Nat) (ih : ∀ (ps : List (Nat × Nat × List UInt8)) (u : List UInt8) (a1 a2 room : Nat),
    (∀ c ∈ u, plain c = true) → (∀ x ∈ ps, ∀ c ∈ x.2.2, plain c = true) → (u ++ glue1 ps).length < f → (u ++ glue2 ps).length < f →
    (toks f (u ++ glue1 ps) a1 room).like (toks f (u ++ glue2 ps) a2 room)) (ps : List (Nat × Nat × List UInt8)) (b : List UInt8) (c : UInt8) (v : List UInt8) (a1 a2 room : Nat)
    (hb : ∀ d ∈ b, blank d = true) (hc : blank c = false) (hu : ∀ d ∈ b ++ c :: v, plain d = true) (hp : ∀ x ∈ ps, ∀ c ∈ x.2.2, plain c = true)
    (h1 : ((b ++ c :: v) ++ glue1 ps).length < f + 1) (h2 : ((b ++ c :: v) ++ glue2 ps).length < f + 1) :
    (toks (f + 1) ((b ++ c :: v) ++ glue1 ps) a1 room).like (toks (f + 1) ((b ++ c :: v) ++ glue2 ps) a2 room) := by
  have hs := skips_blanks hb
  rw [List.append_assoc, List.append_assoc, toks_skip hs, toks_skip hs]
  have h45 : ¬ c.toNat = 45 := by
    have := hu c (by simp)
    simp [plain] at this; exact this.2
  have k0 : ∀ X, skp false (c :: v ++ X) = 0 := by
    intro X
    rw [List.cons_append, skp, if_neg (by simp [hc]), if_neg (by simp [h45])]
  rw [toks, toks, k0, k0]
  simp only [List.drop_zero, Nat.add_zero]
  rw [tokAt_app c v (stops_glue1 ps), tokAt_app c v (stops_glue2 ps)]
  cases htk : tokAt (c :: v) with
  | bad e => simp [Res.like]
  | tok kd n t len =>
    have hlen := tokAt_len htk
    have hpos : 0 < len := by
      rcases tokAt_tok htk with hh | hh
      · exact absurd hh.1 (by simp)
      · exact hh.2.2
    dsimp only
    by_cases h0 : room = 0
    · simp [h0, Res.like]
    · rw [if_neg h0, if_neg h0]
      by_cases h5 : kd = 5
      · rcases tokAt_tok htk with hh | hh
        · exact absurd hh.1 (by simp)
        · exact absurd h5 hh.2.1
      · rw [if_neg h5, if_neg h5]
        refine Res.like_pre ⟨rfl, ?_, rfl, rfl⟩ ?_
        · show ((c :: v) ++ glue1 ps).take len = ((c :: v) ++ glue2 ps).take len
          rw [List.take_append_of_le_length hlen, List.take_append_of_le_length hlen]
        · rw [List.drop_append_of_le_length hlen, List.drop_append_of_le_length hlen]
          simp only [List.length_append] at h1 h2
          refine ih ps _ _ _ _ (fun d hd => hu d (List.mem_append.2 (.inr (List.mem_of_mem_drop hd)))) hp ?_ ?_
          · simp only [List.length_append, List.length_drop]; omega
          · simp only [List.length_append, List.length_drop]; omega

theorem toks_like : ∀ (f : Nat) (ps : List (Nat × Nat × List UInt8)) (u : List UInt8) (a1 a2 room : Nat),
    (∀ c ∈ u, plain c = true) → (∀ x ∈ ps, ∀ c ∈ x.2.2, plain c = true) → (u ++ glue1 ps).length < f → (u ++ glue2 ps).length < f →
    (toks f (u ++ glue1 ps) a1 room).like (toks f (u ++ glue2 ps) a2 room) := by
  intro f
  induction f with
  | zero => intro ps u a1 a2 room _ _ h; omega
  | succ f ihf =>
    intro ps
    induction ps with
    | nil =>
      intro u a1 a2 room hu hp h1 h2
      rcases split_blank u with hb | ⟨b, c, v, rfl, hb, hc⟩
      · have hs := skips_blanks hb
        show (toks (f + 1) (u ++ []) a1 room).like (toks (f + 1) (u ++ []) a2 room)
        rw [toks_skip hs, toks_skip hs, toks, toks]
        simp only [skp, List.drop_nil, tokAt]
        by_cases h0 : room = 0
        · simp [h0, Res.like]
        · simp only [h0, if_false, if_true, Res.like]
          exact .cons ⟨rfl, rfl, rfl, rfl⟩ .nil
      · exact toks_like_step f ihf [] b c v a1 a2 room hb hc hu hp h1 h2
    | cons x r ihp =>
      intro u a1 a2 room hu hp h1 h2
      rcases split_blank u with hb | ⟨b, c, v, rfl, hb, hc⟩
      · have hs := skips_blanks hb
        rw [toks_skip hs, toks_skip hs]
        show (toks (f + 1) (sepL x.1 ++ (x.2.2 ++ glue1 r)) _ room).like (toks (f + 1) (sepL x.2.1 ++ (x.2.2 ++ glue2 r)) _ room)
        rw [toks_skip (skips_sep _), toks_skip (skips_sep _)]
        refine ihp _ _ _ _ (hp x (by simp)) (fun y hy => hp y (by simp [hy])) ?_ ?_
        · have : (u ++ glue1 (x :: r)).length = u.length + ((sepL x.1).length + (x.2.2 ++ glue1 r).length) := by
            show (u ++ (sepL x.1 ++ (x.2.2 ++ glue1 r))).length = _
            rw [List.length_append, List.length_append]
          omega
        · have : (u ++ glue2 (x :: r)).length = u.length + ((sepL x.2.1).length + (x.2.2 ++ glue2 r).length) := by
            show (u ++ (sepL x.2.1 ++ (x.2.2 ++ glue2 r))).length = _
            rw [List.length_append, List.length_append]
          omega
      · exact toks_like_step f ihf (x :: r) b c v a1 a2 room hb hc hu hp h1 h2
/-- the tokens of words with this or that ahead of each -/
theorem tokens_like (ps : List (Nat × Nat × List UInt8)) (hp : ∀ x ∈ ps, ∀ c ∈ x.2.2, plain c = true) (h1 : (glue1 ps).length ≤ 65536) (h2 : (glue2 ps).length ≤ 65536) :
    (tokens (glue1 ps)).like (tokens (glue2 ps)) := by
  unfold tokens
  rw [if_neg (by omega), if_neg (by omega)]
  rw [toks_fuel _ 65537 (glue1 ps) _ _ (by omega) (by omega), toks_fuel _ 65537 (glue2 ps) _ _ (by omega) (by omega)]
  exact toks_like 65537 ps [] 0 0 20000 (by simp) hp (by simpa using (by omega : (glue1 ps).length < 65537)) (by simpa using (by omega : (glue2 ps).length < 65537))
end Lex
end Go.Proofs.YtbiplgidlmbbkaaDoor
