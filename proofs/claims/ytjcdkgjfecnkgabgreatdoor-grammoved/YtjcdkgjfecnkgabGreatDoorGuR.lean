/- Every place that Parse tells lies within the text; a node of its answer has an output. -/
import Derived.Test.YtjcdkgjfecnkgabGreatDoorGuQ
namespace Go.Proofs.YtjcdkgjfecnkgabGreatDoor
open Go.RowKit

namespace Lex
theorem signW_two (c d : Nat) : signW c d ≤ 2 := by
  unfold signW
  split
  · omega
  · split <;> omega
/-- no token is longer than its text -/
theorem tokAt_len {l : List UInt8} {kd n t : Int} {len : Nat} (h : tokAt l = .tok kd n t len) : len ≤ l.length := by
  unfold tokAt at h
  split at h
  · injection h with h1 h2 h3 h4; subst h4; simp
  · rename_i c r
    split at h
    · have e1 := spn_le digit (c :: r)
      have e2 := spn_le word ((c :: r).drop (spn digit (c :: r)))
      rw [List.length_drop] at e2
      unfold numTok at h
      dsimp only at h
      repeat' split at h
      all_goals first | (cases h; done) | (injection h with h1 h2 h3 h4; omega)
    · split at h
      · have e1 := spn_le word (c :: r)
        unfold nameTok at h
        dsimp only at h
        repeat' split at h
        all_goals first | (cases h; done) | (injection h with h1 h2 h3 h4; omega)
      · unfold signTok at h
        dsimp only at h
        split at h
        · cases h
        · injection h with h1 h2 h3 h4
          rename_i hd hw hz
          cases r with
          | cons d s =>
            have : signW (pk (c :: d :: s) 0) (pk (c :: d :: s) 1) ≤ 2 := signW_two _ _
            simp only [List.length_cons]; omega
          | nil =>
            have : signW (pk [c] 0) (pk [c] 1) ≤ 1 := by
              show signW c.toNat 0 ≤ 1
              unfold signW; rw [if_neg (by omega)]; split <;> omega
            simp only [List.length_cons, List.length_nil]; omega
theorem toks_bd : ∀ (f : Nat) (l : List UInt8) (a room : Nat), (∀ p e, toks f l a room = .err p e → p ≤ a + l.length) ∧ (∀ T, toks f l a room = .ok T → ∀ t ∈ T, t.at_ ≤ a + l.length)
  | 0, l, a, room => by
    unfold toks
    exact ⟨fun p e h => by injection h with h1 h2; omega, fun T h => by cases h⟩
  | f + 1, l, a, room => by
    have hs := skp_le false l
    rw [toks]
    cases ht : tokAt (l.drop (skp false l)) with
    | bad e => exact ⟨fun p e h => by injection h with h1 h2; omega, fun T h => by cases h⟩
    | tok kd n t len =>
      dsimp only
      have hl := tokAt_len ht
      rw [List.length_drop] at hl
      by_cases h0 : room = 0
      · rw [if_pos h0]; exact ⟨fun p e h => by injection h with h1 h2; omega, fun T h => by cases h⟩
      rw [if_neg h0]
      by_cases h5 : kd = 5
      · rw [if_pos h5]
        refine ⟨fun p e h => (by cases h), fun T h => ?_⟩
        injection h with h
        subst h
        intro t ht
        rw [List.mem_singleton] at ht
        subst ht
        show a + skp false l ≤ _
        omega
      · rw [if_neg h5]
        obtain ⟨h1, h2⟩ := toks_bd f ((l.drop (skp false l)).drop len) (a + skp false l + len) (room - 1)
        simp only [List.length_drop] at h1 h2
        cases hr : toks f ((l.drop (skp false l)).drop len) (a + skp false l + len) (room - 1) with
        | err p e =>
          have := h1 p e hr
          exact ⟨fun p' e' h => by injection h with h3 h4; omega, fun T h => by cases h⟩
        | ok T2 =>
          have h3 := h2 T2 hr
          refine ⟨fun p e h => (by cases h), fun T h => ?_⟩
          injection h with h
          subst h
          intro t ht
          rcases List.mem_cons.1 ht with rfl | ht
          · show a + skp false l ≤ _
            omega
          · have := h3 t ht
            omega
end Lex
namespace Gram
/-- within a text of some length -/
def In (K : Nat) (a : Int) : Prop := 0 ≤ a ∧ a ≤ K
theorem parse_in (s : B) (h : s.length ≤ 65536) : match parse s with | .ok l => ∀ n ∈ l, NodeOk (In s.length) n | .bad a _ => In s.length a | .fuel => False := by
  have hf := parse_any s
  unfold parse at hf ⊢
  have hb := Lex.toks_bd (s.length + 1) s 0 20000
  have ht : Lex.tokens s = Lex.toks (s.length + 1) s 0 20000 := by unfold Lex.tokens; rw [if_neg (by omega)]
  rw [ht] at hf ⊢
  cases hr : Lex.toks (s.length + 1) s 0 20000 with
  | err a e => exact ⟨by omega, by have := hb.1 a e hr; omega⟩
  | ok T =>
    rw [hr] at hf
    have hP : ∀ i, In s.length ((tk T i).at_ : Int) := by
      intro i
      refine ⟨by omega, ?_⟩
      unfold tk
      cases hi : T[i]? with
      | none => simp [List.getD, hi, endTk]
      | some t => simp only [List.getD, hi, Option.getD_some]; have := hb.2 T hr t (List.mem_of_getElem? hi); omega
    have hp := program_bd hP (20 * T.length + 100)
    simp only at hf ⊢
    cases hq : program T (20 * T.length + 100) with
    | ok l j => rw [hq] at hp; exact hp
    | bad a e => rw [hq] at hp; exact hp
    | fuel => rw [hq] at hf; exact absurd rfl hf
end Gram
end Go.Proofs.YtjcdkgjfecnkgabGreatDoor
