/- The tokens of a text, on: how a list of tokens lies in memory; how the tokens behind those that are read come out; and the walk of gather. -/
import Derived.Test.YtbiplgidlmbbkaaDoorLexG
namespace Go.Proofs.YtbiplgidlmbbkaaDoor
open Go.RowKit Go.Maps Go.WideMaps

namespace Lex
/-- a token's six cells -/
def cells (x : Tk) : List Value := [.int .i64 x.kind, .string ⟨x.text.toArray⟩, .int .i64 x.n, .int .i64 x.t, .int .i64 0, .int .i64 (x.at_ : Int)]
/-- the cells of a list of tokens -/
def row (l : List Tk) : List Value := l.flatMap cells
theorem row_snoc (l : List Tk) (x : Tk) : row (l ++ [x]) = row l ++ cells x := by simp [row]

def preL (acc : List Tk) (r : Res) : Res := acc.foldr Res.pre r
theorem preL_snoc (acc : List Tk) (x : Tk) (r : Res) : preL (acc ++ [x]) r = preL acc (r.pre x) := by simp [preL]
theorem preL_err (acc : List Tk) (a : Nat) (e : Int) : preL acc (.err a e) = .err a e := by
  induction acc with
  | nil => rfl
  | cons x r ih => simp only [preL, List.foldr_cons] at ih ⊢; rw [ih]; rfl
theorem preL_ok (acc l : List Tk) : preL acc (.ok l) = .ok (acc ++ l) := by
  induction acc with
  | nil => rfl
  | cons x r ih => simp only [preL, List.foldr_cons] at ih ⊢; rw [ih]; rfl

theorem signW_pos {c d : Nat} (h : ¬ signW c d = 0) : 0 < signW c d := by omega
theorem spn_pos {p : UInt8 → Bool} {c : UInt8} {r : List UInt8} (h : p c = true) : 0 < spn p (c :: r) := by
  unfold spn; rw [List.takeWhile_cons, if_pos h]; simp

/-- the end of a text is the one token without a byte -/
theorem tokAt_tok {l : List UInt8} {kd n t : Int} {len : Nat} (h : tokAt l = .tok kd n t len) : (l = [] ∧ kd = 5 ∧ n = 0 ∧ t = 0 ∧ len = 0) ∨ (l ≠ [] ∧ ¬ kd = 5 ∧ 0 < len) := by
  unfold tokAt at h
  split at h
  · injection h with h1 h2 h3 h4
    exact .inl ⟨rfl, h1.symm, h2.symm, h3.symm, h4.symm⟩
  · rename_i c r
    refine .inr ⟨by simp, ?_⟩
    split at h
    · rename_i hd
      have hp := spn_pos (r := r) hd
      unfold numTok at h
      dsimp only at h
      repeat' split at h
      all_goals first | (cases h; done) | (injection h with h1 h2 h3 h4; omega)
    · split at h
      · rename_i hd
        have hp := spn_pos (r := r) hd
        unfold nameTok at h
        dsimp only at h
        repeat' split at h
        all_goals first | (cases h; done) | (injection h with h1 h2 h3 h4; omega)
      · unfold signTok at h
        dsimp only at h
        split at h
        · cases h
        · injection h with h1 h2 h3 h4; omega

theorem toks_fuel : ∀ (f g : Nat) (l : List UInt8) (a room : Nat), l.length < f → l.length < g → toks f l a room = toks g l a room
  | 0, _, _, _, _, h, _ => by omega
  | _ + 1, 0, _, _, _, _, h => by omega
  | f + 1, g + 1, l, a, room, hf, hg => by
    rw [toks, toks]
    cases htk : tokAt (l.drop (skp false l)) with
    | bad e => rfl
    | tok kd n t len =>
      dsimp only
      by_cases h0 : room = 0
      · rw [if_pos h0, if_pos h0]
      · rw [if_neg h0, if_neg h0]
        by_cases h5 : kd = 5
        · rw [if_pos h5, if_pos h5]
        · rw [if_neg h5, if_neg h5]
          rcases tokAt_tok htk with hh | ⟨hne, _, hlen⟩
          · exact absurd hh.2.1 h5
          · have h2 : 0 < (l.drop (skp false l)).length := by
              cases h3 : l.drop (skp false l) with
              | nil => exact absurd h3 hne
              | cons c r => simp
            have h3 : ((l.drop (skp false l)).drop len).length < l.length := by
              simp only [List.length_drop] at h2 ⊢; omega
            rw [toks_fuel f g _ _ _ (by omega) (by omega)]

/-- what is behind a place -/
def tail (l : List UInt8) (i room : Nat) : Res := toks (l.length + 1) (l.drop i) i room

theorem tail_bad {l : List UInt8} {i room : Nat} {er : Int} (h : tokAt (l.drop (i + skp false (l.drop i))) = .bad er) : tail l i room = .err (i + skp false (l.drop i)) er := by
  unfold tail
  rw [toks, List.drop_drop, h]
theorem tail_full {l : List UInt8} {i : Nat} {kd n t : Int} {len : Nat} (h : tokAt (l.drop (i + skp false (l.drop i))) = .tok kd n t len) : tail l i 0 = .err (i + skp false (l.drop i)) 2 := by
  unfold tail
  rw [toks, List.drop_drop, h]
  rfl
theorem tail_end {l : List UInt8} {i room : Nat} {n t : Int} {len : Nat} (h : tokAt (l.drop (i + skp false (l.drop i))) = .tok 5 n t len) (hr : ¬ room = 0) : tail l i room = .ok [⟨5, [], 0, 0, i + skp false (l.drop i)⟩] := by
  unfold tail
  rw [toks, List.drop_drop, h]
  dsimp only
  rw [if_neg hr, if_pos rfl]
theorem tail_tok {l : List UInt8} {i room : Nat} {kd n t : Int} {len : Nat} (h : tokAt (l.drop (i + skp false (l.drop i))) = .tok kd n t len) (hr : ¬ room = 0) (h5 : ¬ kd = 5) :
    tail l i room = (tail l (i + skp false (l.drop i) + len) (room - 1)).pre ⟨kd, (l.drop (i + skp false (l.drop i))).take len, n, t, i + skp false (l.drop i)⟩ := by
  unfold tail
  rw [toks, List.drop_drop, h]
  dsimp only
  rw [if_neg hr, if_neg h5, List.drop_drop]
  congr 1
  have hlen := (tokAt_tok h).resolve_left (fun hh => h5 hh.2.1)
  have h2 : 0 < (l.drop (i + skp false (l.drop i))).length := by
    cases h3 : l.drop (i + skp false (l.drop i)) with
    | nil => exact absurd h3 hlen.1
    | cons c r => simp
  exact toks_fuel _ _ _ _ _ (by simp only [List.length_drop] at h2 ⊢; omega) (by simp only [List.length_drop]; omega)
end Lex

theorem ext_mk (s : ByteArray) (i j : Nat) : s.extract i (i + j) = ⟨((s.data.toList.drop i).take j).toArray⟩ := by
  rw [← ext_list]

theorem infoT : (Tryd.prog.info? 30).map (fun i => (i.zero, i.size, i.bytes)) = some (some (.agg #[.int .i64 0, .string ⟨#[]⟩, .int .i64 0, .int .i64 0, .int .i64 0, .int .i64 0]), 6, 56) := by kernel_rfl

theorem cell_six_new (w : World) (v0 v1 v2 v3 v4 v5 : Value) (t : TypeId) : ∀ j u, [v0, v1, v2, v3, v4, v5][j]? = some u → (w.alloc (.cells #[v0, v1, v2, v3, v4, v5] t)).cell? ((⟨w.heap.size, 0, none⟩ : Addr).add j) = some u := by
  intro j u hu
  have hadd : (⟨w.heap.size, 0, none⟩ : Addr).add j = ⟨w.heap.size, j, none⟩ := by unfold Addr.add; split <;> simp_all
  rw [hadd, cell_of_row _ _ j _ _ _ (heap_alloc_new w _)]
  simpa using hu

/-- what gather and Tokens answer -/
def tkPost (w : World) (r : Lex.Res) (e : Ending) (w' : World) : Prop :=
  match r with
  | .err a er => e = .returned (.tuple #[.slice none 0 0, .int .i64 (a : Int), .int .i64 er]) ∧ ¬ er = 0
  | .ok ts => ∃ v, e = .returned (.tuple #[v, .int .i64 0, .int .i64 0]) ∧ w'.ownsRow w.heap.size 30 6 v ts.length (Lex.row ts)

end Go.Proofs.YtbiplgidlmbbkaaDoor
