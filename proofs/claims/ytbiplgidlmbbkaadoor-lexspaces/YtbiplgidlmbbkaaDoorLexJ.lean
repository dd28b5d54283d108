/- lex.Tokens: the tokens of every text, or where and why it has none; of what was there nothing has turned. -/
import Derived.Test.YtbiplgidlmbbkaaDoorLexI
import Derived.Deep.Onto
namespace Go.Proofs.YtbiplgidlmbbkaaDoor
open Go.RowKit Go.Maps Go.WideMaps

/-- what Tokens answers: a list, a place and an error -/
def tkRel (B : Nat) (r : Lex.Res) (v : Value) (a er : Int) (w' : World) : Prop :=
  match r with
  | .err p x => v = .slice none 0 0 ∧ a = (p : Int) ∧ er = x ∧ ¬ x = 0
  | .ok ts => a = 0 ∧ er = 0 ∧ w'.ownsRow B 30 6 v ts.length (Lex.row ts)
theorem tkPost_form {w : World} {r : Lex.Res} {e : Ending} {w' : World} (h : tkPost w r e w') : ∃ v a er, e = .returned (.tuple #[v, .int .i64 a, .int .i64 er]) ∧ tkRel w.heap.size r v a er w' := by
  cases r with
  | err p x => exact ⟨_, _, _, h.1, rfl, rfl, rfl, h.2⟩
  | ok ts => obtain ⟨v, h1, h2⟩ := h; exact ⟨v, 0, 0, h1, rfl, rfl, h2⟩
theorem tkRel.mono {B B' : Nat} {r : Lex.Res} {v : Value} {a er : Int} {w' : World} (h : tkRel B r v a er w') (hB : B' ≤ B) : tkRel B' r v a er w' := by
  cases r with
  | err p x => exact h
  | ok ts => exact ⟨h.1, h.2.1, h.2.2.mono hB⟩

set_option maxHeartbeats 800000 in
theorem tokens_any (s : ByteArray) (w : World) (hl : LaidR w) :
    Calls Tryd.prog 10 #[.string s] w fun e w' => ∃ v a er, e = .returned (.tuple #[v, .int .i64 a, .int .i64 er]) ∧ tkRel w.heap.size (Lex.tokens s.data.toList) v a er w' ∧ w.grownBy w' none := by
  have hsz : s.data.toList.length = s.size := by simp
  by_cases hs : 65536 < s.size
  · have ht : Lex.tokens s.data.toList = .err 0 2 := by unfold Lex.tokens; rw [if_pos (by omega)]
    rw [ht]
    have hd : decide ((65536 : Int) < (s.size : Int)) = true := by rw [decide_eq_true_iff]; omega
    go_enter Tryd.func10, Tryd.ntmps10
    go_wp2
    go_ret3
    exact ⟨_, _, _, rfl, ⟨rfl, rfl, rfl, by decide⟩, World.grownBy.refl _ _⟩
  · have ht : Lex.tokens s.data.toList = Lex.tail s.data.toList 0 20000 := by unfold Lex.tokens; rw [if_neg (by omega)]; rfl
    rw [ht]
    have hd : decide ((65536 : Int) < (s.size : Int)) = false := by rw [decide_eq_false_iff_not]; omega
    go_enter Tryd.func10, Tryd.ntmps10
    go_wp2_with (go_at_call 18; refine (words_any _).mono ?_; rintro e w1 ⟨rfl, hW1, hg1⟩; refine Hid.out ?_)
    have hlt := hW1.lt
    have hl1 := hl.on hg1 (by simp)
    have h1 := hl1.lt
    have hR : Rd (w1.alloc (.cells #[.string s, .int .i64 0, .map (some w.heap.size)] 48)) w1.heap.size s 0 w.heap.size := heap_alloc_new w1 _
    have hG := gather_any w1.heap.size s w.heap.size (by omega) (by omega) (by omega) _ hR (hW1.kept (World.grownBy_alloc w1 _ none) (by simp)) (hl1.on (World.grownBy_alloc w1 _ none) (by simp))
    refine Lib.hid ?_
    go_wp2_with (go_at_call 19; refine hG.mono ?_; rintro e w2 ⟨hp, hg2⟩; obtain ⟨v, a, er, rfl, hrel⟩ := tkPost_form hp)
    go_ret3
    refine ⟨_, _, _, rfl, hrel.mono ?_, ?_⟩
    · have := hg1.size
      simp only [World.size_alloc]
      omega
    · exact (galloc hg1 _).andThen hg2 (fun j e => .inl (by cases e; exact hg1.size))

end Go.Proofs.YtbiplgidlmbbkaaDoor
