/- The statements' own look at fixed answers (alive), and num: alive answers true. -/
import Derived.Test.YtbiplgidlmbbkaaDoorLexL
import Derived.Deep.AppendLies
namespace Go.Proofs.YtbiplgidlmbbkaaDoor
open Go.RowKit Go.Maps Go.WideMaps

theorem num_any (k : Int) (w : World) : Calls Tryd.prog 12 #[.int .i64 k] w fun e w' => e = .returned (.int .i64 k) ∧ w' = w := by
  go_enter Tryd.func12, Tryd.ntmps12
  go_wp2
  go_ret
  exact ⟨rfl, rfl⟩

theorem alive1 : Lex.tokens [120, 49, 32, 45, 62, 32, 53, 105, 56, 32, 45, 45, 32, 99] = .ok [⟨1, [120, 49], 0, 0, 0⟩, ⟨4, [45, 62], 0, 0, 3⟩, ⟨2, [53, 105, 56], 5, 2, 6⟩, ⟨5, [], 0, 0, 14⟩] := by kernel_rfl
theorem alive2 : Lex.tokens [32, 51, 48, 48, 117, 56] = .err 1 11 := by kernel_rfl

/-- a list of tokens that is not empty lies in a block of its own -/
theorem own_form {w : World} {B : Nat} {v : Value} {n : Nat} {xs : List Value} (h : w.ownsRow B 30 6 v n xs) (hn : 0 < n) : ∃ g cap, v = .slice (some ⟨g, 0, none⟩) n cap ∧ B ≤ g ∧ g < w.heap.size ∧ n ≤ cap := by
  rcases h.2 with ⟨_, h0⟩ | ⟨g, cap, cur, rfl, hb, hg, hc, _⟩
  · omega
  · exact ⟨g, cap, rfl, hb, (Array.getElem?_eq_some_iff.1 hg).1, hc⟩

set_option maxHeartbeats 1600000 in
theorem alive_any (w : World) (hl : LaidR w) : Calls Tryd.prog 9 #[] w fun e w' => e = .returned (.bool true) ∧ w.grownBy w' none := by
  go_enter Tryd.func9, Tryd.ntmps9
  go_wp2_with (go_at_call 10; refine (tokens_any _ _ hl).mono ?_; rintro e w1 ⟨v, a, er, rfl, hrel, hg1⟩; refine Hid.out ?_)
  rw [show Lex.tokens _ = _ from alive1] at hrel
  obtain ⟨rfl, rfl, hown⟩ := hrel
  have hl1 := hl.on hg1 (by simp)
  refine Lib.hid ?_
  go_wp2_with (go_at_call 10; refine (tokens_any _ _ hl1).mono ?_; rintro e w2 ⟨v2, a2, er2, rfl, hrel, hg2⟩; refine Hid.out ?_)
  rw [show Lex.tokens _ = _ from alive2] at hrel
  obtain ⟨rfl, rfl, rfl, -⟩ := hrel
  have hown2 := hown.kept hg2 (by cases v.ownBlock <;> simp)
  obtain ⟨g, cap, rfl, hgb, hgl, hcap⟩ := own_form hown2 (by decide)
  have c7 := hown2.cellAt 7 (by decide)
  have c14 := hown2.cellAt 14 (by decide)
  have c15 := hown2.cellAt 15 (by decide)
  have c18 := hown2.cellAt 18 (by decide)
  have e7 : w2.cell? ⟨g, 7, none⟩ = some (.string ⟨#[45, 62]⟩) := c7
  have e14 : w2.cell? ⟨g, 14, none⟩ = some (.int .i64 5) := c14
  have e15 : w2.cell? ⟨g, 15, none⟩ = some (.int .i64 2) := c15
  have e18 : w2.cell? ⟨g, 18, none⟩ = some (.int .i64 5) := c18
  clear c7 c14 c15 c18
  refine Lib.hid ?_
  go_wp2_with (go_at_call 12; refine (num_any _ _).mono ?_; rintro e w' ⟨rfl, rfl⟩)
  go_ret
  exact ⟨rfl, hg1.trans hg2⟩

end Go.Proofs.YtbiplgidlmbbkaaDoor
