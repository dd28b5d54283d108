/- The words of the language: each is a key, with a letter more a name; and the walk of LexWords. -/
import Derived.Test.YtkcgnelebaajlaaDoorLexS
namespace Go.Proofs.YtkcgnelebaajlaaDoor
open Go.RowKit Go.Maps Go.WideMaps

namespace Lex
/-- the words, in the order of the statement -/
def keysL : List (List UInt8) :=
  [110, 111, 100, 101] ::
  [114, 101, 116, 117, 114, 110, 115] ::
  [118, 97, 114] ::
  [108, 101, 116] ::
  [116, 101, 108] ::
  [105, 102] ::
  [116, 104, 101, 110] ::
  [101, 108, 115, 101] ::
  [110, 111, 116] ::
  [97, 110, 100] ::
  [111, 114] ::
  [120, 111, 114] ::
  [109, 111, 100] ::
  [112, 114, 101] ::
  [102, 98, 121] ::
  [119, 104, 101, 110] ::
  [109, 101, 114, 103, 101] ::
  [99, 97, 115, 116] ::
  [116, 105, 99, 107] ::
  [114, 101, 115, 101, 116] ::
  [114, 101, 112] ::
  [109, 97, 112] ::
  [102, 111, 108, 100] ::
  [111, 110] ::
  [116, 114, 117, 101] ::
  [102, 97, 108, 115, 101] ::
  [97, 117, 116, 111, 109, 97, 116, 111, 110] ::
  [115, 116, 97, 116, 101] ::
  [100, 111] ::
  [117, 110, 108, 101, 115, 115] ::
  [117, 110, 116, 105, 108] ::
  [99, 111, 110, 116, 105, 110, 117, 101] ::
  [101, 110, 100] ::
  [98, 111, 111, 108] ::
  [105, 56] ::
  [105, 49, 54] ::
  [105, 51, 50] ::
  [105, 54, 52] ::
  [117, 56] ::
  [117, 49, 54] ::
  [117, 51, 50] ::
  [117, 54, 52] :: []
def keyL (j : Nat) : List UInt8 := keysL.getD j []
def wordText (k : List UInt8) : List UInt8 := k ++ ([32] ++ (k ++ ([120, 32, 95] ++ k)))
def wordRes (k : List UInt8) : Res := .ok [⟨3, k, 0, 0, 0⟩, ⟨1, k ++ [120], 0, 0, k.length + 1⟩, ⟨1, 95 :: k, 0, 0, 2 * k.length + 3⟩, ⟨5, [], 0, 0, 3 * k.length + 4⟩]
theorem words_all : ((List.range 42).all fun j => (tokens (wordText (keyL j)) == wordRes (keyL j)) && decide ((keyL j).length ≤ 9)) = true := by kernel_rfl
theorem words_at42 (j : Nat) (h : j < 42) : tokens (wordText (keyL j)) = wordRes (keyL j) ∧ (keyL j).length ≤ 9 := by
  have := List.all_eq_true.1 words_all j (List.mem_range.2 h)
  rw [Bool.and_eq_true, decide_eq_true_eq] at this
  exact ⟨beq_iff_eq.1 this.1, this.2⟩
end Lex

set_option maxHeartbeats 3200000 in
set_option maxRecDepth 100000 in
theorem lexWords_walk (a0 a1 : Int) (w : World) (hl : LaidR w) :
    Calls Tryd.prog 7 #[.int .i64 a0, .int .i64 a1] w fun e w' => e = .returned (.bool true) ∧ w.grownBy w' none := by
  by_cases hr : 0 ≤ a0 ∧ a0 < 42 ∧ 0 ≤ a1 ∧ a1 ≤ 50
  · obtain ⟨h1, h2, h3, h4⟩ := hr
    obtain ⟨j, rfl⟩ : ∃ n : Nat, a0 = (n : Int) := ⟨a0.toNat, by omega⟩
    obtain ⟨k, rfl⟩ : ∃ k : Nat, a1 = (k : Int) := ⟨a1.toNat, by omega⟩
    have hj : (j : Int) < 42 := by omega
    have d1 : decide ((j : Int) < 0) = false := by rw [decide_eq_false_iff_not]; omega
    have d2 : decide ((42 : Int) ≤ j) = false := by rw [decide_eq_false_iff_not]; omega
    have d3 : decide ((k : Int) < 0) = false := by rw [decide_eq_false_iff_not]; omega
    have d4 : decide ((50 : Int) < k) = false := by rw [decide_eq_false_iff_not]; omega
    have hk50 : k ≤ 50 := by omega
    have hw42 := Lex.words_at42 j (by omega)
    clear h1 h2 h3 h4
    go_enter Tryd.func7, Tryd.ntmps7
    go_wp2_with (first | (go_at_call 9; refine (alive_any _ hl).mono ?_; rintro e w1 ⟨rfl, hg1⟩) | (with_reducible refine hold_not ?_))
    have hcell := row_strings w1 Lex.keysL 9 j (by show j < 42; omega)
    have hg2 := World.grownBy_alloc w1 (.cells (Lex.keysL.map (fun k => Value.string ⟨k.toArray⟩)).toArray 9) none
    refine hold_gen (fun W => W.cell? ⟨w1.heap.size, j, none⟩ = some (.string ⟨(Lex.keyL j).toArray⟩) ∧ w1.grownBy W none) ⟨hcell, hg2⟩ ?_
    clear hcell hg2
    rintro w2 ⟨hcell, hg2⟩
    obtain ⟨x, hx⟩ : ∃ x : ByteArray, x = ⟨(Lex.keyL j).toArray⟩ := ⟨_, rfl⟩
    rw [← hx] at hcell
    have hxl : x.data.toList = Lex.keyL j := by rw [hx]
    have hxs : x.size ≤ 9 := by
      have : x.data.toList.length = x.size := by simp
      rw [hxl] at this
      omega
    rw [← hxl] at hw42
    have HW := Lib.hid hw42
    clear hx hxl hw42
    have hl2 := (hl.on hg1 (by simp)).on hg2 (by simp)
    have hf := fill_any k 32 (by omega) w2
    have hf2 : Calls Tryd.prog 17 #[.int .i64 (k : Int), .int .u8 32] w2 _ := hf
    clear hf
    go_wp2_with (go_at_call 17; refine hf2.mono ?_; rintro e w3 ⟨rfl, ho3, hg3⟩; refine Hid.out ?_)
    have hc3 := fill_text k 32 w2.heap.size w2.heap.size w3 ho3
    have hl3 := hl2.on hg3 (by simp)
    obtain ⟨y, hy⟩ : ∃ y : ByteArray, y = ⟨(List.replicate k (32 : UInt8)).toArray⟩ := ⟨_, rfl⟩
    rw [← hy] at hc3
    have hyl : y.data.toList = List.replicate k 32 := by rw [hy]
    have hys : y.size = k := by rw [hy]; show (List.replicate k (32 : UInt8)).toArray.size = k; simp
    have HY := Lib.hid hyl
    clear hy hyl
    refine Lib.hid ?_
    go_wp2_with (go_at_call 10; refine (tokens_any _ _ hl3).mono ?_; rintro e w4 ⟨v, p, er, rfl, hrel, hg4⟩; refine Hid.out ?_)
    have ht : Lex.tokens (y ++ x ++ ⟨#[32]⟩ ++ x ++ ⟨#[120, 32, 95]⟩ ++ x).data.toList = (Lex.wordRes x.data.toList).far k := by
      have e1 : (y ++ x ++ ⟨#[32]⟩ ++ x ++ ⟨#[120, 32, 95]⟩ ++ x).data.toList = List.replicate k 32 ++ Lex.wordText x.data.toList := by
        rw [← HY.out]
        simp [ByteArray.data_append, Lex.wordText, List.append_assoc]
      have hlen := HW.out.2
      rw [e1, Lex.tokens_ahead k _ (by simp only [Lex.wordText, List.length_append, List.length_cons, List.length_nil]; omega), HW.out.1]
    rw [ht] at hrel
    obtain ⟨rfl, rfl, hown⟩ := hrel
    obtain ⟨g, cap, rfl, hgb, hgl, hcap⟩ := own_form hown (by show 0 < 4; decide)
    have hlx : x.data.toList.length = x.size := by simp
    have e0 : w4.cell? ⟨g, 0, none⟩ = some (.int .i64 3) := hown.cellAt 0 (by show 0 < 4 * 6; decide)
    have e1 : w4.cell? ⟨g, 1, none⟩ = some (.string x) := hown.cellAt 1 (by show 1 < 4 * 6; decide)
    have e5 : w4.cell? ⟨g, 5, none⟩ = some (.int .i64 (k : Int)) := (hown.cellAt 5 (by show 5 < 4 * 6; decide)).trans (congrArg (fun z : Nat => some (Value.int .i64 (z : Int))) (Nat.zero_add k))
    have e6 : w4.cell? ⟨g, 6, none⟩ = some (.int .i64 1) := hown.cellAt 6 (by show 6 < 4 * 6; decide)
    have e7 : w4.cell? ⟨g, 7, none⟩ = some (.string (x ++ ⟨#[120]⟩)) := (hown.cellAt 7 (by show 7 < 4 * 6; decide)).trans (congrArg (fun z => some (Value.string z)) (show (⟨(x.data.toList ++ [120]).toArray⟩ : ByteArray) = x ++ ⟨#[120]⟩ by apply ByteArray.ext; rw [ByteArray.data_append]; apply Array.ext'; simp))
    have e11 : w4.cell? ⟨g, 11, none⟩ = some (.int .i64 ((k : Int) + x.size + 1)) := (hown.cellAt 11 (by show 11 < 4 * 6; decide)).trans (congrArg (fun z : Int => some (Value.int .i64 z)) (show ((x.data.toList.length + 1 + k : Nat) : Int) = (k : Int) + x.size + 1 by rw [hlx]; omega))
    have e12 : w4.cell? ⟨g, 12, none⟩ = some (.int .i64 1) := hown.cellAt 12 (by show 12 < 4 * 6; decide)
    have e23 : w4.cell? ⟨g, 23, none⟩ = some (.int .i64 ((k : Int) + 3 * x.size + 4)) := (hown.cellAt 23 (by show 23 < 4 * 6; decide)).trans (congrArg (fun z : Int => some (Value.int .i64 z)) (show ((3 * x.data.toList.length + 4 + k : Nat) : Int) = (k : Int) + 3 * x.size + 4 by rw [hlx]; omega))
    have hG : w.grownBy w4 none := ((hg1.trans hg2).trans hg3).trans hg4
    have hcap4 : (4 : Nat) ≤ cap := hcap
    clear ht hown hlx HY HW hcap hc3 hf2 ho3
    refine Lib.hid ?_
    go_wp2_with (go_at_call 12; refine (num_any _ _).mono ?_; rintro e w' ⟨rfl, hw'⟩; subst hw')
    all_goals first | (exfalso; omega) | (go_ret; exact ⟨rfl, hG⟩)
  · go_enter Tryd.func7, Tryd.ntmps7
    go_wp2_with (first | (go_at_call 9; refine (alive_any _ hl).mono ?_; rintro e w1 ⟨rfl, hg1⟩) | (with_reducible refine hold_not ?_))
    refine hold_gen (fun W => w1.grownBy W none) (World.grownBy_alloc w1 _ none) ?_
    intro w2 hg2
    go_wp2_with (go_at_call 17; refine Hid.out ?_)
    all_goals first | (exfalso; omega) | (go_ret; exact ⟨rfl, hg1.trans hg2⟩)

end Go.Proofs.YtkcgnelebaajlaaDoor
