/- metronomelaw23.alive. -/
import Derived.Test.YtdhgopcfjomjaaaDoorCnV
namespace Go.Proofs.YtdhgopcfjomjaaaDoor
open Go.RowKit Go.Maps Go.WideMaps
open Go.Lib hiding intOf
open Cn (I64)

theorem bools_row {w : World} {g : Nat} {l : List Bool} {T : TypeId} (h : w.heap[g]? = some (.cells (l.map Value.bool).toArray T (0, 0))) : BoolsAt w (some ⟨g, 0, none⟩) l := fun i n hi => ⟨g, 0, rfl, by rw [Nat.zero_add, row_cell h, List.getElem?_map, hi]; rfl⟩
abbrev exRow : Array Value := #[.int .i64 2, .int .i64 0, .int .i64 0, .int .i64 2, .int .i64 0, .int .i64 0, .int .i64 3, .int .i64 0, .int .i64 2]
theorem ex_gates {w : World} {g : Nat} (h : w.heap[g]? = some (.cells exRow 48 (0, 0))) : GatesAt w (some ⟨g, 0, none⟩) exN := fun i x hx => by
  have hc := fun j => cell_of_row w g j _ _ _ h
  match i, hx with
  | 0, hx => simp at hx; subst hx; exact ⟨g, 0, rfl, hc 0, hc 1, hc 2, by unfold Cn.G64 I64; decide⟩
  | 1, hx => simp at hx; subst hx; exact ⟨g, 0, rfl, hc 3, hc 4, hc 5, by unfold Cn.G64 I64; decide⟩
  | 2, hx => simp at hx; subst hx; exact ⟨g, 0, rfl, hc 6, hc 7, hc 8, by unfold Cn.G64 I64; decide⟩
  | i + 3, hx => simp at hx

set_option maxHeartbeats 4000000 in
set_option maxRecDepth 100000 in
theorem alive23_any (w : World) (ht : Tab w) : Calls Tryd.prog 8 #[] w fun e w' => e = .returned (.bool true) ∧ w.grownBy w' none := by
  obtain ⟨W, hW⟩ : ∃ W, W = (w.alloc (.cells exRow 48)).alloc (.cells #[.int .i64 4] 3) := ⟨_, rfl⟩
  have hgW : w.grownBy W none := by rw [hW]; exact (World.grownBy_alloc _ _ none).trans (World.grownBy_alloc _ _ none)
  have ha := al2 w (.cells exRow 48) (.cells #[.int .i64 4] 3)
  rw [← hW] at ha
  have hof := of_any W (some ⟨w.heap.size, 0, none⟩) exN 3 (some ⟨w.heap.size + 1, 0, none⟩) [4] 1 (ex_gates ha.1) (nums_row (l := [4]) ha.2) (by decide) (by decide)
  rw [ex_of] at hof
  have HH := Lib.hid (And.intro hof (And.intro hgW (ht.on hgW)))
  have hnum := fun k V => num23_any k V
  obtain ⟨r, hr⟩ := ex_text
  obtain ⟨S, hS⟩ : ∃ S, S = (⟨(Cn.textOf exF).toArray⟩ : ByteArray) := ⟨_, rfl⟩
  have hsz : S.size = 10 + r.length := by rw [hS, hr]; simp [ByteArray.size]; omega
  have e1 : decide ((9 : Int) < (S.size : Int)) = true := xT (by omega)
  have hsl : ∀ V, (Instr.slice 9 (.string S) none (some (.int .i64 9)) none).run Tryd.prog V = .ok (.string ⟨#[112, 32, 99, 110, 102, 32, 51, 32, 52]⟩) V := fun V => by
    rw [run_slice_string_h (P := Tryd.prog) V 9 S Tryd.underlying9 .i64 9 (by omega) (by omega), hS, hr]
    congr 2
  have htx : ∀ (V : World) (va : Option Addr) (c : Nat), RowsAt V va exF.cl → Tab V → Calls Tryd.prog 21 #[.agg #[.int .i64 3, .slice va 4 c]] V fun e w' => e = .returned (.string S) ∧ V.grownBy w' none := fun V va c h hT => by
    rw [hS]
    exact text_any V exF va c h (by decide) (by unfold I64; decide) hT
  have hho : ∀ (V : World) (va : Option Addr) (c : Nat) (ma : Option Addr), RowsAt V va exF.cl → BoolsAt V ma [false, true, true, true] → Calls Tryd.prog 13 #[.agg #[.int .i64 3, .slice va 4 c], .slice ma 4 4] V fun e w' => e = .returned (.bool true) ∧ V.grownBy w' none := fun V va c ma h hb => by
    have := holds_any V exF va c ma [false, true, true, true] 4 h (by decide) (by unfold I64; decide) hb (by decide)
    rw [ex_holds] at this
    exact this
  have HTX := Lib.hid (And.intro htx hho)
  clear hof hgW ha htx hho hS hr hsz
  go_enter Tryd.func8, Tryd.ntmps8
  go_upto_region 2 with (rw [← hW]; go_at_call 16; refine HH.out.1.mono ?_; rintro e w1 ⟨va, c, rfl, hlc, hri, hg1⟩; have H1 := Lib.hid (And.intro hlc (And.intro hri hg1)); clear hlc hri hg1)
  clear hW
  obtain ⟨W2, hW2⟩ : ∃ W2, W2 = w1.alloc (.cells #[.int .i64 3, .slice va 4 c] 24) := ⟨_, rfl⟩
  have hg2 : w1.grownBy W2 none := by rw [hW2]; exact World.grownBy_alloc _ _ _
  have c0 : W2.cell? ⟨w1.heap.size, 0, none⟩ = some (.int .i64 3) := by rw [hW2]; simp
  have c1 : W2.cell? ⟨w1.heap.size, 1, none⟩ = some (.slice va 4 c) := by rw [hW2]; simp
  have hlt : w1.heap.size < W2.heap.size := by rw [hW2]; simp
  have hri : RowsAt W2 va exF.cl := H1.out.2.1.to.on hg2
  have hT2 : Tab W2 := (HH.out.2.2.on H1.out.2.2).on hg2
  have H2 := Lib.hid (And.intro hg2 (And.intro hri hT2))
  (try simp only [show exF.cl.length = 4 from rfl])
  rw [← hW2]
  clear hW2 hg2 hri hT2
  go_wp2_with (first
    | (go_at_call 13; have q := HB.out; refine (HTX.out.2 _ va c _ (H2.out.2.1.on ((HA.out.trans HB.out).trans (World.grownBy_alloc _ _ none))) (bools_row (l := [false, true, true, true]) (heap_alloc_new w5 _))).mono ?_; rintro e w6 ⟨rfl, hg6⟩; have HC := Lib.hid hg6; clear hg6)
    | (go_at_call 21; have q := HA.out; refine (HTX.out.1 _ va c (H2.out.2.1.on HA.out) (H2.out.2.2.on HA.out)).mono ?_; rintro e w5 ⟨rfl, hg5⟩; have d0 := hg5.cell b0 (by simp); have d1 := hg5.cell b1 (by simp); have l5 : w1.heap.size < w5.heap.size := Nat.lt_of_lt_of_le l4 hg5.size; have HB := Lib.hid hg5; clear hg5 b0 b1)
    | (go_at_call 21; refine (HTX.out.1 _ va c H2.out.2.1 H2.out.2.2).mono ?_; rintro e w4 ⟨rfl, hg4⟩; have b0 := hg4.cell c0 (by simp); have b1 := hg4.cell c1 (by simp); have l4 : w1.heap.size < w4.heap.size := Nat.lt_of_lt_of_le hlt hg4.size; have HA := Lib.hid hg4; clear hg4 c0 c1)
    | (go_at_call 11; refine (hnum _ _).mono ?_; rintro e w3 ⟨rfl, hw3⟩; obtain rfl := hw3.symm))
  go_ret
  exact ⟨rfl, HH.out.2.1.trans (H1.out.2.2.trans (H2.out.1.trans (HA.out.trans (HB.out.trans ((World.grownBy_alloc _ _ none).trans HC.out)))))⟩
end Go.Proofs.YtdhgopcfjomjaaaDoor
