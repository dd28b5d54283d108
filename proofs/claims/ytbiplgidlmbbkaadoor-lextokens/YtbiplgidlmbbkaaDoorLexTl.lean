/- The tokens of every text are the document's own: the walk of the statement. -/
import Derived.Test.YtbiplgidlmbbkaaDoorLexVe
namespace Go.Proofs.YtbiplgidlmbbkaaDoor
open Go.RowKit Go.Maps Go.WideMaps

/-- block g has room for n tokens -/
def G6 (w : World) (g n : Nat) : Prop := ∃ cur, w.heap[g]? = some (.cells cur 30 (0, 0)) ∧ n * 6 ≤ cur.size
theorem G6.cell {w : World} {g n : Nat} (h : G6 w g n) (j : Nat) (hj : j < n * 6) : ∃ u, w.cell? ⟨g, j, none⟩ = some u := by
  obtain ⟨cur, h1, h2⟩ := h
  exact ⟨cur[j]'(by omega), by rw [cell_of_row w g j _ _ _ h1]; exact Array.getElem?_eq_getElem (by omega)⟩
theorem G6.fr {w : World} {g n : Nat} (h : G6 w g n) (j : Nat) : w.frozen? ⟨g, j, none⟩ = false := by
  obtain ⟨cur, h1, h2⟩ := h
  simp [World.frozen?, h1]
theorem G6.set {w : World} {g n : Nat} (h : G6 w g n) (j : Nat) (u : Value) : G6 (w.setCell ⟨g, j, none⟩ u) g n := by
  obtain ⟨cur, h1, h2⟩ := h
  refine ⟨cur.setIfInBounds j u, ?_, by simpa using h2⟩
  simp only [World.setCell, Array.getElem?_modify, if_true, h1, Option.map_some]
  rfl
theorem G6.kept {w w' : World} {g n : Nat} {row : Option Nat} (h : G6 w g n) (hg : w.grownBy w' row) (hne : some g ≠ row) : G6 w' g n := by
  obtain ⟨cur, h1, h2⟩ := h
  exact ⟨cur, (hg.block g (Array.getElem?_eq_some_iff.1 h1).1 hne).trans h1, h2⟩

theorem row_len (l : List Lex.Tk) : (Lex.row l).length = 6 * l.length := by
  induction l with
  | nil => rfl
  | cons x r ih => simp only [Lex.row, List.flatMap_cons, List.length_append, List.length_cons] at ih ⊢; rw [ih]; simp [Lex.cells]; omega
theorem row_at (l : List Lex.Tk) (t : Nat) (h : t < l.length) (j : Nat) (hj : j < 6) : (Lex.row l)[t * 6 + j]? = (Lex.cells l[t])[j]? := by
  induction l generalizing t with
  | nil => simp at h
  | cons x r ih =>
    cases t with
    | zero =>
      simp only [Lex.row, List.flatMap_cons, Nat.zero_mul, Nat.zero_add, List.getElem_cons_zero]
      rw [List.getElem?_append_left (by simpa [Lex.cells] using hj)]
    | succ t =>
      simp only [Lex.row, List.flatMap_cons, List.getElem_cons_succ] at ih ⊢
      rw [List.getElem?_append_right (by simp [Lex.cells]; omega)]
      rw [← ih t (by simpa using h)]
      congr 1
      simp [Lex.cells]; omega

set_option maxHeartbeats 1600000 in
set_option maxRecDepth 100000 in
theorem lexTokens_walk (a0 a1 : ByteArray) (w : World) (hl : LaidR w) :
    Calls Tryd.prog 3 #[.string a0, .string a1] w fun e w' => e = .returned (.bool true) ∧ w.grownBy w' none := by
  by_cases hr : a0.size ≤ 70000 ∧ a1.size ≤ 70000
  · obtain ⟨h1, h2⟩ := hr
    have d1 : decide ((70000 : Int) < a0.size) = false := by rw [decide_eq_false_iff_not]; omega
    have d2 : decide ((70000 : Int) < a1.size) = false := by rw [decide_eq_false_iff_not]; omega
    go_enter Tryd.func3, Tryd.ntmps3
    go_wp2_with (first | (go_at_call 9; refine (alive_any _ hl).mono ?_; rintro e w1 ⟨rfl, hg1⟩; refine Hid.out ?_))
    have hl1 := hl.on hg1 (by simp)
    refine Lib.hid ?_
    go_wp2_with (first | (go_at_call 10; refine (tokens_any _ _ hl1).mono ?_; rintro e w2 ⟨v1, p1, e1, rfl, hrel1, hg2⟩; refine Hid.out ?_))
    have hl2 := hl1.on hg2 (by simp)
    refine Lib.hid ?_
    go_wp2_with (first | (go_at_call 10; refine (tokens_any _ _ hl2).mono ?_; rintro e w3 ⟨v2, p2, e2, rfl, hrel2, hg3⟩; refine Hid.out ?_))
    -- the other answer: a slice that is written over
    have hm : ∃ (m g : Nat), w2.heap.size ≤ g ∧ (∀ ty wx, (Builtin.len_ #[23] ty #[v2]).run Tryd.prog wx = .ok (.int .i64 (m : Int)) wx) ∧ (0 < m → m ≤ maxLen ∧ (∃ cap, v2 = .slice (some ⟨g, 0, none⟩) m cap) ∧ G6 w3 g m) := by
      cases hres : Lex.tokens a1.data.toList with
      | err p x =>
        rw [hres] at hrel2
        obtain ⟨rfl, _⟩ := hrel2
        refine ⟨0, w2.heap.size, Nat.le_refl _, fun ty wx => ?_, fun h => by omega⟩
        simp [Builtin.len_, run_underlying Tryd.underlying23, goInt, Result.andThen]
      | ok ts =>
        rw [hres] at hrel2
        obtain ⟨-, -, ho⟩ := hrel2
        have hlen := fun ty wx => len_own ho ty wx
        rcases ho.2 with ⟨rfl, h0⟩ | ⟨g, cap, cur, rfl, hb, hg, hc, hc2, hc3, _⟩
        · exact ⟨ts.length, w2.heap.size, Nat.le_refl _, hlen, fun h => by omega⟩
        · exact ⟨ts.length, g, hb, hlen, fun _ => ⟨by omega, ⟨cap, rfl⟩, cur, hg, by rw [hc3]; exact Nat.mul_le_mul_right 6 hc⟩⟩
    obtain ⟨m, g, hgB, hlm, hmm⟩ := hm
    have HMM := Lib.hid hmm
    clear hmm hrel2
    refine Lib.hid ?_
    go_wp2
    go_loopw [12] (fun i wr => ∃ t : Nat, t ≤ m ∧ i = .int .i64 (t : Int) ∧ Hid ((0 < m → G6 wr g m) ∧ w3.grownBy wr (some g))) (fun i _ => m - (intOf i).toNat)
    case atStart => exact ⟨0, Nat.zero_le _, rfl, Lib.hid ⟨fun h => (HMM.out h).2.2, World.grownBy.refl _ _⟩⟩
    case round =>
      obtain ⟨t, ht, rfl, HG⟩ := hrel
      by_cases hlt : t < m
      · obtain ⟨hm2, ⟨cap, rfl⟩, -⟩ := HMM.out (by omega)
        unfold maxLen at hm2
        have hG6 := HG.out.1 (by omega)
        obtain ⟨y0, c0⟩ := hG6.cell (t * 6) (by omega)
        obtain ⟨y1, c1⟩ := hG6.cell (t * 6 + 1) (by omega)
        obtain ⟨y2, c2⟩ := hG6.cell (t * 6 + 2) (by omega)
        obtain ⟨y3, c3⟩ := hG6.cell (t * 6 + 3) (by omega)
        obtain ⟨y4, c4⟩ := hG6.cell (t * 6 + 4) (by omega)
        obtain ⟨y5, c5⟩ := hG6.cell (t * 6 + 5) (by omega)
        have f0 := hG6.fr (t * 6)
        have f1 := hG6.fr (t * 6 + 1)
        have f2 := hG6.fr (t * 6 + 2)
        have f3 := hG6.fr (t * 6 + 3)
        have f4 := hG6.fr (t * 6 + 4)
        have f5 := hG6.fr (t * 6 + 5)
        go_wp2
        have hgr := HG.out.2
        exact ⟨⟨t + 1, by omega, by go_num, Lib.hid ⟨fun _ => (((((hG6.set _ _).set _ _).set _ _).set _ _).set _ _).set _ _, gset (gset (gset (gset (gset (gset hgr (.inr rfl) _) (.inr rfl) _) (.inr rfl) _) (.inr rfl) _) (.inr rfl) _) (.inr rfl) _⟩⟩, by simp [intOf]; omega⟩
      · have hgr := HG.out.2
        have HGR := Lib.hid hgr
        clear hgr HG HMM
        have hr5 := rtokens_any a0 wr
        go_wp2_with (go_at_call 11; refine hr5.mono ?_; rintro e w5 ⟨v3, p3, e3, rfl, hrel3, hg5⟩; refine Hid.out ?_)
        have hG5 : w.grownBy w5 none := (((hg1.trans hg2).trans hg3).andThen HGR.out (fun j e => .inl (by cases e; have := hg1.size; have := hg2.size; omega))).trans hg5
        cases hres : Lex.tokens a0.data.toList with
        | err p x =>
          rw [hres] at hrel1 hrel3
          obtain ⟨rfl, rfl, rfl, -⟩ := hrel1
          obtain ⟨rfl, rfl, rfl, -⟩ := hrel3
          clear hr5
          refine Lib.hid ?_
          go_wp2_with (go_at_call 12; refine (num_any _ _).mono ?_; rintro e w9 ⟨rfl, hw9⟩; rw [hw9]; clear hw9)
          go_loop [16] (fun i => i = .int .i64 0) (fun _ => 0)
          case atStart => rfl
          case round =>
            subst hrel
            go_wp2
            go_ret
            exact ⟨rfl, hG5⟩
        | ok ts =>
          rw [hres] at hrel1 hrel3
          obtain ⟨rfl, rfl, ho1⟩ := hrel1
          obtain ⟨rfl, rfl, ho3⟩ := hrel3
          have ho5 := ((ho1.kept hg3 (by cases v1.ownBlock <;> simp)).kept HGR.out (by
            cases hv : v1.ownBlock with
            | none => exact .inl rfl
            | some k => have := (ho1.lt k hv).2; exact .inr (fun e => by cases e; omega))).kept hg5 (by cases v1.ownBlock <;> simp)
          have hl5 := fun ty wx => len_own ho5 ty wx
          have hl6 := fun ty wx => len_own ho3 ty wx
          have HO5 := Lib.hid ho5
          have HO3 := Lib.hid ho3
          clear hr5 ho1 ho3 ho5
          refine Lib.hid ?_
          go_wp2_with (go_at_call 12; refine (num_any _ _).mono ?_; rintro e w9 ⟨rfl, hw9⟩; rw [hw9]; clear hw9)
          go_loopw [16] (fun i wq => ∃ t k : Nat, t ≤ ts.length ∧ i = .int .i64 (t : Int) ∧ wq = w5.drewN k) (fun i _ => ts.length - (intOf i).toNat)
          case atStart => exact ⟨0, 0, Nat.zero_le _, rfl, rfl⟩
          case round =>
            obtain ⟨q, k, hq, rfl, rfl⟩ := hrel
            by_cases hlq : q < ts.length
            · obtain ⟨g5, cap5, rfl, hb5, hg5l, hc5⟩ := own_form HO5.out (by omega)
              obtain ⟨g6, cap6, rfl, hb6, hg6l, hc6⟩ := own_form HO3.out (by omega)
              have hmx : ts.length ≤ maxLen := by
                rcases HO5.out.2 with ⟨h, _⟩ | ⟨_, _, _, h, _, _, hc, hc2, _⟩
                · cases h
                · omega
              unfold maxLen at hmx
              have cA : ∀ j, j < 6 → w5.cell? ⟨g5, q * 6 + j, none⟩ = (Lex.cells ts[q])[j]? := fun j hj => by
                rw [HO5.out.cellAt (q * 6 + j) (by omega)]; exact row_at ts q hlq j hj
              have cB : ∀ j, j < 6 → w5.cell? ⟨g6, q * 6 + j, none⟩ = (Lex.cells ts[q])[j]? := fun j hj => by
                rw [HO3.out.cellAt (q * 6 + j) (by omega)]; exact row_at ts q hlq j hj
              obtain ⟨x, hx⟩ : ∃ x, x = ts[q] := ⟨_, rfl⟩
              rw [← hx] at cA cB
              clear hx
              have a0' : w5.cell? ⟨g5, q * 6, none⟩ = some (.int .i64 x.kind) := cA 0 (by decide)
              have a1' : w5.cell? ⟨g5, q * 6 + 1, none⟩ = some (.string ⟨x.text.toArray⟩) := cA 1 (by decide)
              have a2' : w5.cell? ⟨g5, q * 6 + 2, none⟩ = some (.int .i64 x.n) := cA 2 (by decide)
              have a3' : w5.cell? ⟨g5, q * 6 + 3, none⟩ = some (.int .i64 x.t) := cA 3 (by decide)
              have a4' : w5.cell? ⟨g5, q * 6 + 4, none⟩ = some (.int .i64 0) := cA 4 (by decide)
              have a5' : w5.cell? ⟨g5, q * 6 + 5, none⟩ = some (.int .i64 (x.at_ : Int)) := cA 5 (by decide)
              have b0' : w5.cell? ⟨g6, q * 6, none⟩ = some (.int .i64 x.kind) := cB 0 (by decide)
              have b1' : w5.cell? ⟨g6, q * 6 + 1, none⟩ = some (.string ⟨x.text.toArray⟩) := cB 1 (by decide)
              have b2' : w5.cell? ⟨g6, q * 6 + 2, none⟩ = some (.int .i64 x.n) := cB 2 (by decide)
              have b3' : w5.cell? ⟨g6, q * 6 + 3, none⟩ = some (.int .i64 x.t) := cB 3 (by decide)
              have b4' : w5.cell? ⟨g6, q * 6 + 4, none⟩ = some (.int .i64 0) := cB 4 (by decide)
              have b5' : w5.cell? ⟨g6, q * 6 + 5, none⟩ = some (.int .i64 (x.at_ : Int)) := cB 5 (by decide)
              clear cA cB
              go_wp2
              go_quiet (fail)
              go_wp2
              go_light
              exact ⟨⟨q + 1, _, by omega, by go_num, rfl⟩, by simp [intOf]; omega⟩
            · go_wp2
              go_ret
              exact ⟨rfl, gdrewN hG5 _⟩
  · go_enter Tryd.func3, Tryd.ntmps3
    go_wp2_with (first | (go_at_call 9; refine (alive_any _ hl).mono ?_; rintro e w1 ⟨rfl, hg1⟩) | (go_at_call 10; refine Hid.out ?_))
    all_goals first | (exfalso; omega) | (go_ret; exact ⟨rfl, hg1⟩)

end Go.Proofs.YtbiplgidlmbbkaaDoor
