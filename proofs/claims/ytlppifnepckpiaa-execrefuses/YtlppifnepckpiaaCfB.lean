/- Package code: a stack's put and take. -/
import Derived.Test.YtlppifnepckpiaaCfA
namespace Go.Proofs.Ytlppifnepckpiaa
open Go.RowKit Go.Maps Go.WideMaps
open Cd (Kn)

theorem there_set {w : World} {b o n : Nat} (h : w.there b o n) (a : Addr) (v : Value) : (w.setCell a v).there b o n := fun j hj => by
  obtain ⟨h1, h2⟩ := h j hj
  obtain ⟨x, hx⟩ := Option.isSome_iff_exists.1 h1
  obtain ⟨y, hy⟩ := cell?_setCell_some (p := a) (x := v) hx
  exact ⟨by rw [hy]; rfl, (World.frozen?_setCell ..).trans h2⟩
theorem cell_set_ne {w : World} {b o p : Nat} (v : Value) (h : o ≠ p) : (w.setCell ⟨b, o, none⟩ v).cell? ⟨b, p, none⟩ = w.cell? ⟨b, p, none⟩ := by
  apply World.cell?_setCell_other
  intro e
  cases e
  exact h rfl
theorem cell_set_same {w : World} {a : Addr} {u : Value} (v : Value) (h : w.cell? a = some u) : (w.setCell a v).cell? a = some v := World.cell?_setCell_same' _ _ _ (by rw [h]; rfl)
section
variable {W w w' : World} {l : List Int} {b g : Nat} {cs : Array Value} {at_ : Nat} {s s' : Option (List Int)} {qs : Kn}
/-- another stack -/
theorem Wk.renow (h : Wk W w b g cs at_ s qs) (hk : Kp [b] w w') (hc : ∀ o, o < 8 ∨ o = 74 → w'.cell? ⟨b, o, none⟩ = w.cell? ⟨b, o, none⟩) (ht : w'.there b 0 75) (hn : w'.rangeAt b 8 (rowC s')) : Wk W w' b g cs at_ s' qs := by
  have hgk : 0 < qs.length → w'.heap[g]? = w.heap[g]? := fun hq => hk.block g (h.gl hq) (by simp; exact fun e => h.ne e.symm)
  refine ⟨Kp.grown h.grown hk (fun k hx => by simp at hx; subst hx; exact h.hb), h.hb, h.hg, h.ne, h.n7, fun j v hv => ?_, (hc 7 (by omega)).trans h.place, hn, (hc 74 (by omega)).trans h.ways, ht, fun i q hi => ?_, ?_⟩
  · have hj : j < 7 := by
      have := (List.getElem?_eq_some_iff.1 hv).1
      rwa [Array.length_toList, h.n7] at this
    rw [hc (0 + j) (by omega)]
    exact h.code j v hv
  · exact rangeAt.of (h.rows i q hi) (hgk (by have := (List.getElem?_eq_some_iff.1 hi).1; omega))
  · by_cases hq : 0 < qs.length
    · exact there.of h.tg (hgk hq)
    · exact fun j hj => by omega
theorem Wk.put (h : Wk W w b g cs at_ (some l) qs) (hl : l.length < 64) (k : Int) : Wk W ((w.setCell ⟨b, 10 + l.length, none⟩ (.int .u8 k)).drew.setCell ⟨b, 9, none⟩ (.int .u8 ((l.length : Int) + 1))) b g cs at_ (some (k :: l)) qs ∧ Kp [b, g] w ((w.setCell ⟨b, 10 + l.length, none⟩ (.int .u8 k)).drew.setCell ⟨b, 9, none⟩ (.int .u8 ((l.length : Int) + 1))) := by
  obtain ⟨c0, c1, c2⟩ := row_parts.1 h.now
  simp only [Option.getD_some, Nat.reduceAdd] at c0 c1 c2
  have hk : ∀ X, b ∈ X → Kp X w ((w.setCell ⟨b, 10 + l.length, none⟩ (.int .u8 k)).drew.setCell ⟨b, 9, none⟩ (.int .u8 ((l.length : Int) + 1))) := fun X hX => ((Kp.refl X w).set hX _).drew.set hX _
  refine ⟨h.renow (hk [b] (by simp)) (fun o ho => ?_) (there_set (w := (w.setCell ⟨b, 10 + l.length, none⟩ (.int .u8 k)).drew) (there_set h.tb _ _) _ _) (row_parts.2 ⟨?_, ?_, fun j hj => ?_⟩), hk _ (by simp)⟩
  · rw [cell_set_ne _ (by omega)]
    exact cell_set_ne _ (by omega)
  · rw [cell_set_ne _ (by omega)]
    exact (cell_set_ne _ (by omega)).trans c0
  · have : (w.setCell ⟨b, 10 + l.length, none⟩ (.int .u8 k)).drew.cell? ⟨b, 9, none⟩ = some (.int .u8 (l.length : Int)) := (cell_set_ne _ (by omega)).trans c1
    rw [cell_set_same _ this]
    simp
  · rw [cell_set_ne _ (by omega)]
    simp only [Option.getD_some, Nat.reduceAdd]
    rw [getD_up]
    by_cases e : j = l.length
    · subst e
      rw [if_pos rfl]
      exact cell_set_same _ (c2 _ hj)
    · rw [if_neg e]
      exact (cell_set_ne _ (by omega)).trans (c2 j hj)
theorem Wk.take {k : Int} {r : List Int} (h : Wk W w b g cs at_ (some (k :: r)) qs) (hl : r.length < 64) : Wk W ((w.setCell ⟨b, 9, none⟩ (.int .u8 (r.length : Int))).setCell ⟨b, 10 + r.length, none⟩ (.int .u8 0)).drew b g cs at_ (some r) qs ∧ Kp [b, g] w ((w.setCell ⟨b, 9, none⟩ (.int .u8 (r.length : Int))).setCell ⟨b, 10 + r.length, none⟩ (.int .u8 0)).drew := by
  obtain ⟨c0, c1, c2⟩ := row_parts.1 h.now
  simp only [Option.getD_some, Nat.reduceAdd] at c0 c1 c2
  have hk : ∀ X, b ∈ X → Kp X w ((w.setCell ⟨b, 9, none⟩ (.int .u8 (r.length : Int))).setCell ⟨b, 10 + r.length, none⟩ (.int .u8 0)).drew := fun X hX => (((Kp.refl X w).set hX _).set hX _).drew
  refine ⟨h.renow (hk [b] (by simp)) (fun o ho => ?_) (there_set (w := (w.setCell ⟨b, 9, none⟩ (.int .u8 (r.length : Int)))) (there_set h.tb _ _) _ _) (row_parts.2 ⟨?_, ?_, fun j hj => ?_⟩), hk _ (by simp)⟩
  · exact (cell_set_ne _ (by omega)).trans (cell_set_ne _ (by omega))
  · exact (cell_set_ne _ (by omega)).trans ((cell_set_ne _ (by omega)).trans c0)
  · exact (cell_set_ne _ (by omega)).trans (cell_set_same _ c1)
  · simp only [Option.getD_some, Nat.reduceAdd]
    have h2 := c2 j hj
    rw [getD_up] at h2
    have h3 : (w.setCell ⟨b, 9, none⟩ (.int .u8 (r.length : Int))).cell? ⟨b, 10 + j, none⟩ = w.cell? ⟨b, 10 + j, none⟩ := cell_set_ne _ (by omega)
    by_cases e : j = r.length
    · subst e
      rw [List.getD_eq_getElem?_getD, List.getElem?_eq_none (by simp)]
      exact cell_set_same _ (h3.trans h2)
    · rw [if_neg e] at h2
      exact (cell_set_ne _ (by omega)).trans (h3.trans h2)
end

set_option maxHeartbeats 1000000 in
theorem sput_any (W : World) (b g : Nat) (cs : Array Value) (at_ : Nat) (l : List Int) (qs : Kn) (k : Int) (hl : l.length < 64) (hk : 1 ≤ k ∧ k ≤ 9) (w : World) (h : Wk W w b g cs at_ (some l) qs) :
    Calls Try.prog 65 #[.pointer (some ⟨b, 8, none⟩), .int .i64 k] w fun e w' => e = .returned (.tuple #[]) ∧ Wk W w' b g cs at_ (some (k :: l)) qs ∧ Kp [b, g] w w' := by
  obtain ⟨c0, c1, c2⟩ := row_parts.1 h.now
  simp only [Option.getD_some, Nat.reduceAdd] at c0 c1 c2
  have ck := c2 l.length hl
  have f1 := h.fr (o := 9) (by omega)
  have f2 := h.fr (o := 10 + l.length) (by omega)
  have HP := Lib.hid (h.put hl k)
  clear c0 c2 h
  go_enter Try.func65, Try.ntmps65
  go_wp2
  go_region
  obtain ⟨W1, hW1⟩ : ∃ W1, W1 = (w.setCell ⟨b, 10 + l.length, none⟩ (.int .u8 k)).drew := ⟨_, rfl⟩
  have c1' : W1.cell? ⟨b, 9, none⟩ = some (.int .u8 (l.length : Int)) := by rw [hW1]; exact (cell_set_ne _ (by omega)).trans c1
  have f1' : W1.frozen? ⟨b, 9, none⟩ = false := by rw [hW1]; exact (World.frozen?_setCell ..).trans f1
  rw [← hW1] at HP ⊢
  clear hW1 c1 f1 f2 ck
  go_wp2
  go_end0
  exact ⟨rfl, HP.out⟩

theorem u8w (n : Int) : IntKind.u8.wrap n = n % 256 := by rfl
set_option maxHeartbeats 1000000 in
theorem take_none (W : World) (b g : Nat) (cs : Array Value) (at_ : Nat) (l : List Int) (qs : Kn) (k : Int) (hl : l.length ≤ 64) (hall : ∀ x ∈ l, 1 ≤ x ∧ x ≤ 9) (hno : l.head? ≠ some k) (w : World) (h : Wk W w b g cs at_ (some l) qs) :
    Calls Try.prog 55 #[.pointer (some ⟨b, 8, none⟩), .int .i64 k] w fun e w' => e = .returned (.bool false) ∧ w.grownBy w' none := by
  obtain ⟨c0, c1, c2⟩ := row_parts.1 h.now
  simp only [Option.getD_some, Nat.reduceAdd] at c0 c1 c2
  cases l with
  | nil =>
    clear c0 c2 h
    simp only [List.length_nil] at c1
    go_enter Try.func55, Try.ntmps55
    go_wp2
    go_quiet (fail)
    go_wp2
    go_ret
    exact ⟨rfl, rfl, rfl, rfl, Nat.le_refl _, fun _ _ _ => rfl⟩
  | cons a r =>
    have hl' : r.length < 64 := hl
    have ck := c2 r.length hl'
    rw [getD_up, if_pos rfl] at ck
    obtain ⟨a1, a2⟩ := hall a (by simp)
    have ea : (a == k) = false := by
      rw [beq_eq_false_iff_ne]
      rintro rfl
      exact hno rfl
    have e1 : (((r.length : Int) + 1) == 0) = false := by rw [beq_eq_false_iff_ne]; omega
    have ew : IntKind.u8.wrap ((r.length : Int) + 1 - 1) = (r.length : Int) := by rw [u8w]; omega
    simp only [List.length_cons, Int.natCast_add, Int.natCast_one] at c1
    clear c0 c2 h hall hno hl
    generalize r.length = n at *
    go_enter Try.func55, Try.ntmps55
    go_wp2
    go_quiet (fail)
    go_wp2
    go_ret
    exact ⟨rfl, rfl, rfl, rfl, Nat.le_refl _, fun _ _ _ => rfl⟩

set_option maxHeartbeats 1000000 in
theorem take_some (W : World) (b g : Nat) (cs : Array Value) (at_ : Nat) (r : List Int) (qs : Kn) (k : Int) (hl : r.length < 64) (hk : 1 ≤ k ∧ k ≤ 9) (w : World) (h : Wk W w b g cs at_ (some (k :: r)) qs) :
    Calls Try.prog 55 #[.pointer (some ⟨b, 8, none⟩), .int .i64 k] w fun e w' => e = .returned (.bool true) ∧ Wk W w' b g cs at_ (some r) qs ∧ Kp [b, g] w w' := by
  obtain ⟨c0, c1, c2⟩ := row_parts.1 h.now
  simp only [Option.getD_some, Nat.reduceAdd] at c0 c1 c2
  have ck := c2 r.length hl
  rw [getD_up, if_pos rfl] at ck
  have e1 : (((r.length : Int) + 1) == 0) = false := by rw [beq_eq_false_iff_ne]; omega
  have ew : IntKind.u8.wrap ((r.length : Int) + 1 - 1) = (r.length : Int) := by rw [u8w]; omega
  simp only [List.length_cons, Int.natCast_add, Int.natCast_one] at c1
  have f1 := h.fr (o := 9) (by omega)
  have f2 := h.fr (o := 10 + r.length) (by omega)
  have HP : ∀ m, Hid (Wk W ((((w.drewN m).setCell ⟨b, 9, none⟩ (.int .u8 (r.length : Int))).setCell ⟨b, 10 + r.length, none⟩ (.int .u8 0)).drew) b g cs at_ (some r) qs ∧ Kp [b, g] w ((((w.drewN m).setCell ⟨b, 9, none⟩ (.int .u8 (r.length : Int))).setCell ⟨b, 10 + r.length, none⟩ (.int .u8 0)).drew)) := fun m => Lib.hid (by
    have h' : Wk W (w.drewN m) b g cs at_ (some (k :: r)) qs := ⟨⟨h.grown.os, h.grown.tape, h.grown.output, h.grown.size, h.grown.block⟩, h.hb, h.hg, h.ne, h.n7, h.code, h.place, h.now, h.ways, h.tb, h.rows, h.tg⟩
    have := h'.take hl
    exact ⟨this.1, ⟨this.2.os, this.2.tape, this.2.output, this.2.size, this.2.block⟩⟩)
  clear c0 c2 h
  generalize r.length = n at *
  go_enter Try.func55, Try.ntmps55
  go_wp2
  go_quiet (fail)
  go_wp2
  have HQ := HP nq
  obtain ⟨W1, hW1⟩ : ∃ W1, W1 = (w.drewN nq).setCell ⟨b, 9, none⟩ (.int .u8 (n : Int)) := ⟨_, rfl⟩
  have c1' : W1.cell? ⟨b, 9, none⟩ = some (.int .u8 (n : Int)) := by rw [hW1]; exact cell_set_same (w := w.drewN nq) _ c1
  have ck' : W1.cell? ⟨b, 10 + n, none⟩ = some (.int .u8 k) := by rw [hW1]; exact (cell_set_ne (w := w.drewN nq) _ (by omega)).trans ck
  have f2' : W1.frozen? ⟨b, 10 + n, none⟩ = false := by rw [hW1]; exact (World.frozen?_setCell ..).trans f2
  rw [← hW1] at HQ ⊢
  clear hW1 c1 f1 f2 ck HP e1 ew
  go_region
  go_wp2
  go_ret
  exact ⟨rfl, HQ.out⟩
end Go.Proofs.Ytlppifnepckpiaa
