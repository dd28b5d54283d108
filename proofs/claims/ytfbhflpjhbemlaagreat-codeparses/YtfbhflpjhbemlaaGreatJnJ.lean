/- Texts joined: CuG, CuH. -/
import Derived.Test.YtfbhflpjhbemlaaGreatJnI
import Derived.Deep.OwnRows
/- Stage 19: what metronomeref19.Check's loop keeps. -/
namespace Go.Proofs.YtfbhflpjhbemlaaGreat
open Go.RowKit Go.Maps Go.WideMaps
open Cd (Kn)

/-- one way: the stack m comes to place j -/
def Cd.put1 (m : List Int) (j : Nat) (qs : Kn) : Option Kn :=
  match qs[j]? with
  | none => none
  | some none => some (qs.set j (some m))
  | some (some k) => if k = m then some qs else none
def Cd.puts (m : List Int) : List Nat → Kn → Option Kn
  | [], qs => some qs
  | j :: js, qs => (Cd.put1 m j qs).bind (Cd.puts m js)
theorem Cd.lead_put (m : List Int) (at_ : Nat) (n : Int) (qs : Kn) (h : 0 ≤ n) : Cd.lead m at_ n qs = Cd.puts m [at_ + 1 + n.toNat] qs := by
  rw [Cd.lead, if_neg (by omega)]
  simp only [Cd.puts, Cd.put1]
  cases qs[at_ + 1 + n.toNat]? with
  | none => rfl
  | some q =>
    cases q with
    | none => rfl
    | some k => simp only; split <;> rfl
theorem Cd.lead_out (m : List Int) (at_ : Nat) (n : Int) (qs : Kn) (h : n < 0 ∨ (qs.length : Int) - at_ - 1 ≤ n) : Cd.lead m at_ n qs = none := by
  rw [Cd.lead]
  by_cases h0 : n < 0
  · rw [if_pos h0]
  · rw [if_neg h0, List.getElem?_eq_none (by omega)]
/-- what one instruction of Op o does -/
theorem Cd.act_puts {c : Cd.Code} {x : Cd.Ins} {l m : List Int} {at_ : Nat} {qs : Kn} (hs : Cd.step c x l = some m) (hm : ¬ c.stack < m.length) (h7 : x.op = 7 ∨ x.op = 8 → 0 ≤ x.n) :
    Cd.act c x l at_ qs = Cd.puts m (if x.op = 9 then [] else if x.op = 7 then [at_ + 1 + x.n.toNat] else if x.op = 8 then [at_ + 1, at_ + 1 + x.n.toNat] else [at_ + 1]) qs := by
  have e0 : Cd.lead m at_ 0 qs = Cd.puts m [at_ + 1] qs := Cd.lead_put m at_ 0 qs (by decide)
  rw [Cd.act, hs]
  simp only
  rw [if_neg hm]
  by_cases h9 : x.op = 9
  · rw [if_pos h9, if_pos h9]; rfl
  rw [if_neg h9, if_neg h9]
  by_cases h7' : x.op = 7
  · rw [if_pos h7', if_pos h7', Cd.lead_put _ _ _ _ (h7 (.inl h7'))]
  rw [if_neg h7', if_neg h7']
  by_cases h8 : x.op = 8
  · rw [if_pos h8, if_pos h8, e0]
    have h0 := h7 (.inr h8)
    simp only [Cd.puts]
    cases Cd.put1 m (at_ + 1) qs with
    | none => rfl
    | some q =>
      simp only [Option.bind_some]
      rw [Cd.lead_put _ _ _ _ h0]
      simp only [Cd.puts]
  · rw [if_neg h8, if_neg h8, e0]
theorem Cd.act_none {c : Cd.Code} {x : Cd.Ins} {l : List Int} {at_ : Nat} {qs : Kn} (h : Cd.step c x l = none ∨ (∃ m, Cd.step c x l = some m ∧ c.stack < m.length) ∨ ((x.op = 7 ∨ x.op = 8) ∧ (x.n < 0 ∨ (qs.length : Int) - at_ - 1 ≤ x.n))) : Cd.act c x l at_ qs = none := by
  rw [Cd.act]
  cases hs : Cd.step c x l with
  | none => rfl
  | some m =>
    simp only
    by_cases hm : c.stack < m.length
    · rw [if_pos hm]
    rw [if_neg hm]
    rcases h with h | ⟨m', h, h2⟩ | ⟨ho, hn⟩
    · rw [hs] at h; cases h
    · rw [hs] at h; cases h; exact absurd h2 hm
    · rcases ho with ho | ho
      · rw [if_neg (by omega), if_pos ho, Cd.lead_out _ _ _ _ hn]
      · rw [if_neg (by omega), if_neg (by omega), if_pos ho]
        cases hl : Cd.lead m at_ 0 qs with
        | none => rfl
        | some q =>
          rw [Option.bind_some]
          have hlen : q.length = qs.length := by
            rw [Cd.lead, if_neg (by decide)] at hl
            split at hl
            · cases hl
            · cases hl; simp
            · split at hl
              · cases hl; rfl
              · cases hl
          exact Cd.lead_out _ _ _ _ (by rw [hlen]; exact hn)
theorem Cd.put1_keeps {m : List Int} {j : Nat} {qs q : Kn} (h : Cd.put1 m j qs = some q) : q = qs.set j (some m) ∧ j < qs.length := by
  unfold Cd.put1 at h
  split at h
  · cases h
  · rename_i e
    exact ⟨(Option.some.inj h).symm, (List.getElem?_eq_some_iff.1 e).1⟩
  · rename_i k e
    split at h
    · rename_i hk
      subst hk
      exact ⟨by rw [Cd.set_same _ _ _ e]; exact (Option.some.inj h).symm, (List.getElem?_eq_some_iff.1 e).1⟩
    · cases h

/-- a list of numbers behind a store where no number stood -/
theorem NumsAt.setn {V : World} {a : Option Addr} {l : List Int} {p : Addr} {u : Value} (h : NumsAt V a l) (hp : V.cell? p = some u) (hu : ∀ n, u ≠ .int .i64 n) (v : Value) : NumsAt (V.setCell p v) a l := fun i n hi => by
  obtain ⟨b, o, e, hc⟩ := h i n hi
  refine ⟨b, o, e, ?_⟩
  rw [World.cell?_setCell_other]
  · exact hc
  · intro e2
    rw [← e2, hp] at hc
    exact hu n (Option.some.inj hc)
theorem gr_setn {w wr : World} {g : Nat} (gr : w.grownBy wr none) (h : w.heap.size ≤ g) (k : Nat) (v : Value) : w.grownBy (wr.setCell ⟨g, k, none⟩ v) none := by
  refine ⟨gr.os, gr.tape, gr.output, ?_, fun j hj _ => ?_⟩
  · have := gr.size
    simpa [World.setCell] using this
  · rw [Below.heap_setCell _ _ _ _ (show j ≠ g by omega)]
    exact gr.block j hj (by simp)
/-- the stacks that are known, in memory -/
structure Rk (w V : World) (cs : Array Value) (cb g1 g2 : Nat) (qs : Kn) : Prop where
  gr : w.grownBy V none
  box : V.heap[cb]? = some (.cells cs 27 (0, 0))
  le : w.heap.size ≤ cb ∧ w.heap.size ≤ g1 ∧ w.heap.size ≤ g2
  ne : cb ≠ g1 ∧ cb ≠ g2 ∧ g1 ≠ g2
  r1 : ∃ arr, V.heap[g1]? = some (.cells arr 24 (0, 0))
  r2 : ∃ arr, V.heap[g2]? = some (.cells arr 4 (0, 0))
  kn : ∀ j q, qs[j]? = some q → V.cell? ⟨g2, j, none⟩ = some (.bool q.isSome)
  ats : ∀ j q, qs[j]? = some q → ∃ a n cap, V.cell? ⟨g1, j, none⟩ = some (.slice a n cap) ∧ ∀ s, q = some s → n = s.length ∧ n ≤ cap ∧ NumsAt V a s.reverse
theorem Rk.on {w V V' : World} {cs : Array Value} {cb g1 g2 : Nat} {qs : Kn} (h : Rk w V cs cb g1 g2 qs) (hg : V.grownBy V' none) : Rk w V' cs cb g1 g2 qs := by
  have k : ∀ {b : Nat} {o : Obj}, V.heap[b]? = some o → V'.heap[b]? = some o := fun hb => (hg.block _ (gl hb) (by simp)).trans hb
  refine ⟨h.gr.trans hg, k h.box, h.le, h.ne, ?_, ?_, fun j q hj => hg.cell (h.kn j q hj) (by simp), fun j q hj => ?_⟩
  · obtain ⟨arr, e⟩ := h.r1; exact ⟨arr, k e⟩
  · obtain ⟨arr, e⟩ := h.r2; exact ⟨arr, k e⟩
  · obtain ⟨a, n, cap, e, hs⟩ := h.ats j q hj
    exact ⟨a, n, cap, hg.cell e (by simp), fun s es => ⟨(hs s es).1, (hs s es).2.1, (hs s es).2.2.on hg⟩⟩
theorem Rk.f1 {w V : World} {cs : Array Value} {cb g1 g2 : Nat} {qs : Kn} (h : Rk w V cs cb g1 g2 qs) (j : Nat) : V.frozen? ⟨g1, j, none⟩ = false := by obtain ⟨arr, e⟩ := h.r1; simp [World.frozen?, e]
theorem Rk.f2 {w V : World} {cs : Array Value} {cb g1 g2 : Nat} {qs : Kn} (h : Rk w V cs cb g1 g2 qs) (j : Nat) : V.frozen? ⟨g2, j, none⟩ = false := by obtain ⟨arr, e⟩ := h.r2; simp [World.frozen?, e]
theorem cell_block_ne {V : World} {b g o k : Nat} (v : Value) (h : b ≠ g) : (V.setCell ⟨g, k, none⟩ v).cell? ⟨b, o, none⟩ = V.cell? ⟨b, o, none⟩ := by
  apply World.cell?_setCell_other
  intro e
  cases e
  exact h rfl
theorem Rk.put {w V : World} {cs : Array Value} {cb g1 g2 : Nat} {qs : Kn} {j : Nat} {m : List Int} {a : Option Addr} {cap : Nat} (h : Rk w V cs cb g1 g2 qs) (hj : j < qs.length) (hm : NumsAt V a m.reverse) (hc : m.length ≤ cap) :
    Rk w ((V.setCell ⟨g2, j, none⟩ (.bool true)).setCell ⟨g1, j, none⟩ (.slice a m.length cap)) cs cb g1 g2 (qs.set j (some m)) := by
  obtain ⟨n1, n2, n3⟩ := h.ne
  obtain ⟨l1, l2, l3⟩ := h.le
  obtain ⟨q0, hq0⟩ : ∃ q, qs[j]? = some q := ⟨_, List.getElem?_eq_getElem hj⟩
  have k2 := h.kn j q0 hq0
  obtain ⟨a0, m0, c0, k1, -⟩ := h.ats j q0 hq0
  have k1' : (V.setCell ⟨g2, j, none⟩ (.bool true)).cell? ⟨g1, j, none⟩ = some (.slice a0 m0 c0) := (cell_block_ne _ n3).trans k1
  have nums : ∀ {a : Option Addr} {l : List Int}, NumsAt V a l → NumsAt ((V.setCell ⟨g2, j, none⟩ (.bool true)).setCell ⟨g1, j, none⟩ (.slice a0 m0 c0)) a l → True := fun _ _ => trivial
  have nums2 : ∀ {b : Option Addr} {l : List Int} (v : Value), NumsAt V b l → NumsAt ((V.setCell ⟨g2, j, none⟩ (.bool true)).setCell ⟨g1, j, none⟩ v) b l := fun v hb => (hb.setn k2 (fun n e => by cases e) _).setn k1' (fun n e => by cases e) v
  clear nums
  refine ⟨gr_setn (gr_setn h.gr l3 _ _) l2 _ _, ?_, h.le, h.ne, ?_, ?_, fun i q hi => ?_, fun i q hi => ?_⟩
  · rw [Below.heap_setCell _ _ _ _ n1, Below.heap_setCell _ _ _ _ n2]
    exact h.box
  · obtain ⟨arr, e⟩ := h.r1
    have e2 : (V.setCell ⟨g2, j, none⟩ (.bool true)).heap[g1]? = some (.cells arr 24 (0, 0)) := (Below.heap_setCell _ _ _ _ n3).trans e
    exact ⟨_, heap_setCell_same _ g1 j _ _ _ e2⟩
  · obtain ⟨arr, e⟩ := h.r2
    exact ⟨_, (Below.heap_setCell _ _ _ _ (Ne.symm n3)).trans (heap_setCell_same _ g2 j _ _ _ e)⟩
  · rw [cell_block_ne _ (Ne.symm n3)]
    by_cases e : j = i
    · subst e
      rw [List.getElem?_set_self hj] at hi
      cases hi
      exact cell_set_same _ k2
    · rw [List.getElem?_set_ne e] at hi
      rw [cell_set_ne _ e]
      exact h.kn i q hi
  · by_cases e : j = i
    · subst e
      rw [List.getElem?_set_self hj] at hi
      cases hi
      refine ⟨a, m.length, cap, cell_set_same _ k1', fun s es => ?_⟩
      cases es
      exact ⟨rfl, hc, nums2 _ hm⟩
    · rw [List.getElem?_set_ne e] at hi
      obtain ⟨a', n', c', e', hs⟩ := h.ats i q hi
      refine ⟨a', n', c', ?_, fun s es => ⟨(hs s es).1, (hs s es).2.1, nums2 _ (hs s es).2.2⟩⟩
      rw [cell_set_ne _ e, cell_block_ne _ n3]
      exact e'
theorem Rk.put_nums {w V : World} {cs : Array Value} {cb g1 g2 : Nat} {qs : Kn} {j : Nat} (h : Rk w V cs cb g1 g2 qs) (hj : j < qs.length) {b : Option Addr} {l : List Int} (v : Value) (hb : NumsAt V b l) : NumsAt ((V.setCell ⟨g2, j, none⟩ (.bool true)).setCell ⟨g1, j, none⟩ v) b l := by
  obtain ⟨n1, n2, n3⟩ := h.ne
  obtain ⟨q0, hq0⟩ : ∃ q, qs[j]? = some q := ⟨_, List.getElem?_eq_getElem hj⟩
  have k2 := h.kn j q0 hq0
  obtain ⟨a0, m0, c0, k1, -⟩ := h.ats j q0 hq0
  have k1' : (V.setCell ⟨g2, j, none⟩ (.bool true)).cell? ⟨g1, j, none⟩ = some (.slice a0 m0 c0) := (cell_block_ne _ n3).trans k1
  exact (hb.setn k2 (fun n e => by cases e) _).setn k1' (fun n e => by cases e) v
theorem put_row {V : World} {g1 g2 A : Nat} {j : Nat} {o : Obj} (v u : Value) (h : V.heap[A]? = some o) (h1 : A ≠ g1) (h2 : A ≠ g2) : ((V.setCell ⟨g2, j, none⟩ v).setCell ⟨g1, j, none⟩ u).heap[A]? = some o := by
  rw [Below.heap_setCell _ _ _ _ h1, Below.heap_setCell _ _ _ _ h2]
  exact h
theorem Rk.stores {w V : World} {cs : Array Value} {cb g1 g2 : Nat} {qs : Kn} {j : Nat} (h : Rk w V cs cb g1 g2 qs) (hj : j < qs.length) : V.frozen? ⟨g2, j, none⟩ = false ∧ (V.setCell ⟨g2, j, none⟩ (.bool true)).frozen? ⟨g1, j, none⟩ = false ∧ ∃ a n c, (V.setCell ⟨g2, j, none⟩ (.bool true)).cell? ⟨g1, j, none⟩ = some (.slice a n c) := by
  obtain ⟨q0, hq0⟩ : ∃ q, qs[j]? = some q := ⟨_, List.getElem?_eq_getElem hj⟩
  obtain ⟨a0, m0, c0, k1, -⟩ := h.ats j q0 hq0
  exact ⟨h.f2 j, (World.frozen?_setCell ..).trans (h.f1 j), a0, m0, c0, (cell_block_ne _ h.ne.2.2).trans k1⟩
theorem lens_set {q : Kn} {j : Nat} {m : List Int} (h : ∀ s, some s ∈ q → s.length ≤ 64) (hm : m.length ≤ 64) : ∀ s, some s ∈ q.set j (some m) → s.length ≤ 64 := fun s hs => by
  rcases List.mem_or_eq_of_mem_set hs with h1 | h1
  · exact h s h1
  · cases h1; exact hm
theorem mk_nots (n : Nat) (hn : n ≤ 60000) (w : World) : (Instr.makeSlice 89 (.int .i64 (n : Int)) (.int .i64 (n : Int))).run Tryz.prog w = .ok (.slice (some ⟨w.heap.size, 0, none⟩) n n) (w.alloc (.cells (madeCells #[.bool false] n) 4)) :=
  run_make_row' 89 4 (.bool false) 1 Tryz.underlying89 (by kernel_rfl) rfl .i64 .i64 n (by omega) (by omega) w
theorem mk_nils (n : Nat) (hn : n ≤ 60000) (w : World) : (Instr.makeSlice 88 (.int .i64 (n : Int)) (.int .i64 (n : Int))).run Tryz.prog w = .ok (.slice (some ⟨w.heap.size, 0, none⟩) n n) (w.alloc (.cells (madeCells #[.slice none 0 0] n) 24)) :=
  run_make_row' 88 24 (.slice none 0 0) 24 Tryz.underlying88 (by kernel_rfl) rfl .i64 .i64 n (by omega) (by omega) w
theorem made_one (z : Value) (n k : Nat) (h : k < n) : (madeCells #[z] n)[k]? = some z := by
  have := toList_madeCells_one z n
  rw [← Array.getElem?_toList, this]
  simp [h]
theorem Rk.start {w V : World} {cs : Array Value} {cb g1 g2 n : Nat} (hn : 0 < n) (gr : w.grownBy V none) (box : V.heap[cb]? = some (.cells cs 27 (0, 0))) (le : w.heap.size ≤ cb ∧ w.heap.size ≤ g1 ∧ w.heap.size ≤ g2) (ne : cb ≠ g1 ∧ cb ≠ g2 ∧ g1 ≠ g2)
    (r1 : V.heap[g1]? = some (.cells (madeCells #[.slice none 0 0] n) 24 (0, 0))) (r2 : V.heap[g2]? = some (.cells (madeCells #[.bool false] n) 4 (0, 0))) :
    Rk w (V.setCell ⟨g2, 0, none⟩ (.bool true)) cs cb g1 g2 (some [] :: List.replicate (n - 1) none) := by
  have c2 : ∀ i, i < n → V.cell? ⟨g2, i, none⟩ = some (.bool false) := fun i hi => by rw [cell_of_row _ _ i _ _ _ r2]; exact made_one _ _ _ hi
  have c1 : ∀ i, i < n → V.cell? ⟨g1, i, none⟩ = some (.slice none 0 0) := fun i hi => by rw [cell_of_row _ _ i _ _ _ r1]; exact made_one _ _ _ hi
  have hlen : ∀ i (q : Option (List Int)), (some [] :: List.replicate (n - 1) none : Kn)[i]? = some q → i < n := fun i q hi => by have := (List.getElem?_eq_some_iff.1 hi).1; simp at this; omega
  refine ⟨gr_setn gr le.2.2 _ _, (Below.heap_setCell _ _ _ _ ne.2.1).trans box, le, ne, ⟨_, (Below.heap_setCell _ _ _ _ ne.2.2).trans r1⟩, ⟨_, heap_setCell_same _ g2 0 _ _ _ r2⟩, fun i q hi => ?_, fun i q hi => ?_⟩
  · have hin := hlen i q hi
    cases i with
    | zero => simp at hi; subst hi; exact cell_set_same _ (c2 0 hin)
    | succ i =>
      rw [List.getElem?_cons_succ, List.getElem?_replicate] at hi
      split at hi
      · cases hi
        rw [cell_set_ne _ (by omega)]
        exact c2 _ hin
      · cases hi
  · refine ⟨none, 0, 0, (cell_block_ne _ ne.2.2).trans (c1 i (hlen i q hi)), fun s es => ?_⟩
    subst es
    have : s = [] := by
      cases i with
      | zero => simp at hi; exact hi
      | succ i =>
        rw [List.getElem?_cons_succ, List.getElem?_replicate] at hi
        split at hi <;> cases hi
    subst this
    exact ⟨rfl, Nat.le_refl _, NumsAt.nil _ _⟩
end Go.Proofs.YtfbhflpjhbemlaaGreat

/- Stage 19: metronomeref19.Check of what is too long, or whose counts are wrong (written by mkcuh.py). -/
namespace Go.Proofs.YtfbhflpjhbemlaaGreat
open Go.RowKit Go.Maps Go.WideMaps
open Cd (Kn)

theorem dT {p : Prop} [Decidable p] (h : p) : decide p = true := decide_eq_true h
theorem dF {p : Prop} [Decidable p] (h : ¬ p) : decide p = false := decide_eq_false h
theorem chk_long {c : Cd.Code} (h : 60000 < c.body.length ∨ 8000 < c.kinds.length ∨ 64 < c.stack) : Cd.check c = 2 := by unfold Cd.check; rw [if_pos h]
theorem chk_bad {c : Cd.Code} (h : ¬ (60000 < c.body.length ∨ 8000 < c.kinds.length ∨ 64 < c.stack)) (hb : ¬ (Cnt c ∧ (c.kinds.all fun k => decide (0 < Bv.wid k)) = true ∧ iniB c = true ∧ opsB c.body = true)) : Cd.check c = 40 := by
  have : Cd.bad c = true := by
    rw [bad_is]
    cases h1 : (decide (Cnt c) && ((c.kinds.all fun k => decide (0 < Bv.wid k)) && (iniB c && opsB c.body))) with
    | false => rfl
    | true =>
      simp only [Bool.and_eq_true, decide_eq_true_eq] at h1
      exact absurd ⟨h1.1, h1.2.1, h1.2.2.1, h1.2.2.2⟩ hb
  unfold Cd.check
  rw [if_neg h, if_pos this]
theorem chk_good {c : Cd.Code} (h : ¬ (60000 < c.body.length ∨ 8000 < c.kinds.length ∨ 64 < c.stack)) (h1 : Cnt c) (h2 : (c.kinds.all fun k => decide (0 < Bv.wid k)) = true) (h3 : iniB c = true) (h4 : opsB c.body = true) : Cd.check c = if Cd.go c c.body (some [] :: List.replicate (c.body.length - 1) none) then 0 else 50 := by
  have : Cd.bad c = false := by rw [bad_is, h2, h3, h4, decide_eq_true h1]; rfl
  unfold Cd.check
  rw [if_neg h, if_neg (by rw [this]; decide)]

set_option maxHeartbeats 4000000 in
set_option maxRecDepth 100000 in
theorem rcheck_long (w : World) (c : Cd.Code) (ka : Option Addr) (kc : Nat) (ia : Option Addr) (ic : Nat) (ba : Option Addr) (bc : Nat) (hs : c.kinds.length ≤ maxLen ∧ c.body.length ≤ maxLen) (h : 60000 < c.body.length ∨ 8000 < c.kinds.length ∨ 64 < c.stack) : Calls Tryz.prog 27 #[.agg (codeV c ka kc ia ic ba bc)] w fun e w' => e = .returned (.int .i64 (Cd.check c)) ∧ w.grownBy w' none := by
  have hR := chk_long h
  obtain ⟨R, hRR⟩ : ∃ R, R = Cd.check c := ⟨_, rfl⟩
  rw [← hRR] at hR ⊢
  have HR := Lib.hid hR
  clear hR hRR
  have n1 : c.kinds.length ≤ 9223372036854775807 := by simpa [maxLen] using hs.1
  have n2 : c.body.length ≤ 9223372036854775807 := by simpa [maxLen] using hs.2
  clear hs
  unfold codeV
  generalize c.kinds.length = nk at *
  generalize c.init.length = ni at *
  generalize c.body.length = nb at *
  generalize c.ins = x1 at *
  generalize c.outs = x2 at *
  generalize c.cells = x3 at *
  generalize c.stack = x4 at *
  by_cases l1 : 60000 < nb
  · have e1 : decide ((60000 : Int) < (nb : Int)) = true := dT (by omega)
    clear h l1
    go_enter Tryz.func27, Tryz.ntmps27
    go_wp2
    go_ret
    exact ⟨(by rw [HR.out]; rfl), World.grownBy_alloc _ _ _⟩
  have e1 : decide ((60000 : Int) < (nb : Int)) = false := dF (by omega)
  by_cases l2 : 8000 < nk
  · have e2 : decide ((8000 : Int) < (nk : Int)) = true := dT (by omega)
    clear h l1 l2
    go_enter Tryz.func27, Tryz.ntmps27
    go_wp2
    go_ret
    exact ⟨(by rw [HR.out]; rfl), World.grownBy_alloc _ _ _⟩
  have e2 : decide ((8000 : Int) < (nk : Int)) = false := dF (by omega)
  have e3 : decide ((64 : Int) < x4) = true := dT (by omega)
  clear h l1 l2
  go_enter Tryz.func27, Tryz.ntmps27
  go_wp2
  go_ret
  exact ⟨(by rw [HR.out]; rfl), World.grownBy_alloc _ _ _⟩

set_option maxHeartbeats 4000000 in
set_option maxRecDepth 100000 in
theorem rcheck_counts (w : World) (c : Cd.Code) (ka : Option Addr) (kc : Nat) (ia : Option Addr) (ic : Nat) (ba : Option Addr) (bc : Nat) (hl : ¬ (60000 < c.body.length ∨ 8000 < c.kinds.length ∨ 64 < c.stack)) (h : ¬ Cnt c) : Calls Tryz.prog 27 #[.agg (codeV c ka kc ia ic ba bc)] w fun e w' => e = .returned (.int .i64 (Cd.check c)) ∧ w.grownBy w' none := by
  have hR := chk_bad hl (fun x => h x.1)
  obtain ⟨R, hRR⟩ : ∃ R, R = Cd.check c := ⟨_, rfl⟩
  rw [← hRR] at hR ⊢
  have HR := Lib.hid hR
  clear hR hRR
  unfold Cnt at h
  unfold codeV
  generalize c.kinds.length = nk at *
  generalize c.init.length = ni at *
  generalize c.body.length = nb at *
  generalize c.ins = x1 at *
  generalize c.outs = x2 at *
  generalize c.cells = x3 at *
  generalize c.stack = x4 at *
  have e1 : decide ((60000 : Int) < (nb : Int)) = false := dF (by omega)
  have e2 : decide ((8000 : Int) < (nk : Int)) = false := dF (by omega)
  have e3 : decide ((64 : Int) < x4) = false := dF (by omega)
  by_cases a0 : x1 < 0
  · have f0 : decide (x1 < 0) = true := dT a0
    clear h hl a0 
    go_enter Tryz.func27, Tryz.ntmps27
    go_wp2
    go_ret
    exact ⟨(by rw [HR.out]; rfl), World.grownBy_alloc _ _ _⟩
  have f0 : decide (x1 < 0) = false := dF a0
  by_cases a1 : x2 < 0
  · have f1 : decide (x2 < 0) = true := dT a1
    clear h hl a1 a0
    go_enter Tryz.func27, Tryz.ntmps27
    go_wp2
    go_ret
    exact ⟨(by rw [HR.out]; rfl), World.grownBy_alloc _ _ _⟩
  have f1 : decide (x2 < 0) = false := dF a1
  by_cases a2 : x3 < 0
  · have f2 : decide (x3 < 0) = true := dT a2
    clear h hl a2 a0 a1
    go_enter Tryz.func27, Tryz.ntmps27
    go_wp2
    go_ret
    exact ⟨(by rw [HR.out]; rfl), World.grownBy_alloc _ _ _⟩
  have f2 : decide (x3 < 0) = false := dF a2
  by_cases a3 : x4 < 0
  · have f3 : decide (x4 < 0) = true := dT a3
    clear h hl a3 a0 a1 a2
    go_enter Tryz.func27, Tryz.ntmps27
    go_wp2
    go_ret
    exact ⟨(by rw [HR.out]; rfl), World.grownBy_alloc _ _ _⟩
  have f3 : decide (x4 < 0) = false := dF a3
  by_cases a4 : (nk : Int) < x1
  · have f4 : decide ((nk : Int) < x1) = true := dT a4
    clear h hl a4 a0 a1 a2 a3
    go_enter Tryz.func27, Tryz.ntmps27
    go_wp2
    go_ret
    exact ⟨(by rw [HR.out]; rfl), World.grownBy_alloc _ _ _⟩
  have f4 : decide ((nk : Int) < x1) = false := dF a4
  by_cases a5 : (nk : Int) < x2
  · have f5 : decide ((nk : Int) < x2) = true := dT a5
    clear h hl a5 a0 a1 a2 a3 a4
    go_enter Tryz.func27, Tryz.ntmps27
    go_wp2
    go_ret
    exact ⟨(by rw [HR.out]; rfl), World.grownBy_alloc _ _ _⟩
  have f5 : decide ((nk : Int) < x2) = false := dF a5
  by_cases a6 : (nk : Int) < x3
  · have f6 : decide ((nk : Int) < x3) = true := dT a6
    clear h hl a6 a0 a1 a2 a3 a4 a5
    go_enter Tryz.func27, Tryz.ntmps27
    go_wp2
    go_ret
    exact ⟨(by rw [HR.out]; rfl), World.grownBy_alloc _ _ _⟩
  have f6 : decide ((nk : Int) < x3) = false := dF a6
  have ew1 : wrap64 (x1 + x2) = x1 + x2 := by unfold wrap64; omega
  have ew2 : wrap64 (x1 + x2 + x3) = x1 + x2 + x3 := by unfold wrap64; omega
  have f7 : decide ((nk : Int) < x1 + x2 + x3) = true := dT (by omega)
  clear h hl a0 a1 a2 a3 a4 a5 a6
  go_enter Tryz.func27, Tryz.ntmps27
  go_wp2
  go_ret
  exact ⟨(by rw [HR.out]; rfl), World.grownBy_alloc _ _ _⟩
end Go.Proofs.YtfbhflpjhbemlaaGreat
