/- Texts joined: CeC, CeD, CeE, CeF, CeG, CeO, CeQ, CgA, CgB, CgC. -/
import Derived.Test.YtfbhflpjhbemlaaGreatJnD
import Derived.Lib.FrozenHead
import Derived.Deep.WholeRow
import Derived.Deep.CutRange
import Derived.ArgAppend
import Derived.Laws.BitsAllLaws
import Derived.Test.YtfbhflpjhbemlaaGreatJnF
import Derived.Maps.AppendAt
import Derived.Lib.SlBytesConst
/- Stage 19: alive. -/
namespace Go.Proofs.YtfbhflpjhbemlaaGreat
open Go.RowKit Go.Maps Go.WideMaps

theorem small_v (g h : Nat) : codeV Cd.small (some ⟨g, 0, none⟩) 2 none 0 (some ⟨h, 0, none⟩) 5 = #[.slice (some ⟨g, 0, none⟩) 2 2, .int .i64 1, .int .i64 1, .int .i64 0, .int .i64 2, .slice none 0 0, .slice (some ⟨h, 0, none⟩) 5 5] := rfl
theorem small1_v (g h : Nat) : codeV { Cd.small with stack := 1 } (some ⟨g, 0, none⟩) 2 none 0 (some ⟨h, 0, none⟩) 5 = #[.slice (some ⟨g, 0, none⟩) 2 2, .int .i64 1, .int .i64 1, .int .i64 0, .int .i64 1, .slice none 0 0, .slice (some ⟨h, 0, none⟩) 5 5] := rfl
/-- the bytes of the example -/
theorem small_w : ∃ r, Cd.write Cd.small = [77, 84, 82, 49, 4, 2, 2, 0, 4, 4, 4, 10] ++ r ∧ 1 ≤ r.length ∧ r.length ≤ 100 := by
  have e : ∀ n : Int, 0 ≤ n → n < 64 → Cd.num n = [UInt8.ofNat (2 * n).toNat] := fun n h0 h1 => by
    unfold Cd.num Cd.zig
    rw [if_pos h0, Cd.bytes_small (by omega)]
  have h : Cd.write Cd.small = [77, 84, 82, 49, 4, 2, 2, 0, 4, 4, 4, 10] ++ Cd.nums (Cd.insL Cd.small.body) := by
    unfold Cd.write Cd.allL Cd.heads
    rw [Cd.nums_append, Cd.nums_append, Cd.nums_append, Cd.nums_cons]
    simp only [Cd.small, Cd.nums, List.map_cons, List.map_nil, List.flatten_cons, List.flatten_nil, List.length_cons, List.length_nil]
    rw [e 1 (by decide) (by decide), e 0 (by decide) (by decide), e 2 (by decide) (by decide)]
    have e2 := e ((0 + 1 + 1 : Nat) : Int) (by decide) (by decide)
    have e5 := e ((0 + 1 + 1 + 1 + 1 + 1 : Nat) : Int) (by decide) (by decide)
    simp only [Nat.zero_add] at e2 e5 ⊢
    rw [e2, e5]
    rfl
  refine ⟨_, h, ?_, ?_⟩
  · have := Cd.bytes_ne (Cd.zig 2)
    have h2 : Cd.nums (Cd.insL Cd.small.body) = Cd.num 2 ++ Cd.nums [0, 0, 1, 1, 2, 5, 3, 2, 3, 1, 0, 9, 0, 0] := rfl
    rw [h2, List.length_append]
    have : (Cd.num 2).length ≠ 0 := fun h => this (List.eq_nil_of_length_eq_zero h)
    omega
  · have h1 : Cd.nums (Cd.insL Cd.small.body) = ((Cd.insL Cd.small.body).map Cd.num).flatten := rfl
    have : ∀ l : List Int, (∀ n ∈ l, 0 ≤ n ∧ n < 64) → (Cd.nums l).length = l.length := by
      intro l
      induction l with
      | nil => intro _; rfl
      | cons a l ih =>
        intro hl
        rw [Cd.nums_cons, List.length_append, ih (fun n hn => hl n (by simp [hn])), e a (hl a (by simp)).1 (hl a (by simp)).2]
        simp
        omega
    rw [this _ (by decide)]
    decide

theorem small1_64 : I64s { Cd.small with stack := 1 } := by
  obtain ⟨h1, h2, h3, _, h5⟩ := small_64
  exact ⟨h1, h2, h3, by unfold Cd.I64; decide, h5⟩

set_option maxHeartbeats 4000000 in
set_option maxRecDepth 100000 in
theorem alive19_any (hC : CCheck) (hWr : CWrite) (w : World) : Calls Tryz.prog 4 #[] w fun e w' => e = .returned (.bool true) ∧ w.grownBy w' none := by
  have hsm := fun wx => small_any wx
  simp only [small_v] at hsm
  have hn := fun k wx => num19_any k wx
  go_enter Tryz.func4, Tryz.ntmps4
  go_wp2_with (go_at_call 9; refine (hsm _).mono ?_; rintro e w1 ⟨g1, h1, rfl, hc1, _, _, hg1⟩; refine Hid.out ?_)
  refine Lib.hid ?_
  go_wp2_with (go_at_call 9; refine (hsm _).mono ?_; rintro e w2 ⟨g2, h2, rfl, hc2, l1, l2, hg2⟩; refine Hid.out ?_)
  have hr1 := (hg2.block w1.heap.size (by simp) (by simp)).trans (heap_alloc_new w1 _)
  have gA := World.grownBy_alloc w2 (.cells #[.slice (some ⟨g2, 0, none⟩) 2 2, .int .i64 1, .int .i64 1, .int .i64 0, .int .i64 1, .slice none 0 0, .slice (some ⟨h2, 0, none⟩) 5 5] 27) none
  have hr1a := (gA.block _ (Array.getElem?_eq_some_iff.1 hr1).1 (by simp)).trans hr1
  have u0 := cell_of_row _ _ 0 _ _ _ hr1a
  have u1 := cell_of_row _ _ 1 _ _ _ hr1a
  have u2 := cell_of_row _ _ 2 _ _ _ hr1a
  have u3 := cell_of_row _ _ 3 _ _ _ hr1a
  have u4 := cell_of_row _ _ 4 _ _ _ hr1a
  have u5 := cell_of_row _ _ 5 _ _ _ hr1a
  have u6 := cell_of_row _ _ 6 _ _ _ hr1a
  have hrD := heap_alloc_new w2 (.cells #[.slice (some ⟨g2, 0, none⟩) 2 2, .int .i64 1, .int .i64 1, .int .i64 0, .int .i64 1, .slice none 0 0, .slice (some ⟨h2, 0, none⟩) 5 5] 27)
  have hg12 : w1.grownBy w2 none := (World.grownBy_alloc w1 _ none).trans hg2
  have hck1 := hC (w2.alloc (.cells #[.slice (some ⟨g2, 0, none⟩) 2 2, .int .i64 1, .int .i64 1, .int .i64 0, .int .i64 1, .slice none 0 0, .slice (some ⟨h2, 0, none⟩) 5 5] 27)) Cd.small (some ⟨g1, 0, none⟩) 2 none 0 (some ⟨h1, 0, none⟩) 5 ((hc1.on hg12).on gA) small_64 (by exact Nat.le_refl _)
  rw [small_v, Cd.small_ok] at hck1
  have HC1 := Lib.hid (And.intro (hc1.on hg12) (And.intro hc2 (And.intro (hg1.trans hg12) hr1)))
  clear hc1 hc2 l1 l2 hg1 hg2 hg12 hr1 hr1a hsm
  refine Lib.hid ?_
  go_wp2_with (go_at_call 10; refine hck1.mono ?_; rintro e w4 ⟨rfl, hg4⟩; refine Hid.out ?_)
  have hrD4 := (hg4.block _ (Array.getElem?_eq_some_iff.1 hrD).1 (by simp)).trans hrD
  have d0 := cell_of_row w4 _ 0 _ _ _ hrD4
  have d1 := cell_of_row w4 _ 1 _ _ _ hrD4
  have d2 := cell_of_row w4 _ 2 _ _ _ hrD4
  have d3 := cell_of_row w4 _ 3 _ _ _ hrD4
  have d4 := cell_of_row w4 _ 4 _ _ _ hrD4
  have d5 := cell_of_row w4 _ 5 _ _ _ hrD4
  have d6 := cell_of_row w4 _ 6 _ _ _ hrD4
  have hck2 := hC w4 { Cd.small with stack := 1 } (some ⟨g2, 0, none⟩) 2 none 0 (some ⟨h2, 0, none⟩) 5 (by have := ((HC1.out.2.1.on gA).on hg4); exact ⟨this.kinds, this.init, this.body⟩) small1_64 (by exact Nat.le_refl _)
  rw [small1_v, Cd.small_1] at hck2
  have HG4 := Lib.hid (And.intro gA hg4)
  clear hg4 gA hrD hrD4 hck1 u0 u1 u2 u3 u4 u5 u6
  refine Lib.hid ?_
  go_wp2_with (go_at_call 10; refine hck2.mono ?_; rintro e w5 ⟨rfl, hg5⟩; refine Hid.out ?_)
  have hg25 : w2.grownBy w5 none := HG4.out.1.trans (HG4.out.2.trans hg5)
  have hr5 := (hg25.block _ (Array.getElem?_eq_some_iff.1 HC1.out.2.2.2).1 (by simp)).trans HC1.out.2.2.2
  have v0 := cell_of_row w5 _ 0 _ _ _ hr5
  have v1 := cell_of_row w5 _ 1 _ _ _ hr5
  have v2 := cell_of_row w5 _ 2 _ _ _ hr5
  have v3 := cell_of_row w5 _ 3 _ _ _ hr5
  have v4 := cell_of_row w5 _ 4 _ _ _ hr5
  have v5 := cell_of_row w5 _ 5 _ _ _ hr5
  have v6 := cell_of_row w5 _ 6 _ _ _ hr5
  have hwr := hWr w5 Cd.small (some ⟨g1, 0, none⟩) 2 none 0 (some ⟨h1, 0, none⟩) 5 (HC1.out.1.on hg25) small_64 (by exact Nat.le_refl _)
  rw [small_v] at hwr
  have HG5 := Lib.hid (HC1.out.2.2.1.trans hg25)
  clear hg5 hg25 hr5 hck2 d0 d1 d2 d3 d4 d5 d6 HG4 HC1
  refine Lib.hid ?_
  go_wp2_with (go_at_call 11; refine hwr.mono ?_; rintro e w6 ⟨hg6, hok, -⟩; obtain ⟨vb, rfl, hown⟩ := hok Cd.small_ok; refine Hid.out ?_)
  obtain ⟨r, hw, hr1, hr2⟩ := small_w
  obtain ⟨gb, cap, cur, rfl, _, hhb, hcap, hmx, _, htk⟩ : ∃ gb cap cur, vb = .slice (some ⟨gb, 0, none⟩) (Cd.write Cd.small).length cap ∧ w5.heap.size ≤ gb ∧ w6.heap[gb]? = some (.cells cur 5 (0, 0)) ∧ (Cd.write Cd.small).length ≤ cap ∧ cap ≤ maxLen ∧ cur.size = cap * 1 ∧ cur.toList.take ((Cd.write Cd.small).length * 1) = byteC (Cd.write Cd.small) := by
    rcases hown.2 with ⟨_, h0⟩ | ⟨g, cap, cur, hv, r⟩
    · rw [hw, List.length_append] at h0; simp at h0
    · exact ⟨g, cap, cur, hv, r⟩
  have hbl : (Cd.write Cd.small).length = 12 + r.length := by rw [hw, List.length_append]; rfl
  have hbc : ∀ j u, ([77, 84, 82, 49, 4, 2, 2, 0, 4, 4, 4, 10] : List UInt8)[j]? = some u → w6.cell? ⟨gb, j, none⟩ = some (.int .u8 u.toNat) := by
    intro j u hj
    have hjl : j < 12 := (List.getElem?_eq_some_iff.1 hj).1
    have h1 : (byteC (Cd.write Cd.small))[j]? = some (.int .u8 u.toNat) := by
      unfold byteC
      rw [hw, List.getElem?_map, List.getElem?_append_left (by simpa using hjl), hj]
      rfl
    rw [← htk, List.getElem?_take, if_pos (by rw [hbl]; omega)] at h1
    unfold World.cell?
    rw [hhb]
    simpa using h1
  have b4 := hbc 4 _ rfl
  have b9 := hbc 9 _ rfl
  have b11 := hbc 11 _ rfl
  have hcv : ∀ cp, (convert 22 9 (.slice (some ⟨gb, 0, none⟩) 4 cp)).run Tryz.prog w6 = .ok (.string ⟨#[77, 84, 82, 49]⟩) w6 := by
    intro cp
    have h := run_convert_bytes_back (P := Tryz.prog) w6 22 9 5 ⟨gb, 0, none⟩ cp [77, 84, 82, 49] Tryz.underlying22 Tryz.underlying5 Tryz.underlying9 (fun j hj => by
      have hj4 : j < 4 := hj
      have e : (⟨gb, 0, none⟩ : Addr).add j = ⟨gb, j, none⟩ := by unfold Addr.add; split <;> simp_all
      rw [e]
      rcases (show j = 0 ∨ j = 1 ∨ j = 2 ∨ j = 3 by omega) with rfl | rfl | rfl | rfl
      · exact hbc 0 _ rfl
      · exact hbc 1 _ rfl
      · exact hbc 2 _ rfl
      · exact hbc 3 _ rfl)
    exact h
  rw [hbl] at hcap
  rw [hbl]
  have HF := Lib.hid (HG5.out.trans hg6)
  have hc4 : 4 ≤ cap := by omega
  clear hown hhb htk hbl hbc hw hwr hg6 HG5 v0 v1 v2 v3 v4 v5 v6 hok
  generalize r.length = rl at hr1 hr2 hcap
  refine Lib.hid ?_
  go_wp2_with (go_at_call 7; refine (hn _ _).mono ?_; rintro e w' ⟨rfl, hw'⟩; obtain rfl := hw'.symm)
  go_ret
  exact ⟨rfl, HF.out⟩

end Go.Proofs.YtfbhflpjhbemlaaGreat

/- Stage 19: a body of instructions under way; the walk of CodeStacks (written by mkced.py). -/
namespace Go.Proofs.YtfbhflpjhbemlaaGreat
open Go.RowKit Go.Maps Go.WideMaps

theorem info_ci : (Tryz.prog.info? 32).map (fun i => (i.zero, i.size, i.bytes)) = some (some (.agg #[.int .i64 0, .int .i64 0, .int .i64 0]), 3, 24) := by kernel_rfl
theorem insC_append (l m : List Cd.Ins) : insC (l ++ m) = insC l ++ insC m := by simp [insC]

/-- code under way: its row in block C, first cells r, its instructions in memory of its own -/
structure Bd (w0 wr : World) (C : Nat) (r : List Value) (v : Value) (body : List Cd.Ins) : Prop where
  row : wr.heap[C]? = some (.cells (r ++ [v]).toArray 27 (0, 0))
  own : wr.ownsRow (C + 1) 32 3 v body.length (insC body)
  gr : w0.grownBy wr none
  le : w0.heap.size ≤ C
theorem Bd.ne {w0 wr : World} {C : Nat} {r : List Value} {v : Value} {body : List Cd.Ins} (h : Bd w0 wr C r v body) : v.ownBlock ≠ some C := by
  intro e
  have := h.own.lt C e
  omega
theorem Bd.form {w0 wr : World} {C : Nat} {r : List Value} {v : Value} {body : List Cd.Ins} (h : Bd w0 wr C r v body) : ∃ a c, v = .slice a body.length c ∧ InssAt wr a body := InssAt.own h.own
/-- something else is laid -/
theorem Bd.alloc {w0 wr : World} {C : Nat} {r : List Value} {v : Value} {body : List Cd.Ins} (h : Bd w0 wr C r v body) (o : Obj) : Bd w0 (wr.alloc o) C r v body :=
  have g := World.grownBy_alloc wr o none
  ⟨(g.block _ (Array.getElem?_eq_some_iff.1 h.row).1 (by simp)).trans h.row, h.own.kept g (by cases hv : v.ownBlock <;> simp), h.gr.trans g, h.le⟩
/-- some instructions more -/
theorem Bd.put {w0 w2 w3 : World} {C : Nat} {r : List Value} {v v' : Value} {body more : List Cd.Ins} (h : Bd w0 w2 C r v body) {m : Nat} (hr : r.length = 6) (hm : m = body.length + more.length) (ho : w3.ownsRow (C + 1) 32 3 v' m (insC body ++ insC more)) (hg : w2.grownBy w3 v.ownBlock) :
    Bd w0 (w3.setCell ⟨C, 6, none⟩ v') C r v' (body ++ more) := by
  subst hm
  have hC : C < w2.heap.size := (Array.getElem?_eq_some_iff.1 h.row).1
  have h3 : w3.heap[C]? = some (.cells (r ++ [v]).toArray 27 (0, 0)) := (hg.block C hC (fun e => h.ne e.symm)).trans h.row
  have gs : w3.grownBy (w3.setCell ⟨C, 6, none⟩ v') (some C) := ⟨rfl, rfl, rfl, by simp [World.setCell], fun k _ hk => Below.heap_setCell _ _ _ _ (fun e => hk (by simp [e]))⟩
  have hne : v'.ownBlock ≠ some C := by
    intro e
    have := ho.lt C e
    omega
  refine ⟨?_, ?_, ?_, h.le⟩
  · have e : (r ++ [v]).set 6 v' = r ++ [v'] := by rw [← hr]; simp
    simp only [World.setCell, Array.getElem?_modify, h3, Option.map_some]
    rw [← e]
    simp
  · rw [List.length_append, insC_append]
    exact ho.kept gs (.inr hne)
  · refine ⟨hg.os.trans h.gr.os, hg.tape.trans h.gr.tape, hg.output.trans h.gr.output, ?_, fun k hk _ => ?_⟩
    · have h1 := h.gr.size
      have h2 := hg.size
      have h4 := gs.size
      omega
    · have hle := h.le
      rw [gs.block k (by have := h.gr.size; have := hg.size; omega) (by simp; omega), hg.block k (by have := h.gr.size; omega) ?_, h.gr.block k hk (by simp)]
      intro e
      cases hv : v.ownBlock with
      | none => rw [hv] at e; cases e
      | some j =>
        rw [hv] at e
        cases e
        have := h.own.lt k hv
        omega

end Go.Proofs.YtfbhflpjhbemlaaGreat

/- Stage 19: the walk of CodeStacks (written by mkcee.py). -/
namespace Go.Proofs.YtfbhflpjhbemlaaGreat
open Go.RowKit Go.Maps Go.WideMaps

theorem tmod100 (t : Nat) : ((t : Int).tmod 100) = ((t % 100 : Nat) : Int) := (Int.ofNat_tmod t 100).symm
theorem pushes_succ (t : Nat) : (List.range' 0 (t + 1)).map Cd.pushI = (List.range' 0 t).map Cd.pushI ++ [Cd.pushI t] := by
  rw [List.range'_1_concat]
  simp
theorem pushes_len (t : Nat) : ((List.range' 0 t).map Cd.pushI).length = t := by simp

theorem stack_64 (n : Nat) (s : Int) (hn : n ≤ 70) (s0 : 0 ≤ s) (s1 : s ≤ 70) : I64s (Cd.stackK n s) := by
  have hI : ∀ z : Int, 0 ≤ z → z ≤ 1000 → Cd.I64 z := fun z h1 h2 => by unfold Cd.I64; omega
  refine ⟨hI 0 (by decide) (by decide), hI 1 (by decide) (by decide), hI 0 (by decide) (by decide), hI _ s0 (by show s ≤ 1000; omega), fun z hz => ?_, fun z hz => ?_, fun x hx => ?_, (show 1 ≤ maxLen by unfold maxLen; decide), (show 0 ≤ maxLen by unfold maxLen; decide), ?_⟩
  · simp [Cd.stackK] at hz
    subst hz
    exact hI _ (by decide) (by decide)
  · simp [Cd.stackK] at hz
  · have hx' : x ∈ Cd.stackB n := hx
    unfold Cd.stackB at hx'
    rcases List.mem_append.1 hx' with h | h
    · obtain ⟨i, _, rfl⟩ := List.mem_map.1 h
      have hm : i % 100 < 100 := Nat.mod_lt _ (by decide)
      exact ⟨hI 1 (by decide) (by decide), hI _ (by show (0 : Int) ≤ ((i % 100 : Nat) : Int); omega) (by show ((i % 100 : Nat) : Int) ≤ 1000; omega), hI 2 (by decide) (by decide)⟩
    · rcases List.mem_append.1 h with h | h
      · obtain rfl := List.eq_of_mem_replicate h
        exact ⟨hI _ (by decide) (by decide), hI _ (by decide) (by decide), hI _ (by decide) (by decide)⟩
      · simp at h
        rcases h with rfl | rfl <;> exact ⟨hI _ (by decide) (by decide), hI _ (by decide) (by decide), hI _ (by decide) (by decide)⟩
  · show (Cd.stackB n).length ≤ maxLen
    unfold Cd.stackB maxLen
    simp
    omega

end Go.Proofs.YtfbhflpjhbemlaaGreat

/- Stage 19: rows that are changed; what CodeWrong's walk needs. -/
namespace Go.Proofs.YtfbhflpjhbemlaaGreat
open Go.RowKit Go.Maps Go.WideMaps

theorem set_row {w : World} {h : Nat} {cs : List Value} {T : TypeId} (hr : w.heap[h]? = some (.cells cs.toArray T (0, 0))) (k : Nat) (v : Value) : (w.setCell ⟨h, k, none⟩ v).heap[h]? = some (.cells (cs.set k v).toArray T (0, 0)) := by
  simp [World.setCell, Array.getElem?_modify, hr]
theorem set_other {w : World} {h g : Nat} {o : Obj} (hr : w.heap[h]? = some o) (hne : h ≠ g) (k : Nat) (v : Value) : (w.setCell ⟨g, k, none⟩ v).heap[h]? = some o := (Below.heap_setCell _ _ _ _ hne).trans hr
theorem alloc_row {w : World} {h : Nat} {o : Obj} (hr : w.heap[h]? = some o) (q : Obj) : (w.alloc q).heap[h]? = some o := ((World.grownBy_alloc w q none).block _ (Array.getElem?_eq_some_iff.1 hr).1 (by simp)).trans hr

set_option maxHeartbeats 1000000 in
theorem small_rows (w : World) : Calls Tryz.prog 9 #[] w fun e w' => e = .returned (.agg #[.slice (some ⟨w.heap.size + 1, 0, none⟩) 2 2, .int .i64 1, .int .i64 1, .int .i64 0, .int .i64 2, .slice none 0 0, .slice (some ⟨w.heap.size + 1 + 1, 0, none⟩) 5 5]) ∧
    w'.heap[w.heap.size + 1]? = some (.cells ([2, 2].map (Value.int .i64)).toArray 3 (0, 0)) ∧ w'.heap[w.heap.size + 1 + 1]? = some (.cells (insC Cd.small.body).toArray 32 (0, 0)) ∧ w.grownBy w' none ∧ w'.heap.size = w.heap.size + 1 + 1 + 1 := by
  go_enter Tryz.func9, Tryz.ntmps9
  go_wp2
  have hA := heap_alloc_new w (.cells #[.slice (some ⟨w.heap.size + 1, 0, none⟩) 2 2, .int .i64 1, .int .i64 1, .int .i64 0, .int .i64 2, .slice none 0 0, .slice (some ⟨w.heap.size + 1 + 1, 0, none⟩) 5 5] 27)
  have g1 := World.grownBy_alloc w (.cells #[.slice (some ⟨w.heap.size + 1, 0, none⟩) 2 2, .int .i64 1, .int .i64 1, .int .i64 0, .int .i64 2, .slice none 0 0, .slice (some ⟨w.heap.size + 1 + 1, 0, none⟩) 5 5] 27) none
  have s1 := World.size_alloc w (.cells #[.slice (some ⟨w.heap.size + 1, 0, none⟩) 2 2, .int .i64 1, .int .i64 1, .int .i64 0, .int .i64 2, .slice none 0 0, .slice (some ⟨w.heap.size + 1 + 1, 0, none⟩) 5 5] 27)
  generalize w.alloc (.cells #[.slice (some ⟨w.heap.size + 1, 0, none⟩) 2 2, .int .i64 1, .int .i64 1, .int .i64 0, .int .i64 2, .slice none 0 0, .slice (some ⟨w.heap.size + 1 + 1, 0, none⟩) 5 5] 27) = w1 at hA g1 s1
  have hB := heap_alloc_new w1 (.cells #[.int .i64 2, .int .i64 2] 3)
  have g2 := World.grownBy_alloc w1 (.cells #[.int .i64 2, .int .i64 2] 3) none
  have s2 := World.size_alloc w1 (.cells #[.int .i64 2, .int .i64 2] 3)
  generalize w1.alloc (.cells #[.int .i64 2, .int .i64 2] 3) = w2 at hB g2 s2
  have hC := heap_alloc_new w2 (.cells (insC Cd.small.body).toArray 32)
  have g3 := World.grownBy_alloc w2 (.cells (insC Cd.small.body).toArray 32) none
  have s3 := World.size_alloc w2 (.cells (insC Cd.small.body).toArray 32)
  have e3 : w2.alloc (.cells (insC Cd.small.body).toArray 32) = w2.alloc (.cells #[.int .i64 2, .int .i64 0, .int .i64 0, .int .i64 1, .int .i64 1, .int .i64 2, .int .i64 5, .int .i64 3, .int .i64 2, .int .i64 3, .int .i64 1, .int .i64 0, .int .i64 9, .int .i64 0, .int .i64 0] 32) := rfl
  rw [← e3]
  generalize w2.alloc (.cells (insC Cd.small.body).toArray 32) = w3 at hC g3 s3
  rw [s1] at hB s2
  rw [s2] at hC s3
  have hA3 := ((g2.trans g3).block _ (Array.getElem?_eq_some_iff.1 hA).1 (by simp)).trans hA
  have hB3 := (g3.block _ (Array.getElem?_eq_some_iff.1 hB).1 (by simp)).trans hB
  exact bodyPost_ret (results_cell_row rfl _ _ w.heap.size 27 _ (0, 0) _ rfl hA3 Tryz.underlying27 rfl (by kernel_rfl)) rfl ⟨rfl, hB3, hC, g1.trans (g2.trans g3), s3⟩

end Go.Proofs.YtfbhflpjhbemlaaGreat

/- Stage 19: CodeWrong's memory: the numbers that are asked for, the example's three rows. -/
namespace Go.Proofs.YtfbhflpjhbemlaaGreat
open Go.RowKit Go.Maps Go.WideMaps

def wantsC : List Value := [.int .i64 0, .int .i64 40, .int .i64 40, .int .i64 40, .int .i64 40, .int .i64 40, .int .i64 40, .int .i64 40, .int .i64 50, .int .i64 50, .int .i64 50, .int .i64 50, .int .i64 50, .int .i64 50, .int .i64 50, .int .i64 50, .int .i64 50, .int .i64 50, .int .i64 0, .int .i64 2, .int .i64 40, .int .i64 50]
/-- the four rows -/
structure Cw (w wr : World) (V : Nat) (ks : List Int) (bs : List Cd.Ins) (cs : List Value) : Prop where
  vrow : wr.heap[V]? = some (.cells wantsC.toArray 3 (0, 0))
  krow : wr.heap[V + 1 + 1]? = some (.cells (ks.map (Value.int .i64)).toArray 3 (0, 0))
  brow : wr.heap[V + 1 + 1 + 1]? = some (.cells (insC bs).toArray 32 (0, 0))
  crow : wr.heap[V + 1 + 1 + 1 + 1]? = some (.cells cs.toArray 27 (0, 0))
  gr : w.grownBy wr none
  le : w.heap.size ≤ V
theorem gr_set {w wr : World} {g : Nat} (gr : w.grownBy wr none) (h : w.heap.size ≤ g) (k : Nat) (v : Value) : w.grownBy (wr.setCell ⟨g, k, none⟩ v) none := by
  refine ⟨gr.os, gr.tape, gr.output, ?_, fun j hj _ => ?_⟩
  · have := gr.size
    simpa [World.setCell] using this
  · rw [Below.heap_setCell _ _ _ _ (show j ≠ g by omega)]
    exact gr.block j hj (by simp)
theorem Cw.setC {w wr : World} {V : Nat} {ks : List Int} {bs : List Cd.Ins} {cs : List Value} (h : Cw w wr V ks bs cs) (k : Nat) (v : Value) : Cw w (wr.setCell ⟨V + 1 + 1 + 1 + 1, k, none⟩ v) V ks bs (cs.set k v) :=
  ⟨set_other h.vrow (by omega) _ _, set_other h.krow (by omega) _ _, set_other h.brow (by omega) _ _, set_row h.crow _ _, gr_set h.gr (by have := h.le; omega) _ _, h.le⟩
theorem Cw.setK {w wr : World} {V : Nat} {ks : List Int} {bs : List Cd.Ins} {cs : List Value} (h : Cw w wr V ks bs cs) (k : Nat) (n : Int) : Cw w (wr.setCell ⟨V + 1 + 1, k, none⟩ (.int .i64 n)) V (ks.set k n) bs cs :=
  ⟨set_other h.vrow (by omega) _ _, by rw [List.map_set]; exact set_row h.krow _ _, set_other h.brow (by omega) _ _, set_other h.crow (by omega) _ _, gr_set h.gr (by have := h.le; omega) _ _, h.le⟩
theorem Cw.setB {w wr : World} {V : Nat} {ks : List Int} {bs bs' : List Cd.Ins} {cs : List Value} (h : Cw w wr V ks bs cs) (k : Nat) (v : Value) (e : insC bs' = (insC bs).set k v) : Cw w (wr.setCell ⟨V + 1 + 1 + 1, k, none⟩ v) V ks bs' cs :=
  ⟨set_other h.vrow (by omega) _ _, set_other h.krow (by omega) _ _, by rw [e]; exact set_row h.brow _ _, set_other h.crow (by omega) _ _, gr_set h.gr (by have := h.le; omega) _ _, h.le⟩
theorem Cw.alloc {w wr : World} {V : Nat} {ks : List Int} {bs : List Cd.Ins} {cs : List Value} (h : Cw w wr V ks bs cs) (o : Obj) : Cw w (wr.alloc o) V ks bs cs :=
  ⟨alloc_row h.vrow _, alloc_row h.krow _, alloc_row h.brow _, alloc_row h.crow _, h.gr.trans (World.grownBy_alloc wr o none), h.le⟩
theorem Cw.on {w wr wr' : World} {V : Nat} {ks : List Int} {bs : List Cd.Ins} {cs : List Value} (h : Cw w wr V ks bs cs) (g : wr.grownBy wr' none) : Cw w wr' V ks bs cs :=
  have k : ∀ {b : Nat} {o : Obj}, wr.heap[b]? = some o → wr'.heap[b]? = some o := fun hb => (g.block _ (Array.getElem?_eq_some_iff.1 hb).1 (by simp)).trans hb
  ⟨k h.vrow, k h.krow, k h.brow, k h.crow, h.gr.trans g, h.le⟩
theorem Cw.onto {w wr wr' : World} {V : Nat} {ks : List Int} {bs : List Cd.Ins} {cs : List Value} {row : Option Nat} (h : Cw w wr V ks bs cs) (g : wr.grownBy wr' row) (hr : ∀ k, row = some k → V + 1 + 1 + 1 + 1 < k) : Cw w wr' V ks bs cs := by
  have k : ∀ {b : Nat} {o : Obj}, b ≤ V + 1 + 1 + 1 + 1 → wr.heap[b]? = some o → wr'.heap[b]? = some o := fun hle hb => (g.block _ (Array.getElem?_eq_some_iff.1 hb).1 (fun e => by have := hr _ e.symm; omega)).trans hb
  refine ⟨k (by omega) h.vrow, k (by omega) h.krow, k (by omega) h.brow, k (by omega) h.crow, ?_, h.le⟩
  have hC := (Array.getElem?_eq_some_iff.1 h.crow).1
  refine ⟨g.os.trans h.gr.os, g.tape.trans h.gr.tape, g.output.trans h.gr.output, Nat.le_trans h.gr.size g.size, fun j hj _ => ?_⟩
  have := h.le
  have := h.gr.size
  rw [g.block j (by omega) (fun e => by have := hr _ e.symm; omega), h.gr.block j hj (by simp)]
theorem row_cellz {w : World} {b : Nat} {cs : List Value} {t : TypeId} {fr : Nat × Nat} (h : w.heap[b]? = some (.cells cs.toArray t fr)) : ∀ j u, cs[j]? = some u → w.cell? ((⟨b, 0, none⟩ : Addr).add j) = some u := fun j u hu => by
  have e : (⟨b, 0, none⟩ : Addr).add j = ⟨b, j, none⟩ := by unfold Addr.add; split <;> simp_all
  rw [e]
  unfold World.cell?
  rw [h]
  simpa using hu
/-- append onto a list without room, at the operation -/
theorem wp_append_grows1 {P : Program} (w : World) {o : Oper} {a : Act} {K : Act → World → Prop} {Q : Exit → Act → World → Prop} (s x : Operand) (t : TypeId)
    (ho : o.op = .call { callee := .builtin .append, args := #[s, x], argTypes := #[t, t] })
    (e : TypeId) (i : TypeInfo) (z : Value) (size bytes : Nat) (ht : P.underlying t = some (.slice e)) (hi : P.info? e = some i) (hz : i.zero = some z) (hsize : i.size = size) (hby : i.bytes = bytes) (hzs : z.cells.size = size) (hsz : 0 < size)
    (b : Addr) (n cap : Nat) (olds : List Value) (hs : a.eval s = .slice (some b) n cap) (hlo : olds.length = n * size) (holds : ∀ j u, olds[j]? = some u → w.cell? (b.add j) = some u)
    (ad : Addr) (m c : Nat) (news : List Value) (hx : a.eval x = .slice (some ad) m c) (hl : news.length = m * size) (hnews : ∀ j u, news[j]? = some u → w.cell? (ad.add j) = some u)
    (hg : cap < n + m) (h63 : n + m ≤ maxLen) (hbytes : (n + m) * bytes ≤ 140737488355328)
    (h : ∀ v' w', w'.ownsRow w.heap.size e size v' (n + m) (olds ++ news) → w.grownBy w' none → K (a.put o.dst v') w') : o.wp P a w K Q := by
  obtain ⟨v', w', hrun, r1, r2⟩ := run_append_arg_grows (P := P) w t o.type e i z size bytes ht hi hz hsize hby hzs hsz b n cap olds hlo holds ad m c news hl hnews hg h63 hbytes
  unfold Oper.wp
  simp [execOp, ho, resolve, invoke, builtin, hs, hx, hrun, Result.andThen]
  exact h v' w' r1 r2
/-- a list of its own, behind a store in another block -/
theorem own_set {wr : World} {B n g : Nat} {T : TypeId} {z : Nat} {v : Value} {xs : List Value} (h : wr.ownsRow B T z v n xs) (hg : g < B) (k : Nat) (u : Value) : (wr.setCell ⟨g, k, none⟩ u).ownsRow B T z v n xs := by
  have gs : wr.grownBy (wr.setCell ⟨g, k, none⟩ u) (some g) := ⟨rfl, rfl, rfl, by simp [World.setCell], fun k _ hk => Below.heap_setCell _ _ _ _ (fun e => hk (by simp [e]))⟩
  refine h.kept gs (.inr ?_)
  intro e
  have := h.lt g e
  omega
theorem Cw.start {w w1 w3 : World} (hg1 : w.grownBy w1 none) (cs : List Value)
    (hk : w3.heap[w1.heap.size + 1 + 1]? = some (.cells ([2, 2].map (Value.int .i64)).toArray 3 (0, 0))) (hb : w3.heap[w1.heap.size + 1 + 1 + 1]? = some (.cells (insC Cd.small.body).toArray 32 (0, 0)))
    (hg3 : (w1.alloc (.cells wantsC.toArray 3)).grownBy w3 none) (hs3 : w3.heap.size = w1.heap.size + 1 + 1 + 1 + 1) :
    Cw w (w3.alloc (.cells cs.toArray 27)) w1.heap.size [2, 2] Cd.small.body cs := by
  have hv := heap_alloc_new w1 (.cells wantsC.toArray 3)
  have hv3 := (hg3.block _ (Array.getElem?_eq_some_iff.1 hv).1 (by simp)).trans hv
  have hc := heap_alloc_new w3 (.cells cs.toArray 27)
  rw [hs3] at hc
  exact ⟨alloc_row hv3 _, alloc_row hk _, alloc_row hb _, hc, (hg1.trans ((World.grownBy_alloc w1 _ none).trans hg3)).trans (World.grownBy_alloc w3 _ none), hg1.size⟩

theorem InssAt.take {w : World} {a : Option Addr} {l : List Cd.Ins} (h : InssAt w a l) (k : Nat) : InssAt w a (l.take k) := fun i x hi => by
  rw [List.getElem?_take] at hi
  split at hi
  · exact h i x hi
  · cases hi

/-- the memory of a body that is not empty -/
theorem Bd.inner {w0 wr : World} {C : Nat} {r : List Value} {v : Value} {body : List Cd.Ins} (h : Bd w0 wr C r v body) (h0 : 0 < body.length) :
    ∃ g cap, v = .slice (some ⟨g, 0, none⟩) body.length cap ∧ C + 1 ≤ g ∧ body.length ≤ cap ∧ cap ≤ maxLen ∧ (∀ k, wr.frozen? ⟨g, k, none⟩ = false) ∧ ∀ j u, (insC body)[j]? = some u → wr.cell? ⟨g, j, none⟩ = some u := by
  rcases h.own.2 with ⟨_, h1⟩ | ⟨g, cap, cur, rfl, hB, hh, h1, h2, h3, h4⟩
  · omega
  refine ⟨g, cap, rfl, hB, h1, h2, fun k => Lib.frozen_of_heap hh k, fun j u hj => ?_⟩
  have hjl : j < body.length * 3 := by rw [← insC_len]; exact (List.getElem?_eq_some_iff.1 hj).1
  rw [← h4, List.getElem?_take, if_pos hjl] at hj
  unfold World.cell?
  rw [hh]
  simpa using hj
theorem Bd.set {w0 wr : World} {C g n cap : Nat} {r : List Value} {body body' : List Cd.Ins} (h : Bd w0 wr C r (.slice (some ⟨g, 0, none⟩) n cap) body) (h0 : 0 < body.length) (k : Nat) (x : Value) (e : insC body' = (insC body).set k x) (hl : body'.length = body.length) :
    Bd w0 (wr.setCell ⟨g, k, none⟩ x) C r (.slice (some ⟨g, 0, none⟩) n cap) body' := by
  rcases h.own.2 with ⟨_, h1⟩ | ⟨g', cap', cur, hv, hB, hh, h1, h2, h3, h4⟩
  · omega
  cases hv
  refine ⟨set_other h.row (by omega) _ _, ?_, gr_set h.gr (by have := h.le; omega) _ _, h.le⟩
  rw [hl]
  refine ⟨by rw [insC_len, hl], .inr ⟨g, cap, cur.setIfInBounds k x, rfl, hB, ?_, h1, h2, by simpa using h3, ?_⟩⟩
  · simp [World.setCell, Array.getElem?_modify, hh]
  · rw [e, Array.toList_setIfInBounds, List.take_set, h4]
/-- another body in its place -/
theorem Bd.swap {w0 wr : World} {C B n : Nat} {r : List Value} {v v' : Value} {body b' : List Cd.Ins} (h : Bd w0 wr C r v body) (ho : wr.ownsRow B 32 3 v' n (insC b')) (hB : C < B) (hn : n = b'.length) (hr : r.length = 6) : Bd w0 (wr.setCell ⟨C, 6, none⟩ v') C r v' b' := by
  subst hn
  refine ⟨?_, ?_, gr_set h.gr h.le _ _, h.le⟩
  · have e : (r ++ [v]).set 6 v' = r ++ [v'] := by rw [← hr]; simp
    rw [← e]
    exact set_row h.row _ _
  · have := own_set ho hB 6 v'
    refine ⟨this.1, this.2.imp id ?_⟩
    rintro ⟨g, cap, cur, a1, a2, a3⟩
    exact ⟨g, cap, cur, a1, by omega, a3⟩
/-- others' memory is written -/
theorem Bd.onto {w0 wr wr' : World} {C B : Nat} {r : List Value} {v : Value} {body : List Cd.Ins} {row : Option Nat} (h : Bd w0 wr C r v body) (g : wr.grownBy wr' row) (hB : wr.heap.size ≤ B ∨ (C < B ∧ ∀ k, v.ownBlock = some k → k < B)) (hr : ∀ k, row = some k → B ≤ k) : Bd w0 wr' C r v body := by
  have hC := (Array.getElem?_eq_some_iff.1 h.row).1
  have hCB : C < B := by rcases hB with hB | hB; omega; exact hB.1
  have hvB : ∀ k, v.ownBlock = some k → k < B := by
    rcases hB with hB | hB
    · intro k hk
      rcases h.own.2 with ⟨rfl, _⟩ | ⟨g', cap, cur, rfl, _, hh, _⟩
      · simp [Value.ownBlock] at hk
      · simp [Value.ownBlock] at hk
        have := (Array.getElem?_eq_some_iff.1 hh).1
        omega
    · exact hB.2
  refine ⟨(g.block C hC (fun e => by have := hr _ e.symm; omega)).trans h.row, h.own.kept g ?_, ?_, h.le⟩
  · cases hv : v.ownBlock with
    | none => exact .inl rfl
    | some k =>
      right
      intro e
      have a1 := hr k e.symm
      have a2 := hvB k hv
      omega
  · refine ⟨g.os.trans h.gr.os, g.tape.trans h.gr.tape, g.output.trans h.gr.output, Nat.le_trans h.gr.size g.size, fun j hj _ => ?_⟩
    have h1 := h.le
    have h2 := h.gr.size
    rw [g.block j (by omega) (fun e => by have := hr _ e.symm; omega), h.gr.block j hj (by simp)]

/-- A whole struct stored into the block that was made last. -/
theorem store_lastc {P : Program} {w1 : World} {ops : Array Oper} {rest : List Oper} {d : Option Tmp} {p v : Operand} {t ty : TypeId} {s : String} {af : Array Edge} {a : Act} {Q : Exit → Act → World → Prop} {c : Array Value}
    (c' : Array Value) (hp : a.eval p = .pointer (some ⟨w1.heap.size, 0, none⟩)) (hv : a.eval v = .agg c') (hi : (P.info? t).map (·.size) = some c'.size) (ho : c.size = c'.size) (h1 : c'.all (·.oneCell') = true)
    (hK : wpList P ops Q rest (a.put d undef) (w1.alloc (.cells c' t))) :
    wpList P ops Q ({ dst := d, op := Op.store t p v, type := ty, pos := s, after := af, guard := none } :: rest) a (w1.alloc (.cells c t)) := by
  refine wpList_plain rfl fun K hK' => ?_
  unfold Oper.wp
  have hrun := run_storeAt_new (P := P) w1 t c c' hi ho h1
  simp [execOp, hp, hv, hrun, Result.andThen]
  exact hK' _ _ hK
theorem hold_st {P : Program} {ops : Array Oper} {rest : List Oper} {p v : Operand} {t ty : TypeId} {s : String} {af : Array Edge} {g : Option (Nat × Bool)} {a : Act} {w : World} {Q : Exit → Act → World → Prop}
    (hK : Hid (wpList P ops Q ({ dst := none, op := Op.store t p v, type := ty, pos := s, after := af, guard := g } :: rest) a w)) :
    wpList P ops Q ({ dst := none, op := Op.store t p v, type := ty, pos := s, after := af, guard := g } :: rest) a w := hK
theorem hold_ld {P : Program} {ops : Array Oper} {rest : List Oper} {d : Option Tmp} {p : Operand} {ty : TypeId} {s : String} {af : Array Edge} {g : Option (Nat × Bool)} {a : Act} {w : World} {Q : Exit → Act → World → Prop}
    (hK : Hid (wpList P ops Q ({ dst := d, op := Op.load 27 p, type := ty, pos := s, after := af, guard := g } :: rest) a w)) :
    wpList P ops Q ({ dst := d, op := Op.load 27 p, type := ty, pos := s, after := af, guard := g } :: rest) a w := hK
theorem small_one (g h : Nat) : (#[Value.slice (some ⟨g, 0, none⟩) 2 2, .int .i64 1, .int .i64 1, .int .i64 0, .int .i64 2, .slice none 0 0, .slice (some ⟨h, 0, none⟩) 5 5].all (·.oneCell')) = true := by simp [Value.oneCell']

end Go.Proofs.YtfbhflpjhbemlaaGreat

/- Stage 19: the walk of CodeNumbers (written by mkceo.py). -/
namespace Go.Proofs.YtfbhflpjhbemlaaGreat
open Go.RowKit Go.Maps Go.WideMaps

/-- bytes from an address on -/
def BytesAt (w : World) (a : Option Addr) (l : List UInt8) : Prop := ∀ i b, l[i]? = some b → ∃ g o, a = some ⟨g, o, none⟩ ∧ w.cell? ⟨g, o + i, none⟩ = some (.int .u8 b.toNat)

/-- code.Parse reads what was written -/
def CRead : Prop := ∀ (W : World) (c : Cd.Code) (a : Option Addr) (cap : Nat), BytesAt W a (Cd.write c) → Cd.check c = 0 → I64s c →
  Calls Tryz.prog 5 #[.slice a (Cd.write c).length cap] W fun e w' => W.grownBy w' none ∧ ∃ ka kc ia ic ba bc, e = .returned (.tuple #[.agg (codeV c ka kc ia ic ba bc), .int .i64 0]) ∧ CodeAt w' c ka ia ba

theorem BytesAt.own {w : World} {B : Nat} {v : Value} {l : List UInt8} (h : w.ownsRow B 5 1 v l.length (byteC l)) : ∃ a c, v = .slice a l.length c ∧ BytesAt w a l := by
  rcases h.2 with ⟨rfl, h0⟩ | ⟨g, cap, cur, rfl, hB, hh, h1, h2, h3, h4⟩
  · refine ⟨none, 0, by rw [h0], ?_⟩
    have : l = [] := List.eq_nil_of_length_eq_zero h0
    rw [this]
    exact fun i b h => by simp at h
  · refine ⟨_, cap, rfl, fun i n hi => ⟨g, 0, rfl, ?_⟩⟩
    have hl : i < l.length := (List.getElem?_eq_some_iff.1 hi).1
    have e : cur.toList[i]? = some (.int .u8 n.toNat) := by
      have : (cur.toList.take (l.length * 1))[i]? = some (.int .u8 n.toNat) := by rw [h4]; unfold byteC; rw [List.getElem?_map, hi]; rfl
      rw [List.getElem?_take] at this
      split at this
      · exact this
      · cases this
    rw [Nat.zero_add]
    unfold World.cell?
    rw [hh]
    simpa using e
theorem lt_of_cell? {w : World} {g o : Nat} {x : Value} (h : w.cell? ⟨g, o, none⟩ = some x) : g < w.heap.size := by
  rcases Nat.lt_or_ge g w.heap.size with h1 | h1
  · exact h1
  · unfold World.cell? at h
    rw [Array.getElem?_eq_none h1] at h
    cases h
theorem push_64 (n : Int) (hn : Cd.I64 n) : I64s (Cd.pushC n) := by
  have hI : ∀ z : Int, 0 ≤ z → z ≤ 1000 → Cd.I64 z := fun z h1 h2 => by unfold Cd.I64; omega
  refine ⟨hI 0 (by decide) (by decide), hI 1 (by decide) (by decide), hI 0 (by decide) (by decide), hI 1 (by decide) (by decide), fun z hz => ?_, fun z hz => ?_, fun x hx => ?_, (show 1 ≤ maxLen by unfold maxLen; decide), (show 0 ≤ maxLen by unfold maxLen; decide), (show 3 ≤ maxLen by unfold maxLen; decide)⟩
  · simp [Cd.pushC] at hz
    subst hz
    exact hI _ (by decide) (by decide)
  · simp [Cd.pushC] at hz
  · simp [Cd.pushC] at hx
    rcases hx with rfl | rfl | rfl
    · exact ⟨hI 1 (by decide) (by decide), hn, hI 5 (by decide) (by decide)⟩
    · exact ⟨hI _ (by decide) (by decide), hI _ (by decide) (by decide), hI _ (by decide) (by decide)⟩
    · exact ⟨hI _ (by decide) (by decide), hI _ (by decide) (by decide), hI _ (by decide) (by decide)⟩

theorem u64w (n : Int) : IntKind.u64.wrap n = n % 18446744073709551616 := by rfl
theorem not64 (b : Nat) (h : b < 18446744073709551616) : (18446744073709551615 ^^^ b : Nat) = 18446744073709551615 - b := by
  have e : (BitVec.allOnes 64 ^^^ BitVec.ofNat 64 b) = ~~~ (BitVec.ofNat 64 b) := BitVec.allOnes_xor
  have e2 := congrArg BitVec.toNat e
  rw [BitVec.toNat_xor, BitVec.toNat_not, BitVec.toNat_allOnes, BitVec.toNat_ofNat, Nat.mod_eq_of_lt (by omega)] at e2
  exact e2
theorem zig_pos (n : Int) (h : Cd.I64 n) (h0 : ¬ n < 0) : IntKind.u64.wrap (IntKind.u64.wrap n * 2) = ((Cd.zig n : Nat) : Int) := by
  unfold Cd.I64 at h
  unfold Cd.zig
  rw [u64w, u64w, if_pos (by omega)]
  omega
theorem zig_neg (n : Int) (h : Cd.I64 n) (h0 : n < 0) : bits .xor .u64 IntKind.u64.max (IntKind.u64.wrap (IntKind.u64.wrap n * 2)) = ((Cd.zig n : Nat) : Int) := by
  unfold Cd.I64 at h
  have e : IntKind.u64.wrap (IntKind.u64.wrap n * 2) = (((18446744073709551616 + 2 * n).toNat : Nat) : Int) := by
    rw [u64w, u64w]
    omega
  rw [e, show IntKind.u64.max = ((18446744073709551615 : Nat) : Int) from rfl, u64_xor_nat _ _ (by decide) (by omega), not64 _ (by omega)]
  unfold Cd.zig
  rw [if_neg (by omega)]
  omega
theorem bytes_up {z : Nat} (h : ¬ z < 128) : (Cd.bytes z).length = (Cd.bytes (z / 128)).length + 1 := by rw [Cd.bytes_big h]; simp
theorem bytes_pos (z : Nat) : 1 ≤ (Cd.bytes z).length := by
  have := Cd.bytes_ne z
  have := List.length_pos_iff.2 this
  omega

end Go.Proofs.YtfbhflpjhbemlaaGreat

/- Stage 19: metronomeref19.number (written by mkceq.py). -/
namespace Go.Proofs.YtfbhflpjhbemlaaGreat
open Go.RowKit Go.Maps Go.WideMaps

theorem info_u8 : (Tryz.prog.info? 5).map (fun i => (i.zero, i.size, i.bytes)) = some (some (.int .u8 0), 1, 1) := by kernel_rfl
/-- one's own memory written, behind what was there at first -/
theorem grown_over {w w2 w3 : World} {row : Option Nat} (h : w.grownBy w2 none) (g : w2.grownBy w3 row) (hr : ∀ k, row = some k → w.heap.size ≤ k) : w.grownBy w3 none := by
  refine ⟨g.os.trans h.os, g.tape.trans h.tape, g.output.trans h.output, Nat.le_trans h.size g.size, fun j hj _ => ?_⟩
  have h2 := h.size
  rw [g.block j (by omega) (fun e => by have := hr _ e.symm; omega), h.block j hj (by simp)]

set_option maxHeartbeats 4000000 in
set_option maxRecDepth 20000 in
theorem rnumber_any (w : World) (n : Int) (hn : Cd.I64 n) :
    Calls Tryz.prog 28 #[.int .i64 n] w fun e w' => w.grownBy w' none ∧ ∃ v, e = .returned v ∧ w'.ownsRow w.heap.size 5 1 v (Cd.num n).length (byteC (Cd.num n)) := by
  obtain ⟨i0, hi, hz0, hzs, hzb⟩ := info_parts info_u8
  have HNN := Lib.hid hn
  clear hn
  have HZN : Hid (Cd.num n = Cd.bytes (Cd.zig n)) := Lib.hid rfl
  by_cases h0 : n < 0
  · have d1 : decide (n < 0) = true := by rw [decide_eq_true_iff]; exact h0
    have HZ := Lib.hid h0
    clear h0
    go_enter Tryz.func28, Tryz.ntmps28
    go_wp2
    rw [zig_neg n HNN.out (by have := HZ.out; omega)]
    obtain ⟨z0, hz0'⟩ : ∃ z0, z0 = Cd.zig n := ⟨_, rfl⟩
    have hzl : z0 < 18446744073709551616 := by rw [hz0']; exact Cd.zig_lt HNN.out
    have HL10 : Hid ((Cd.bytes z0).length ≤ 10) := Lib.hid (by rw [hz0']; exact Cd.num_len HNN.out)
    rw [← hz0'] at HZN ⊢
    clear hz0' d1 HZ
    go_loopw [3, 4] (fun zv bv wr => ∃ (z : Nat) (p : List UInt8), zv = .int .u64 (z : Int) ∧ z < 18446744073709551616 ∧ Hid (wr.ownsRow w.heap.size 5 1 bv p.length (byteC p) ∧ p ++ Cd.bytes z = Cd.bytes z0 ∧ w.grownBy wr none)) (fun zv _ _ => (intOf zv).toNat)
    case atStart => exact ⟨z0, [], rfl, hzl, Lib.hid ⟨World.ownsRow_nil _ _ _ _, rfl, World.grownBy.refl w none⟩⟩
    case round =>
      obtain ⟨z, p, rfl, hz, HP⟩ := hrel
      clear hzl
      obtain ⟨a, c, rfl, -⟩ := BytesAt.own HP.out.1
      by_cases h1 : z < 128
      · have e1 : decide ((128 : Int) ≤ (z : Int)) = false := by rw [decide_eq_false_iff_not]; omega
        have hB : byteC [UInt8.ofNat z] = [.int .u8 ((z : Int))] := by unfold byteC; simp; omega
        have hz1 := HP.out.1.alloc (.cells #[.int .u8 ((z : Int))] 5)
        have HLP := Lib.hid (show p.length ≤ 10 by have := congrArg List.length HP.out.2.1; rw [List.length_append] at this; have := HL10.out; omega)
        go_wp2_with (at_builtin; refine Hid.out ?_)
        refine Lib.hid ?_
        refine wpList_append_own _ rfl _ _ 22 rfl w.heap.size 5 i0 _ 1 1 Tryz.underlying22 hi hz0 hzs hzb rfl (by decide) _ p.length (byteC p) rfl hz1 ⟨wr.heap.size, 0, none⟩ 1 1 [.int .u8 ((z : Int))] rfl rfl (row_cellz (heap_alloc_new wr _)) (by intro u hu; simp at hu; subst hu; rfl) (by have := HLP.out; unfold maxLen; omega) (by have := HLP.out; omega) (by have := HP.out.2.2.size; rw [World.size_alloc]; omega) ?_
        intro v' w3 hown' hgr _
        have hgr2 : w.grownBy w3 none := grown_over (HP.out.2.2.trans (World.grownBy_alloc wr _ none)) hgr (fun k e => (hz1.lt k e).1)
        rw [← hB, show byteC p ++ byteC [UInt8.ofNat z] = byteC (p ++ [UInt8.ofNat z]) by unfold byteC; simp, show p.length + 1 = (p ++ [UInt8.ofNat z]).length by simp] at hown'
        have HF := Lib.hid (And.intro hgr2 hown')
        clear hown' hgr hgr2 hz1 hB
        have HE : Hid (p ++ [UInt8.ofNat z] = Cd.num n) := Lib.hid (by rw [HZN.out, ← HP.out.2.1, Cd.bytes_small h1])
        go_wp2
        go_ret
        refine ⟨HF.out.1, v', rfl, ?_⟩
        rw [← HE.out]
        exact HF.out.2
      · have e1 : decide ((128 : Int) ≤ (z : Int)) = true := by rw [decide_eq_true_iff]; omega
        have m1 : ((z : Int).tmod 128) = ((z % 128 : Nat) : Int) := (Int.ofNat_tmod z 128).symm
        have m2 : ((z : Int).tdiv 128) = ((z / 128 : Nat) : Int) := (Int.ofNat_tdiv z 128).symm
        have hB : byteC [UInt8.ofNat (z % 128 + 128)] = [.int .u8 ((z : Int) % 128 + 128)] := by unfold byteC; simp; omega
        have hz1 := HP.out.1.alloc (.cells #[.int .u8 ((z : Int) % 128 + 128)] 5)
        have HLP := Lib.hid (show p.length ≤ 10 by have := congrArg List.length HP.out.2.1; rw [List.length_append] at this; have := HL10.out; omega)
        go_wp2_with (at_builtin; refine Hid.out ?_)
        refine Lib.hid ?_
        refine wpList_append_own _ rfl _ _ 22 rfl w.heap.size 5 i0 _ 1 1 Tryz.underlying22 hi hz0 hzs hzb rfl (by decide) _ p.length (byteC p) rfl hz1 ⟨wr.heap.size, 0, none⟩ 1 1 [.int .u8 ((z : Int) % 128 + 128)] rfl rfl (row_cellz (heap_alloc_new wr _)) (by intro u hu; simp at hu; subst hu; rfl) (by have := HLP.out; unfold maxLen; omega) (by have := HLP.out; omega) (by have := HP.out.2.2.size; rw [World.size_alloc]; omega) ?_
        intro v' w3 hown' hgr _
        have hgr2 : w.grownBy w3 none := grown_over (HP.out.2.2.trans (World.grownBy_alloc wr _ none)) hgr (fun k e => (hz1.lt k e).1)
        rw [← hB, show byteC p ++ byteC [UInt8.ofNat (z % 128 + 128)] = byteC (p ++ [UInt8.ofNat (z % 128 + 128)]) by unfold byteC; simp, show p.length + 1 = (p ++ [UInt8.ofNat (z % 128 + 128)]).length by simp] at hown'
        have HF := Lib.hid (And.intro hgr2 hown')
        clear hown' hgr hgr2 hz1 hB
        have HE : Hid (p ++ [UInt8.ofNat (z % 128 + 128)] ++ Cd.bytes (z / 128) = Cd.bytes z0) := Lib.hid (by rw [← HP.out.2.1, Cd.bytes_big h1]; simp)
        go_wp2
        refine ⟨⟨z / 128, p ++ [UInt8.ofNat (z % 128 + 128)], by go_num, by omega, Lib.hid ⟨HF.out.2, HE.out, HF.out.1⟩⟩, ?_⟩
        simp [intOf]
        omega
  · have d1 : decide (n < 0) = false := by rw [decide_eq_false_iff_not]; exact h0
    have HZ := Lib.hid h0
    clear h0
    go_enter Tryz.func28, Tryz.ntmps28
    go_wp2
    rw [zig_pos n HNN.out (by have := HZ.out; omega)]
    obtain ⟨z0, hz0'⟩ : ∃ z0, z0 = Cd.zig n := ⟨_, rfl⟩
    have hzl : z0 < 18446744073709551616 := by rw [hz0']; exact Cd.zig_lt HNN.out
    have HL10 : Hid ((Cd.bytes z0).length ≤ 10) := Lib.hid (by rw [hz0']; exact Cd.num_len HNN.out)
    rw [← hz0'] at HZN ⊢
    clear hz0' d1 HZ
    go_loopw [3, 4] (fun zv bv wr => ∃ (z : Nat) (p : List UInt8), zv = .int .u64 (z : Int) ∧ z < 18446744073709551616 ∧ Hid (wr.ownsRow w.heap.size 5 1 bv p.length (byteC p) ∧ p ++ Cd.bytes z = Cd.bytes z0 ∧ w.grownBy wr none)) (fun zv _ _ => (intOf zv).toNat)
    case atStart => exact ⟨z0, [], rfl, hzl, Lib.hid ⟨World.ownsRow_nil _ _ _ _, rfl, World.grownBy.refl w none⟩⟩
    case round =>
      obtain ⟨z, p, rfl, hz, HP⟩ := hrel
      clear hzl
      obtain ⟨a, c, rfl, -⟩ := BytesAt.own HP.out.1
      by_cases h1 : z < 128
      · have e1 : decide ((128 : Int) ≤ (z : Int)) = false := by rw [decide_eq_false_iff_not]; omega
        have hB : byteC [UInt8.ofNat z] = [.int .u8 ((z : Int))] := by unfold byteC; simp; omega
        have hz1 := HP.out.1.alloc (.cells #[.int .u8 ((z : Int))] 5)
        have HLP := Lib.hid (show p.length ≤ 10 by have := congrArg List.length HP.out.2.1; rw [List.length_append] at this; have := HL10.out; omega)
        go_wp2_with (at_builtin; refine Hid.out ?_)
        refine Lib.hid ?_
        refine wpList_append_own _ rfl _ _ 22 rfl w.heap.size 5 i0 _ 1 1 Tryz.underlying22 hi hz0 hzs hzb rfl (by decide) _ p.length (byteC p) rfl hz1 ⟨wr.heap.size, 0, none⟩ 1 1 [.int .u8 ((z : Int))] rfl rfl (row_cellz (heap_alloc_new wr _)) (by intro u hu; simp at hu; subst hu; rfl) (by have := HLP.out; unfold maxLen; omega) (by have := HLP.out; omega) (by have := HP.out.2.2.size; rw [World.size_alloc]; omega) ?_
        intro v' w3 hown' hgr _
        have hgr2 : w.grownBy w3 none := grown_over (HP.out.2.2.trans (World.grownBy_alloc wr _ none)) hgr (fun k e => (hz1.lt k e).1)
        rw [← hB, show byteC p ++ byteC [UInt8.ofNat z] = byteC (p ++ [UInt8.ofNat z]) by unfold byteC; simp, show p.length + 1 = (p ++ [UInt8.ofNat z]).length by simp] at hown'
        have HF := Lib.hid (And.intro hgr2 hown')
        clear hown' hgr hgr2 hz1 hB
        have HE : Hid (p ++ [UInt8.ofNat z] = Cd.num n) := Lib.hid (by rw [HZN.out, ← HP.out.2.1, Cd.bytes_small h1])
        go_wp2
        go_ret
        refine ⟨HF.out.1, v', rfl, ?_⟩
        rw [← HE.out]
        exact HF.out.2
      · have e1 : decide ((128 : Int) ≤ (z : Int)) = true := by rw [decide_eq_true_iff]; omega
        have m1 : ((z : Int).tmod 128) = ((z % 128 : Nat) : Int) := (Int.ofNat_tmod z 128).symm
        have m2 : ((z : Int).tdiv 128) = ((z / 128 : Nat) : Int) := (Int.ofNat_tdiv z 128).symm
        have hB : byteC [UInt8.ofNat (z % 128 + 128)] = [.int .u8 ((z : Int) % 128 + 128)] := by unfold byteC; simp; omega
        have hz1 := HP.out.1.alloc (.cells #[.int .u8 ((z : Int) % 128 + 128)] 5)
        have HLP := Lib.hid (show p.length ≤ 10 by have := congrArg List.length HP.out.2.1; rw [List.length_append] at this; have := HL10.out; omega)
        go_wp2_with (at_builtin; refine Hid.out ?_)
        refine Lib.hid ?_
        refine wpList_append_own _ rfl _ _ 22 rfl w.heap.size 5 i0 _ 1 1 Tryz.underlying22 hi hz0 hzs hzb rfl (by decide) _ p.length (byteC p) rfl hz1 ⟨wr.heap.size, 0, none⟩ 1 1 [.int .u8 ((z : Int) % 128 + 128)] rfl rfl (row_cellz (heap_alloc_new wr _)) (by intro u hu; simp at hu; subst hu; rfl) (by have := HLP.out; unfold maxLen; omega) (by have := HLP.out; omega) (by have := HP.out.2.2.size; rw [World.size_alloc]; omega) ?_
        intro v' w3 hown' hgr _
        have hgr2 : w.grownBy w3 none := grown_over (HP.out.2.2.trans (World.grownBy_alloc wr _ none)) hgr (fun k e => (hz1.lt k e).1)
        rw [← hB, show byteC p ++ byteC [UInt8.ofNat (z % 128 + 128)] = byteC (p ++ [UInt8.ofNat (z % 128 + 128)]) by unfold byteC; simp, show p.length + 1 = (p ++ [UInt8.ofNat (z % 128 + 128)]).length by simp] at hown'
        have HF := Lib.hid (And.intro hgr2 hown')
        clear hown' hgr hgr2 hz1 hB
        have HE : Hid (p ++ [UInt8.ofNat (z % 128 + 128)] ++ Cd.bytes (z / 128) = Cd.bytes z0) := Lib.hid (by rw [← HP.out.2.1, Cd.bytes_big h1]; simp)
        go_wp2
        refine ⟨⟨z / 128, p ++ [UInt8.ofNat (z % 128 + 128)], by go_num, by omega, Lib.hid ⟨HF.out.2, HE.out, HF.out.1⟩⟩, ?_⟩
        simp [intOf]
        omega

end Go.Proofs.YtfbhflpjhbemlaaGreat

/- Package code: zigzag; numbers as bytes behind bytes. -/
namespace Go.Proofs.YtfbhflpjhbemlaaGreat
open Go.RowKit Go.Maps Go.WideMaps

theorem zz (n : Int) (h : Cd.I64 n) : bits .xor .u64 (IntKind.u64.wrap (IntKind.u64.wrap n * 2)) (IntKind.u64.wrap (n / 9223372036854775808)) = ((Cd.zig n : Nat) : Int) := by
  have h' := h
  unfold Cd.I64 at h'
  by_cases h0 : n < 0
  · have e : IntKind.u64.wrap (IntKind.u64.wrap n * 2) = (((18446744073709551616 + 2 * n).toNat : Nat) : Int) := by
      rw [u64w, u64w]
      omega
    have e2 : IntKind.u64.wrap (n / 9223372036854775808) = ((18446744073709551615 : Nat) : Int) := by
      rw [u64w]
      omega
    rw [e, e2, u64_xor_nat _ _ (by omega) (by decide), Nat.xor_comm, not64 _ (by omega)]
    unfold Cd.zig
    rw [if_neg (by omega)]
    omega
  · have e2 : IntKind.u64.wrap (n / 9223372036854775808) = ((0 : Nat) : Int) := by
      rw [u64w]
      omega
    rw [zig_pos n h h0, e2, u64_xor_nat _ _ (Cd.zig_lt h) (by decide), Nat.xor_zero]
theorem zigzag_any (n : Int) (hn : Cd.I64 n) (w : World) : Calls Tryz.prog 54 #[.int .i64 n] w fun e w' => e = .returned (.int .u64 ((Cd.zig n : Nat) : Int)) ∧ w' = w := by
  have HZ := Lib.hid (zz n hn)
  go_enter Tryz.func54, Tryz.ntmps54
  go_wp2
  rw [HZ.out]
  go_ret
  exact ⟨rfl, rfl⟩
theorem or128 : ∀ a : Fin 256, (a.val ||| 128) = a.val % 128 + 128 := by decide +kernel
theorem or_low (z : Nat) : bits .or .u8 (IntKind.u8.wrap (z : Int)) 128 = ((z % 128 + 128 : Nat) : Int) := by
  have e : IntKind.u8.wrap (z : Int) = ((z % 256 : Nat) : Int) := by
    show (z : Int) % 256 = _
    omega
  rw [e, show (128 : Int) = ((128 : Nat) : Int) from rfl, u8_or_nat _ _ (by omega) (by decide), or128 ⟨z % 256, by omega⟩]
  congr 1
  show z % 256 % 128 + 128 = _
  omega

theorem nums_len : ∀ (l : List Int), (∀ n ∈ l, Cd.I64 n) → (Cd.nums l).length ≤ 10 * l.length
  | [], _ => by simp [Cd.nums]
  | a :: l, h => by
    have h1 := Cd.num_len (h a (by simp))
    have h2 := nums_len l (fun n hn => h n (by simp [hn]))
    rw [Cd.nums_cons, List.length_append, List.length_cons]
    omega
theorem owns_base {w : World} {B B' : Nat} {T : TypeId} {s : Nat} {v : Value} {n : Nat} {xs : List Value} (h : w.ownsRow B T s v n xs) (hb : B' ≤ B) : w.ownsRow B' T s v n xs := by
  refine ⟨h.1, ?_⟩
  rcases h.2 with h1 | ⟨g, cap, cur, h1, h2, h3⟩
  · exact .inl h1
  · exact .inr ⟨g, cap, cur, h1, by omega, h3⟩
/-- bytes of one's own, or new ones without room -/
def Ow (w : World) (B : Nat) (v : Value) (p : List UInt8) : Prop := w.ownsRow B 5 1 v p.length (byteC p) ∨ ∃ g, v = .slice (some ⟨g, 0, none⟩) p.length p.length ∧ B ≤ g ∧ g < w.heap.size ∧ BytesAt w (some ⟨g, 0, none⟩) p
theorem Ow.slice {w : World} {B : Nat} {v : Value} {p : List UInt8} (h : Ow w B v p) : ∃ a c, v = .slice a p.length c := by
  rcases h with h | ⟨g, h, _⟩
  · obtain ⟨a, c, h, _⟩ := BytesAt.own h
    exact ⟨a, c, h⟩
  · exact ⟨_, _, h⟩
theorem Ow.lt {w : World} {B : Nat} {v : Value} {p : List UInt8} (h : Ow w B v p) (k : Nat) (e : v.ownBlock = some k) : B ≤ k ∧ k < w.heap.size := by
  rcases h with h | ⟨g, rfl, h1, h2, _⟩
  · exact h.lt k e
  · obtain rfl := Option.some.inj e
    exact ⟨h1, h2⟩
theorem Ow.alloc {w : World} {B : Nat} {v : Value} {p : List UInt8} (h : Ow w B v p) (o : Obj) : Ow (w.alloc o) B v p := by
  rcases h with h | ⟨g, h0, h1, h2, h3⟩
  · exact .inl (h.alloc o)
  · refine .inr ⟨g, h0, h1, by rw [World.size_alloc]; omega, fun i b hb => ?_⟩
    obtain ⟨g', o', e, hc⟩ := h3 i b hb
    exact ⟨g', o', e, (World.grownBy_alloc w o none).cell hc (by simp)⟩
theorem bytes_at_byteC {w : World} {g : Nat} {p : List UInt8} (h : BytesAt w (some ⟨g, 0, none⟩) p) : ∀ j u, (byteC p)[j]? = some u → w.cell? ((⟨g, 0, none⟩ : Addr).add j) = some u := fun j u hj => by
  unfold byteC at hj
  rw [List.getElem?_map] at hj
  cases hp : p[j]? with
  | none => rw [hp] at hj; cases hj
  | some b =>
    rw [hp] at hj
    obtain rfl := Option.some.inj hj
    obtain ⟨g', o', e, hc⟩ := h j b hp
    cases e
    rw [Addr.add_mid]
    exact hc
/-- one byte more -/
theorem wpList_append_ow {ops : Array Oper} {rest : List Oper} {o : Oper} {a : Act} {Q : Exit → Act → World → Prop} {w : World} (hgd : o.guard = none) (s x : Operand)
    (ho : o.op = .call { callee := .builtin .append, args := #[s, x], argTypes := #[22, 22] }) (B : Nat) (v : Value) (p : List UInt8) (hs : a.eval s = v) (hown : Ow w B v p)
    (ad : Addr) (y : UInt8) (hx : a.eval x = .slice (some ad) 1 1) (hnews : w.cell? (ad.add 0) = some (.int .u8 y.toNat)) (hl : p.length ≤ 1000000000) (hbase : B ≤ w.heap.size)
    (h : ∀ v' w', w'.ownsRow B 5 1 v' (p ++ [y]).length (byteC (p ++ [y])) → w.grownBy w' v.ownBlock → (v'.ownBlock = v.ownBlock ∨ ∃ k, v'.ownBlock = some k ∧ w.heap.size ≤ k) → wpList Tryz.prog ops Q rest (a.put o.dst v') w') :
    wpList Tryz.prog ops Q (o :: rest) a w := by
  obtain ⟨i0, hi, hz0, hzs, hzb⟩ := info_parts info_u8
  have e1 : byteC p ++ [Value.int .u8 y.toNat] = byteC (p ++ [y]) := by unfold byteC; simp
  have e2 : p.length + 1 = (p ++ [y]).length := by simp
  have hn : ∀ j u, [Value.int .u8 (y.toNat : Int)][j]? = some u → w.cell? (ad.add j) = some u := fun j u hj => by
    cases j with
    | zero => simp at hj; subst hj; exact hnews
    | succ j => simp at hj
  rcases hown with hown | ⟨g, rfl, h1, h2, h3⟩
  · refine wpList_append_own_at w hgd s x 22 ho B 5 i0 _ 1 1 Tryz.underlying22 hi hz0 hzs hzb rfl (by decide) v p.length (byteC p) hs hown ad 1 1 [.int .u8 y.toNat] hx rfl hn (by intro u hu; simp at hu; subst hu; rfl) (by unfold maxLen; omega) (by omega) hbase ?_
    intro v' w' ho' hg' _ hat
    rw [e1, e2] at ho'
    refine h v' w' ho' hg' ?_
    rcases hat with hat | hat
    · exact .inl hat
    · exact .inr ⟨_, hat, Nat.le_refl _⟩
  · refine wpList_append_grows w hgd s x 22 ho 5 i0 _ 1 1 Tryz.underlying22 hi hz0 hzs hzb rfl (by decide) _ p.length p.length (byteC p) hs (fun e => by cases e) (by unfold byteC; simp) (fun b hb j u hj => ?_) ad 1 1 [.int .u8 y.toNat] hx rfl hn (by intro u hu; simp at hu; subst hu; rfl) (by omega) (by unfold maxLen; omega) (by omega) ?_
    · cases hb
      exact bytes_at_byteC h3 j u hj
    · intro v' w' ho' hg'
      rw [e1, e2] at ho'
      have hg2 : w.grownBy w' (Value.slice (some ⟨g, 0, none⟩) p.length p.length).ownBlock := ⟨hg'.os, hg'.tape, hg'.output, hg'.size, fun k hk _ => hg'.block k hk (by simp)⟩
      refine h v' w' (owns_base ho' hbase) hg2 (.inr ?_)
      rcases ho'.2 with ⟨_, h0⟩ | ⟨g', cap, cur, rfl, h5, _⟩
      · simp at h0
      · exact ⟨g', rfl, h5⟩
/-- numbers in memory, and bytes of one's own apart from them -/
structure An (W0 w : World) (na : Option Addr) (l : List Int) (v : Value) (p : List UInt8) : Prop where
  grown : W0.grownBy w none
  own : Ow w W0.heap.size v p
  nums : NumsAt w na l
  ne : ∀ b o, na = some ⟨b, o, none⟩ → l ≠ [] → v.ownBlock ≠ some b
theorem An.step {W0 w w3 : World} {na : Option Addr} {l : List Int} {v v' : Value} {p p' : List UInt8} (h : An W0 w na l v p) {o : Obj} (hg : (w.alloc o).grownBy w3 v.ownBlock) (hown : w3.ownsRow W0.heap.size 5 1 v' p'.length (byteC p')) (hv : v'.ownBlock = v.ownBlock ∨ ∃ k, v'.ownBlock = some k ∧ (w.alloc o).heap.size ≤ k) : An W0 w3 na l v' p' := by
  have hlt : ∀ k, v.ownBlock = some k → W0.heap.size ≤ k := fun k e => (h.own.lt k e).1
  refine ⟨grown_over (h.grown.trans (World.grownBy_alloc w o none)) hg hlt, .inl hown, fun i n hi => ?_, fun b o' e hl => ?_⟩
  · obtain ⟨b, o', e, hc⟩ := h.nums i n hi
    have hne := h.ne b o' e (fun e2 => by rw [e2] at hi; simp at hi)
    exact ⟨b, o', e, hg.cell ((World.grownBy_alloc w o none).cell hc (by simp)) (fun e2 => hne e2.symm)⟩
  · rcases hv with e2 | ⟨k, e2, hk⟩
    · rw [e2]; exact h.ne b o' e hl
    · rw [e2]
      cases l with
      | nil => exact absurd rfl hl
      | cons a l =>
        obtain ⟨b2, o2, e3, hc⟩ := h.nums 0 a rfl
        rw [e] at e3
        cases e3
        have := lt_of_cell? hc
        rw [World.size_alloc] at hk
        intro e4
        have := Option.some.inj e4
        omega

/-- what appendNumbers leaves -/
def ApP (W0 : World) (v : Value) (p : List UInt8) (l : List Int) (w : World) (e : Ending) (w' : World) : Prop := ∃ v', e = .returned v' ∧ W0.grownBy w' none ∧ Ow w' W0.heap.size v' (p ++ Cd.nums l) ∧ ((l ≠ [] ∨ w.ownsRow W0.heap.size 5 1 v p.length (byteC p)) → w'.ownsRow W0.heap.size 5 1 v' (p ++ Cd.nums l).length (byteC (p ++ Cd.nums l)))

set_option maxHeartbeats 4000000 in
set_option maxRecDepth 20000 in
theorem appendNumbers_any (W0 : World) (w : World) (na : Option Addr) (nc : Nat) (l : List Int) (v : Value) (p : List UInt8) (h : An W0 w na l v p) (hI : ∀ n ∈ l, Cd.I64 n) (hb : p.length + 10 * l.length ≤ 1000000000) :
    Calls Tryz.prog 35 #[v, .slice na l.length nc] w (ApP W0 v p l w) := by
  have HI := Lib.hid (And.intro hI hb)
  have HA := Lib.hid h
  clear h hI
  obtain ⟨N, hN⟩ : ∃ N, N = l.length := ⟨_, rfl⟩
  rw [← hN] at hb ⊢
  have HN := Lib.hid hN
  clear hN
  have hzg := fun n hn V => zigzag_any n hn V
  have hN1 : N ≤ 9223372036854775807 := by omega
  clear hb
  obtain ⟨a0, c0, rfl⟩ := HA.out.own.slice
  go_enter Tryz.func35, Tryz.ntmps35
  go_wp2
  go_loopw [0, 10] (fun bv iv wr => ∃ (t : Nat), t ≤ N ∧ iv = .int .i64 (t : Int) ∧ Hid (An W0 wr na l bv (p ++ Cd.nums (l.take t)) ∧ ((0 < t ∨ w.ownsRow W0.heap.size 5 1 (.slice a0 p.length c0) p.length (byteC p)) → wr.ownsRow W0.heap.size 5 1 bv (p ++ Cd.nums (l.take t)).length (byteC (p ++ Cd.nums (l.take t)))))) (fun _ i _ => N - (intOf i).toNat)
  case atStart => exact ⟨0, Nat.zero_le _, rfl, Lib.hid ⟨by simpa [Cd.nums] using HA.out, fun h => by
    rcases h with h | h
    · omega
    · simpa [Cd.nums] using h⟩⟩
  case round =>
    obtain ⟨t, ht, rfl, HT⟩ := hrel
    obtain ⟨P0, hP0⟩ : ∃ P0, P0 = p ++ Cd.nums (l.take t) := ⟨_, rfl⟩
    rw [← hP0] at HT
    obtain ⟨a1, c1, hbv⟩ := HT.out.1.own.slice
    subst hbv
    have HP0 := Lib.hid hP0
    clear hP0
    by_cases hlt : t < N
    · obtain ⟨x, hx⟩ : ∃ x, l[t]? = some x := ⟨_, List.getElem?_eq_getElem (by rw [← HN.out]; exact hlt)⟩
      obtain ⟨b1, o1, rfl, hc1⟩ := HT.out.1.nums t x hx
      have hx64 := HI.out.1 x (List.mem_iff_getElem?.2 ⟨_, hx⟩)
      have hzx := fun V => hzg x hx64 V
      have HX := Lib.hid (And.intro hx hx64)
      clear hx hx64
      go_wp2_with (go_at_call 54; refine (hzx _).mono ?_; rintro e w' ⟨rfl, hw'⟩; obtain rfl := hw'.symm)
      have HNA := Lib.hid HT.out.1
      obtain ⟨z0, hz0'⟩ : ∃ z0, z0 = Cd.zig x := ⟨_, rfl⟩
      have hzl : z0 < 18446744073709551616 := by rw [hz0']; exact Cd.zig_lt HX.out.2
      have HL10 : Hid ((Cd.bytes z0).length ≤ 10) := Lib.hid (by rw [hz0']; exact Cd.num_len HX.out.2)
      have HZN : Hid (Cd.num x = Cd.bytes z0) := Lib.hid (by rw [hz0']; rfl)
      have HLP0 : Hid (P0.length + 10 ≤ 1000000000) := Lib.hid (by
        have h1 := HI.out.2
        have h2 := HN.out
        have h3 := nums_len (l.take t) (fun n hn => HI.out.1 n (List.mem_of_mem_take hn))
        rw [HP0.out, List.length_append]
        rw [List.length_take] at h3
        omega)
      rw [← hz0']
      clear hz0' hc1 hzx
      go_loopw [0, 7] (fun bv zv wr2 => ∃ (z : Nat) (q : List UInt8), zv = .int .u64 (z : Int) ∧ z < 18446744073709551616 ∧ Hid (An W0 wr2 (some ⟨b1, o1, none⟩) l bv (P0 ++ q) ∧ q ++ Cd.bytes z = Cd.bytes z0)) (fun _ zv _ => (intOf zv).toNat)
      case atStart => exact ⟨z0, [], rfl, hzl, Lib.hid ⟨by simpa using HT.out.1, rfl⟩⟩
      case round =>
        obtain ⟨z, q, rfl, hz, HP⟩ := hrel
        clear hzl
        by_cases h1 : z < 128
        · have e1 : decide ((128 : Int) ≤ (z : Int)) = false := by rw [decide_eq_false_iff_not]; omega
          have ew : IntKind.u8.wrap (z : Int) = (z : Int) := by show (z : Int) % 256 = _; omega
          have hB : ((z : Int) : Int) = ((UInt8.ofNat z).toNat : Int) := by simp; omega
          have hz1 := HP.out.1.own.alloc (.cells #[.int .u8 ((z : Int))] 5)
          have HLP := Lib.hid (show (P0 ++ q).length ≤ 1000000000 by have h1 := congrArg List.length HP.out.2; rw [List.length_append] at h1; have h2 := HL10.out; have h3 := HLP0.out; rw [List.length_append]; omega)
          obtain ⟨Q0, hQ0⟩ : ∃ Q0, Q0 = P0 ++ q := ⟨_, rfl⟩
          rw [← hQ0] at HP HLP hz1
          obtain ⟨a2, c2, hbv⟩ := HP.out.1.own.slice
          subst hbv
          have HQ0 := Lib.hid hQ0
          clear hQ0
          have HBY := Lib.hid hB
          clear hB
          go_wp2_with (at_builtin; refine Hid.out ?_)
          refine Lib.hid ?_
          refine wpList_append_ow rfl _ _ rfl W0.heap.size _ Q0 rfl hz1 ⟨wr.heap.size, 0, none⟩ (UInt8.ofNat z) rfl (by rw [← HBY.out]; exact row_cellz (heap_alloc_new wr _) 0 _ rfl) HLP.out (by have := HP.out.1.grown.size; rw [World.size_alloc]; omega) ?_
          intro v' w3 hown' hgr hat
          have HOWN := Lib.hid hown'
          have HF := Lib.hid (HP.out.1.step hgr hown' hat)
          clear hown' hgr hat hz1
          have HE : Hid (Q0 ++ [UInt8.ofNat z] = p ++ Cd.nums (l.take (t + 1))) := Lib.hid (by
            rw [List.take_add_one, HX.out.1, HQ0.out, HP0.out]
            simp only [Option.toList_some, Cd.nums_append]
            have h2 := HP.out.2
            rw [Cd.bytes_small h1] at h2
            rw [Cd.nums_cons, HZN.out, ← h2]
            simp [Cd.nums])
          go_wp2
          refine ⟨⟨t + 1, by omega, by go_num, Lib.hid ?_⟩, by simp [intOf]; omega⟩
          rw [← HE.out]
          exact ⟨HF.out, fun _ => HOWN.out⟩
        · have e1 : decide ((128 : Int) ≤ (z : Int)) = true := by rw [decide_eq_true_iff]; omega
          have hor : bits .or .u8 ((z : Int) % 256) 128 = (z : Int) % 128 + 128 := by
            have := or_low z
            rw [u8w] at this
            rw [this]
            omega
          have hB : ((z : Int) % 128 + 128 : Int) = ((UInt8.ofNat (z % 128 + 128)).toNat : Int) := by simp; omega
          have hz1 := HP.out.1.own.alloc (.cells #[.int .u8 ((z : Int) % 128 + 128)] 5)
          have HLP := Lib.hid (show (P0 ++ q).length ≤ 1000000000 by have h1 := congrArg List.length HP.out.2; rw [List.length_append] at h1; have h2 := HL10.out; have h3 := HLP0.out; rw [List.length_append]; omega)
          obtain ⟨Q0, hQ0⟩ : ∃ Q0, Q0 = P0 ++ q := ⟨_, rfl⟩
          rw [← hQ0] at HP HLP hz1
          obtain ⟨a2, c2, hbv⟩ := HP.out.1.own.slice
          subst hbv
          have HQ0 := Lib.hid hQ0
          clear hQ0
          have HBY := Lib.hid hB
          clear hB
          go_wp2_with (at_builtin; refine Hid.out ?_)
          refine Lib.hid ?_
          refine wpList_append_ow rfl _ _ rfl W0.heap.size _ Q0 rfl hz1 ⟨wr.heap.size, 0, none⟩ (UInt8.ofNat (z % 128 + 128)) rfl (by rw [← HBY.out]; exact row_cellz (heap_alloc_new wr _) 0 _ rfl) HLP.out (by have := HP.out.1.grown.size; rw [World.size_alloc]; omega) ?_
          intro v' w3 hown' hgr hat
          have HOWN := Lib.hid hown'
          have HF := Lib.hid (HP.out.1.step hgr hown' hat)
          clear hown' hgr hat hz1
          have HE : Hid (q ++ [UInt8.ofNat (z % 128 + 128)] ++ Cd.bytes (z / 128) = Cd.bytes z0) := Lib.hid (by rw [← HP.out.2, Cd.bytes_big h1]; simp)
          have HF2 : Hid (An W0 w3 (some ⟨b1, o1, none⟩) l v' (P0 ++ (q ++ [UInt8.ofNat (z % 128 + 128)]))) := Lib.hid (by
            have := HF.out
            rw [HQ0.out, List.append_assoc] at this
            exact this)
          clear HF hor
          go_wp2
          refine ⟨⟨z / 128, q ++ [UInt8.ofNat (z % 128 + 128)], by go_num, by omega, Lib.hid ⟨HF2.out, HE.out⟩⟩, ?_⟩
          simp [intOf]
          omega
    · obtain rfl : t = N := by omega
      have HF : Hid (W0.grownBy wr none ∧ Ow wr W0.heap.size (.slice a1 P0.length c1) (p ++ Cd.nums l) ∧ ((l ≠ [] ∨ w.ownsRow W0.heap.size 5 1 (.slice a0 p.length c0) p.length (byteC p)) → wr.ownsRow W0.heap.size 5 1 (.slice a1 P0.length c1) (p ++ Cd.nums l).length (byteC (p ++ Cd.nums l)))) := Lib.hid (by
        have e := HP0.out
        rw [HN.out, List.take_length] at e
        rw [← e]
        refine ⟨HT.out.1.grown, HT.out.1.own, fun h => HT.out.2 ?_⟩
        rcases h with h | h
        · left
          have := HN.out
          have := List.length_pos_iff.2 h
          omega
        · exact .inr h)
      go_wp2
      go_ret
      exact ⟨_, rfl, HF.out⟩
end Go.Proofs.YtfbhflpjhbemlaaGreat

/- Package code: bytesOf (written by mkcgb.py). -/
namespace Go.Proofs.YtfbhflpjhbemlaaGreat
open Go.RowKit Go.Maps Go.WideMaps

/-- bytes of one's own, and the box that code came in -/
structure By (W0 : World) (p : Nat) (cv : Array Value) (V : World) (v : Value) (P : List UInt8) : Prop where
  grown : W0.grownBy V none
  own : Ow V W0.heap.size v P
  box : V.heap[p]? = some (.cells cv 27 (0, 0))
  lt : p < W0.heap.size
theorem By.fresh {W0 : World} {p : Nat} {cv : Array Value} {V : World} {v : Value} {P : List UInt8} (h : By W0 p cv V v P) (l : List Int) (T : TypeId) : An W0 (V.alloc (.cells (l.map (Value.int .i64)).toArray T)) (some ⟨V.heap.size, 0, none⟩) l v P :=
  ⟨h.grown.trans (World.grownBy_alloc V _ none), h.own.alloc _, nums_row (heap_alloc_new V _), fun b o e _ h2 => by
    cases e
    have := (h.own.lt _ h2).2
    omega⟩
theorem By.old {W0 : World} {p : Nat} {cv : Array Value} {V : World} {v : Value} {P : List UInt8} (h : By W0 p cv V v P) {na : Option Addr} {l : List Int} (hn : NumsAt W0 na l) : An W0 V na l v P :=
  ⟨h.grown, h.own, hn.on h.grown, fun b o e hl h2 => by
    cases l with
    | nil => exact hl rfl
    | cons a l =>
      obtain ⟨b2, o2, e2, hc⟩ := hn 0 a rfl
      rw [e] at e2
      cases e2
      have h3 := lt_of_cell? hc
      have h4 := (h.own.lt _ h2).1
      omega⟩
theorem By.alloc {W0 : World} {p : Nat} {cv : Array Value} {V : World} {v : Value} {P : List UInt8} (h : By W0 p cv V v P) (o : Obj) : By W0 p cv (V.alloc o) v P := ⟨h.grown.trans (World.grownBy_alloc V _ none), h.own.alloc _, row_alloc h.box _, h.lt⟩
theorem By.next {W0 : World} {p : Nat} {cv : Array Value} {V V' : World} {v v' : Value} {P P' : List UInt8} (h : By W0 p cv V v P) (hb : W0.heap[p]? = some (.cells cv 27 (0, 0))) (hg : W0.grownBy V' none) (hown : Ow V' W0.heap.size v' P') : By W0 p cv V' v' P' :=
  ⟨hg, hown, (hg.block p h.lt (by simp)).trans hb, h.lt⟩

theorem An.fresh {W0 : World} {V : World} {v : Value} {P : List UInt8} (hg : W0.grownBy V none) (ho : Ow V W0.heap.size v P) (l : List Int) (T : TypeId) : An W0 (V.alloc (.cells (l.map (Value.int .i64)).toArray T)) (some ⟨V.heap.size, 0, none⟩) l v P :=
  ⟨hg.trans (World.grownBy_alloc V _ none), ho.alloc _, nums_row (heap_alloc_new V _), fun b o e _ h2 => by
    cases e
    have := (ho.lt _ h2).2
    omega⟩
theorem insL_64 {b : List Cd.Ins} (h : ∀ x ∈ b, Cd.I64 x.op ∧ Cd.I64 x.n ∧ Cd.I64 x.k) : ∀ n ∈ Cd.insL b, Cd.I64 n := fun n hn => by
  unfold Cd.insL at hn
  rw [List.mem_flatten] at hn
  obtain ⟨l, hl, hn⟩ := hn
  obtain ⟨x, hx, rfl⟩ := List.mem_map.1 hl
  simp at hn
  rcases hn with rfl | rfl | rfl
  · exact (h x hx).1
  · exact (h x hx).2.1
  · exact (h x hx).2.2

set_option maxHeartbeats 8000000 in
set_option maxRecDepth 100000 in
theorem bytesOf_any (w : World) (c : Cd.Code) (ka : Option Addr) (kc : Nat) (ia : Option Addr) (ic : Nat) (ba : Option Addr) (bc : Nat) (hc : CodeAt w c ka ia ba) (h64 : I64s c) (hK : c.kinds.length ≤ 8000) (hJ : c.init.length ≤ 8000) (hB : c.body.length ≤ 60000) :
    Calls Tryz.prog 20 #[.agg (codeV c ka kc ia ic ba bc)] w fun e w' => ∃ v, e = .returned v ∧ w.grownBy w' none ∧ w'.ownsRow w.heap.size 5 1 v (Cd.write c).length (byteC (Cd.write c)) := by
  obtain ⟨W0, hW0⟩ : ∃ W0, W0 = w.alloc (.cells (codeV c ka kc ia ic ba bc) 27) := ⟨_, rfl⟩
  have hg0 : w.grownBy W0 none := by rw [hW0]; exact World.grownBy_alloc w _ none
  have hb0 : W0.heap[w.heap.size]? = some (.cells (codeV c ka kc ia ic ba bc) 27 (0, 0)) := by rw [hW0]; exact heap_alloc_new w _
  have hs0 : W0.heap.size = w.heap.size + 1 := by rw [hW0, World.size_alloc]
  have hc0 := hc.on hg0
  have n1 : ∀ x ∈ Cd.heads c, Cd.I64 x := fun x hx => by
    simp only [Cd.heads, List.mem_cons, List.not_mem_nil, or_false] at hx
    rcases hx with rfl | rfl | rfl | rfl | rfl
    · unfold Cd.I64; omega
    · exact h64.1
    · exact h64.2.1
    · exact h64.2.2.1
    · exact h64.2.2.2.1
  have n4 : ∀ x ∈ [(c.body.length : Int)], Cd.I64 x := fun x hx => by
    simp at hx
    subst hx
    unfold Cd.I64; omega
  have l0 : (Cd.heads c).length = 5 := rfl
  have m1 := nums_len (Cd.heads c) n1
  have m2 := nums_len c.kinds h64.2.2.2.2.1
  have m3 := nums_len c.init h64.2.2.2.2.2.1
  have m4 := nums_len [(c.body.length : Int)] n4
  rw [l0] at m1
  simp only [List.length_singleton] at m4
  have HM := Lib.hid (And.intro m1 (And.intro m2 (And.intro m3 (And.intro m4 (And.intro hK (And.intro hJ hB))))))
  have HI := Lib.hid (And.intro n1 (And.intro n4 h64))
  have HB0 := Lib.hid (And.intro hb0 (And.intro hg0 hs0))
  have HC := Lib.hid hc0
  clear hb0 hg0 hs0 hc0 n1 n4 l0 m1 m2 m3 m4 h64 hc
  have hb1 : By W0 w.heap.size (codeV c ka kc ia ic ba bc) (W0.alloc (.cells #[.int .u8 77, .int .u8 84, .int .u8 82, .int .u8 49] 5 (4, 5))) (.slice (some ⟨W0.heap.size, 0, none⟩) Cd.magic.length 4) Cd.magic := by
    refine ⟨World.grownBy_alloc W0 _ none, .inr ⟨W0.heap.size, rfl, Nat.le_refl _, by rw [World.size_alloc]; omega, fun i b hb => ⟨_, _, rfl, ?_⟩⟩, row_alloc HB0.out.1 _, by have := HB0.out.2.2; omega⟩
    have hr := heap_alloc_new W0 (.cells #[.int .u8 77, .int .u8 84, .int .u8 82, .int .u8 49] 5 (4, 5))
    unfold World.cell?
    rw [hr]
    have hi : i < 4 := (List.getElem?_eq_some_iff.1 hb).1
    rcases (show i = 0 ∨ i = 1 ∨ i = 2 ∨ i = 3 by omega) with rfl | rfl | rfl | rfl <;> (cases hb; rfl)
  have H0 := Lib.hid hb1
  clear hb1
  have HL0 : Hid (Cd.magic.length = 4) := Lib.hid rfl
  have hz0 := HB0.out.2.2
  have hcvt : (convert 22 22 (.slice (some ⟨w.heap.size + 1, 0, none⟩) 4 4)).run Tryz.prog (W0.alloc (.cells #[.int .u8 77, .int .u8 84, .int .u8 82, .int .u8 49] 5)) = .ok (.slice (some ⟨w.heap.size + 1, 0, none⟩) 4 4) (W0.alloc (.cells #[.int .u8 77, .int .u8 84, .int .u8 82, .int .u8 49] 5 (4, 5))) := by
    have := Lib.run_convert_bytes_const (P := Tryz.prog) W0 22 5 #[.int .u8 77, .int .u8 84, .int .u8 82, .int .u8 49] 4 4 Tryz.underlying22 Tryz.underlying5
    rw [hz0] at this
    exact this
  have z1 : (W0.alloc (.cells #[.int .u8 77, .int .u8 84, .int .u8 82, .int .u8 49] 5 (4, 5))).heap.size = w.heap.size + 1 + 1 := by rw [World.size_alloc, hz0]
  have hcall : Calls Tryz.prog 35 #[.slice (some ⟨w.heap.size + 1, 0, none⟩) 4 4, .slice (some ⟨w.heap.size + 1 + 1, 0, none⟩) 5 5] ((W0.alloc (.cells #[.int .u8 77, .int .u8 84, .int .u8 82, .int .u8 49] 5 (4, 5))).alloc (.cells #[.int .i64 (c.kinds.length : Int), .int .i64 c.ins, .int .i64 c.outs, .int .i64 c.cells, .int .i64 c.stack] 3)) (ApP W0 (.slice (some ⟨w.heap.size + 1, 0, none⟩) 4 4) Cd.magic (Cd.heads c) ((W0.alloc (.cells #[.int .u8 77, .int .u8 84, .int .u8 82, .int .u8 49] 5 (4, 5))).alloc (.cells #[.int .i64 (c.kinds.length : Int), .int .i64 c.ins, .int .i64 c.outs, .int .i64 c.cells, .int .i64 c.stack] 3))) := by
    have := appendNumbers_any W0 _ _ 5 (Cd.heads c) _ Cd.magic (H0.out.fresh (Cd.heads c) 3) HI.out.1 (by show 4 + 10 * 5 ≤ 1000000000; decide)
    rw [z1, hz0] at this
    exact this
  unfold codeV at hW0 H0 HB0 ⊢
  rw [hW0] at hcvt
  have hcall2 : ∀ Wx, Wx = W0 → Calls Tryz.prog 35 #[.slice (some ⟨w.heap.size + 1, 0, none⟩) 4 4, .slice (some ⟨w.heap.size + 1 + 1, 0, none⟩) 5 5] ((Wx.alloc (.cells #[.int .u8 77, .int .u8 84, .int .u8 82, .int .u8 49] 5 (4, 5))).alloc (.cells #[.int .i64 (c.kinds.length : Int), .int .i64 c.ins, .int .i64 c.outs, .int .i64 c.cells, .int .i64 c.stack] 3)) (ApP W0 (.slice (some ⟨w.heap.size + 1, 0, none⟩) 4 4) Cd.magic (Cd.heads c) ((W0.alloc (.cells #[.int .u8 77, .int .u8 84, .int .u8 82, .int .u8 49] 5 (4, 5))).alloc (.cells #[.int .i64 (c.kinds.length : Int), .int .i64 c.ins, .int .i64 c.outs, .int .i64 c.cells, .int .i64 c.stack] 3))) := fun Wx e => by rw [e]; exact hcall
  have hcall := hcall2 _ hW0.symm
  have HW0 := Lib.hid hW0
  clear z1 hcall2 hW0 hz0
  go_enter Tryz.func20, Tryz.ntmps20
  go_wp2_with (go_at_call 35; refine hcall.mono ?_; rintro e V1 ⟨v, rfl, hg, hown, hrow⟩; have HY := Lib.hid (H0.out.next HB0.out.1 hg hown); have HROW1 := Lib.hid hrow; clear hg hown hrow; refine Hid.out ?_)
  refine Lib.hid ?_
  obtain ⟨P1, hP1⟩ : ∃ P1, P1 = Cd.magic ++ Cd.nums (Cd.heads c) := ⟨_, rfl⟩
  rw [← hP1] at HY
  obtain ⟨a1, c1, hv⟩ := HY.out.own.slice
  subst hv
  have H1 := Lib.hid HY.out
  have HP1 := Lib.hid hP1
  have HL1 : Hid (P1.length ≤ 100) := Lib.hid (by
    have h1 := HM.out
    have h2 := HL0.out
    rw [HP1.out, List.length_append]
    omega)
  clear hP1 HY hcall
  have u0 := cell_of_row V1 _ 0 _ _ _ H1.out.box
  have u5 := cell_of_row V1 _ 5 _ _ _ H1.out.box
  have u6 := cell_of_row V1 _ 6 _ _ _ H1.out.box
  clear hcvt
  have hcall := appendNumbers_any W0 V1 ka kc c.kinds (.slice a1 P1.length c1) P1 (H1.out.old HC.out.kinds) HI.out.2.2.2.2.2.2.1 (by have := HL1.out; omega)
  go_wp2_with (go_at_call 35; refine hcall.mono ?_; rintro e V2 ⟨v, rfl, hg, hown, hrow⟩; have HY := Lib.hid (H1.out.next HB0.out.1 hg hown); have HROW2 := Lib.hid hrow; clear hg hown hrow; refine Hid.out ?_)
  clear u0 u5 u6
  refine Lib.hid ?_
  obtain ⟨P2, hP2⟩ : ∃ P2, P2 = P1 ++ Cd.nums (c.kinds) := ⟨_, rfl⟩
  rw [← hP2] at HY
  obtain ⟨a2, c2, hv⟩ := HY.out.own.slice
  subst hv
  have H2 := Lib.hid HY.out
  have HP2 := Lib.hid hP2
  have HL2 : Hid (P2.length ≤ 90000) := Lib.hid (by
    have h1 := HM.out
    have h2 := HL1.out
    rw [HP2.out, List.length_append]
    omega)
  clear hP2 HY hcall
  have u0 := cell_of_row V2 _ 0 _ _ _ H2.out.box
  have u5 := cell_of_row V2 _ 5 _ _ _ H2.out.box
  have u6 := cell_of_row V2 _ 6 _ _ _ H2.out.box
  have hcall := appendNumbers_any W0 V2 ia ic c.init (.slice a2 P2.length c2) P2 (H2.out.old HC.out.init) HI.out.2.2.2.2.2.2.2.1 (by have := HL2.out; omega)
  go_wp2_with (go_at_call 35; refine hcall.mono ?_; rintro e V3 ⟨v, rfl, hg, hown, hrow⟩; have HY := Lib.hid (H2.out.next HB0.out.1 hg hown); have HROW3 := Lib.hid hrow; clear hg hown hrow; refine Hid.out ?_)
  clear u0 u5 u6
  refine Lib.hid ?_
  obtain ⟨P3, hP3⟩ : ∃ P3, P3 = P2 ++ Cd.nums (c.init) := ⟨_, rfl⟩
  rw [← hP3] at HY
  obtain ⟨a3, c3, hv⟩ := HY.out.own.slice
  subst hv
  have H3 := Lib.hid HY.out
  have HP3 := Lib.hid hP3
  have HL3 : Hid (P3.length ≤ 180000) := Lib.hid (by
    have h1 := HM.out
    have h2 := HL2.out
    rw [HP3.out, List.length_append]
    omega)
  clear hP3 HY hcall
  have u0 := cell_of_row V3 _ 0 _ _ _ H3.out.box
  have u5 := cell_of_row V3 _ 5 _ _ _ H3.out.box
  have u6 := cell_of_row V3 _ 6 _ _ _ H3.out.box
  have hcall : Calls Tryz.prog 35 #[.slice a3 P3.length c3, .slice (some ⟨V3.heap.size, 0, none⟩) 1 1] (V3.alloc (.cells #[.int .i64 (c.body.length : Int)] 3)) (ApP W0 (.slice a3 P3.length c3) P3 [(c.body.length : Int)] (V3.alloc (.cells #[.int .i64 (c.body.length : Int)] 3))) := appendNumbers_any W0 _ _ 1 [(c.body.length : Int)] _ P3 (H3.out.fresh [(c.body.length : Int)] 3) HI.out.2.1 (by have := HL3.out; simp only [List.length_singleton]; omega)
  go_wp2_with (go_at_call 35; refine hcall.mono ?_; rintro e V4 ⟨v, rfl, hg, hown, hrow⟩; have HY := Lib.hid (H3.out.next HB0.out.1 hg hown); have HROW4 := Lib.hid hrow; clear hg hown hrow; refine Hid.out ?_)
  clear u0 u5 u6
  refine Lib.hid ?_
  obtain ⟨P4, hP4⟩ : ∃ P4, P4 = P3 ++ Cd.nums ([(c.body.length : Int)]) := ⟨_, rfl⟩
  rw [← hP4] at HY
  obtain ⟨a4, c4, hv⟩ := HY.out.own.slice
  subst hv
  have H4 := Lib.hid HY.out
  have HP4 := Lib.hid hP4
  have HL4 : Hid (P4.length ≤ 190000) := Lib.hid (by
    have h1 := HM.out
    have h2 := HL3.out
    rw [HP4.out, List.length_append]
    omega)
  clear hP4 HY hcall
  have u0 := cell_of_row V4 _ 0 _ _ _ H4.out.box
  have u5 := cell_of_row V4 _ 5 _ _ _ H4.out.box
  have u6 := cell_of_row V4 _ 6 _ _ _ H4.out.box
  have HR4 := Lib.hid (HROW4.out (.inl (by simp)))
  go_wp2
  obtain ⟨N, hN⟩ : ∃ N, N = c.body.length := ⟨_, rfl⟩
  have HST : Hid (W0.grownBy V4 none ∧ V4.ownsRow W0.heap.size 5 1 (.slice a4 P4.length c4) P4.length (byteC P4)) := Lib.hid ⟨H4.out.grown, by have := HR4.out; rw [← HP4.out] at this; exact this⟩
  rw [← hN] at hB ⊢
  have HN := Lib.hid hN
  clear hN HR4 HROW1 HROW2 HROW3 HROW4 H0 H1 H2 H3 H4 u0 u5 u6
  go_loopw [3, 39] (fun bv iv wr => ∃ t : Nat, t ≤ N ∧ iv = .int .i64 (t : Int) ∧ Hid (W0.grownBy wr none ∧ wr.ownsRow W0.heap.size 5 1 bv (P4 ++ Cd.nums (Cd.insL (c.body.take t))).length (byteC (P4 ++ Cd.nums (Cd.insL (c.body.take t)))))) (fun _ i _ => N - (intOf i).toNat)
  case atStart => exact ⟨0, Nat.zero_le _, rfl, Lib.hid (by simpa [Cd.insL, Cd.nums] using HST.out)⟩
  case round =>
    obtain ⟨t, ht, rfl, HT⟩ := hrel
    obtain ⟨PT, hPT⟩ : ∃ PT, PT = P4 ++ Cd.nums (Cd.insL (c.body.take t)) := ⟨_, rfl⟩
    rw [← hPT] at HT
    obtain ⟨a5, c5, hbv, -⟩ := BytesAt.own HT.out.2
    subst hbv
    have HPT := Lib.hid hPT
    clear hPT
    by_cases hlt : t < N
    · obtain ⟨x, hx⟩ : ∃ x, c.body[t]? = some x := ⟨_, List.getElem?_eq_getElem (by rw [← HN.out]; exact hlt)⟩
      obtain ⟨b1, o1, rfl, hc1, hc2, hc3⟩ := HC.out.body t x hx
      have p1 := HT.out.1.cell hc1 (by simp)
      have p2 := HT.out.1.cell hc2 (by simp)
      have p3 := HT.out.1.cell hc3 (by simp)
      have hx64 := HI.out.2.2.2.2.2.2.2.2.1 x (List.mem_iff_getElem?.2 ⟨_, hx⟩)
      have HX := Lib.hid hx
      clear hx hc1 hc2 hc3
      obtain ⟨xo, xn, xk⟩ := x
      simp only at p1 p2 p3 hx64
      have hlen : PT.length + 10 * 3 ≤ 1000000000 := by
        have h1 := HL4.out
        have h2 := nums_len (Cd.insL (c.body.take t)) (fun n hn => insL_64 (fun y hy => HI.out.2.2.2.2.2.2.2.2.1 y (List.mem_of_mem_take hy)) n hn)
        rw [Cd.insL_len, List.length_take] at h2
        rw [HPT.out, List.length_append]
        omega
      have hcall : Calls Tryz.prog 35 #[.slice a5 PT.length c5, .slice (some ⟨wr.heap.size + 1, 0, none⟩) 3 3] ((wr.alloc (.cells #[.int .i64 xo, .int .i64 xn, .int .i64 xk] 32)).alloc (.cells #[.int .i64 xo, .int .i64 xn, .int .i64 xk] 3)) (ApP W0 (.slice a5 PT.length c5) PT [xo, xn, xk] ((wr.alloc (.cells #[.int .i64 xo, .int .i64 xn, .int .i64 xk] 32)).alloc (.cells #[.int .i64 xo, .int .i64 xn, .int .i64 xk] 3))) := by
        have := appendNumbers_any W0 _ _ 3 [xo, xn, xk] _ PT (An.fresh (V := wr.alloc (.cells #[.int .i64 xo, .int .i64 xn, .int .i64 xk] 32)) (HT.out.1.trans (World.grownBy_alloc wr _ none)) (.inl (HT.out.2.alloc _)) [xo, xn, xk] 3) (fun y hy => by
          simp at hy
          rcases hy with rfl | rfl | rfl
          · exact hx64.1
          · exact hx64.2.1
          · exact hx64.2.2) hlen
        rw [World.size_alloc] at this
        exact this
      clear hlen hx64
      go_wp2_with (go_at_call 35; refine hcall.mono ?_; rintro e V5 ⟨v, rfl, hg, hown, hrow⟩; have HY := Lib.hid (And.intro hg (hrow (.inl (by simp)))); clear hg hown hrow)
      refine ⟨⟨t + 1, by omega, by go_num, Lib.hid ?_⟩, by simp [intOf]; omega⟩
      have e : P4 ++ Cd.nums (Cd.insL (c.body.take (t + 1))) = PT ++ Cd.nums [xo, xn, xk] := by
        rw [HPT.out, List.take_add_one, HX.out, List.append_assoc, ← Cd.nums_append]
        congr 2
        simp [Cd.insL]
      rw [e]
      exact HY.out
    · obtain rfl : t = N := by omega
      have HF : Hid (w.grownBy wr none ∧ wr.ownsRow w.heap.size 5 1 (.slice a5 PT.length c5) (Cd.write c).length (byteC (Cd.write c))) := Lib.hid (by
        have e : PT = Cd.write c := by
          rw [HPT.out, HN.out, List.take_length, HP4.out, HP3.out, HP2.out, HP1.out]
          simp only [Cd.write, Cd.allL, Cd.nums_append, Cd.nums_cons, List.append_assoc]
          simp [Cd.nums]
        rw [← e]
        exact ⟨HB0.out.2.1.trans HT.out.1, owns_base HT.out.2 (by have := HB0.out.2.2; omega)⟩)
      go_wp2
      go_ret
      exact ⟨_, rfl, HF.out⟩
end Go.Proofs.YtfbhflpjhbemlaaGreat

/- Package code: Write: what chapter 19 says of it is so. -/
namespace Go.Proofs.YtfbhflpjhbemlaaGreat
open Go.RowKit Go.Maps Go.WideMaps

theorem check_lens {c : Cd.Code} (h : Cd.check c = 0) : c.kinds.length ≤ 8000 ∧ c.init.length ≤ 8000 ∧ c.body.length ≤ 60000 := by
  unfold Cd.check at h
  by_cases h1 : 60000 < c.body.length ∨ 8000 < c.kinds.length ∨ 64 < c.stack
  · rw [if_pos h1] at h; cases h
  rw [if_neg h1] at h
  rw [bad_is] at h
  change (if (!fmB c) = true then (40 : Int) else _) = 0 at h
  cases hf : fmB c with
  | false => rw [hf] at h; cases h
  | true =>
    have h2 := (formed_of hf).1
    have h3 : iniB c = true := by
      unfold fmB at hf
      simp only [Bool.and_eq_true] at hf
      exact hf.2.2.1
    unfold iniB at h3
    simp only [Bool.and_eq_true, beq_iff_eq] at h3
    have h4 := h2.2.2.1.2
    have h5 := h3.1
    refine ⟨by omega, by omega, by omega⟩

set_option maxHeartbeats 4000000 in
theorem cwrite_any : CWrite := by
  intro w c ka kc ia ic ba bc hc h64 hkc
  have g1 := fun V (h : w.grownBy V none) => ccheck_any V c ka kc ia ic ba bc (hc.on h) h64 hkc
  have hg0 := World.grownBy_alloc w (.cells (codeV c ka kc ia ic ba bc) 27) none
  have hr0 := heap_alloc_new w (.cells (codeV c ka kc ia ic ba bc) 27)
  have H0 : Cb w w (codeV c ka kc ia ic ba bc) (w.alloc (.cells (codeV c ka kc ia ic ba bc) 27)) := ⟨hg0, hr0⟩
  replace H0 := Lib.hid H0
  clear hg0 hr0
  by_cases hz : Cd.check c = 0
  · obtain ⟨l1, l2, l3⟩ := check_lens hz
    have g2 := fun V (h : w.grownBy V none) => bytesOf_any V c ka kc ia ic ba bc (hc.on h) h64 l1 l2 l3
    rw [hz] at g1
    have HZ := Lib.hid hz
    obtain ⟨L, hL⟩ : ∃ L, L = Cd.write c := ⟨_, rfl⟩
    rw [← hL] at g2 ⊢
    clear hz hc h64 hkc l1 l2 l3 hL
    generalize Cd.check c = ck at *
    unfold codeV at g1 g2 H0 ⊢
    generalize c.kinds.length = K at *
    generalize c.body.length = B at *
    generalize c.init.length = I at *
    generalize c.stack = s at *
    generalize c.ins = ci at *
    generalize c.outs = co at *
    generalize c.cells = cc at *
    go_enter Tryz.func11, Tryz.ntmps11
    go_wp2_with (first | (go_at_call 10; refine (g1 _ H0.out.1).mono ?_; rintro e w1 ⟨rfl, hg1⟩; have H1 := Lib.hid (H0.out.on hg1); clear hg1; have u0 := cell_of_row w1 _ 0 _ _ _ H1.out.2; have u1 := cell_of_row w1 _ 1 _ _ _ H1.out.2; have u2 := cell_of_row w1 _ 2 _ _ _ H1.out.2; have u3 := cell_of_row w1 _ 3 _ _ _ H1.out.2; have u4 := cell_of_row w1 _ 4 _ _ _ H1.out.2; have u5 := cell_of_row w1 _ 5 _ _ _ H1.out.2; have u6 := cell_of_row w1 _ 6 _ _ _ H1.out.2) | (go_at_call 20; refine (g2 _ H1.out.1).mono ?_; rintro e w2 ⟨v, rfl, hg2, hown⟩; have H2 := Lib.hid (And.intro (H1.out.1.trans hg2) (And.intro hown H1.out.1.size)); clear hg2 hown))
    go_ret2
    exact ⟨H2.out.1, fun _ => ⟨v, rfl, owns_base H2.out.2.1 H2.out.2.2⟩, fun h => absurd HZ.out h⟩
  · obtain ⟨k, hk⟩ : ∃ k, k = Cd.check c := ⟨_, rfl⟩
    rw [← hk] at g1 hz ⊢
    have e1 : (k != 0) = true := by simpa using hz
    have HZ := Lib.hid hz
    clear hz hc h64 hkc hk
    generalize Cd.write c = L at *
    unfold codeV at g1 H0 ⊢
    generalize c.kinds.length = K at *
    generalize c.body.length = B at *
    generalize c.init.length = I at *
    generalize c.stack = s at *
    generalize c.ins = ci at *
    generalize c.outs = co at *
    generalize c.cells = cc at *
    go_enter Tryz.func11, Tryz.ntmps11
    go_wp2_with (go_at_call 10; refine (g1 _ H0.out.1).mono ?_; rintro e w1 ⟨rfl, hg1⟩; have H1 := Lib.hid (H0.out.on hg1); clear hg1)
    go_ret2
    exact ⟨H1.out.1, fun h => absurd h HZ.out, fun _ => rfl⟩
end Go.Proofs.YtfbhflpjhbemlaaGreat
