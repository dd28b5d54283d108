/- rate.beats: the beats in their order. -/
import Derived.Test.YtncbaeephnahjaaRaH
import Derived.Test.YtncbaeephnahjaaRaN
namespace Go.Proofs.Ytncbaeephnahjaa
open Go.RowKit Go.Maps Go.WideMaps Go.Shelf
open Rat (at_ swp per off okL St firsts)
open Rat.St
attribute [local go_sem] Oper.semAt_some

/-- pairs in memory -/
def PairsAt (A : World) (la : Option Addr) (l : List (Nat × Nat)) : Prop := ∀ i, i < l.length → ∃ g o, la = some ⟨g, o, none⟩ ∧ A.cell? ⟨g, o + i * 2, none⟩ = some (.int .i64 ((per l i : Nat) : Int)) ∧ A.cell? ⟨g, o + i * 2 + 1, none⟩ = some (.int .i64 ((off l i : Nat) : Int))
/-- what the iterator wants kept -/
def Lk (Bl Bb : Nat) (la : Option Addr) (lc base : Nat) (l : List (Nat × Nat)) (A : World) : Prop :=
  A.heap[Bl]? = some (.cells #[.slice la l.length lc] 22 (0, 0)) ∧ A.heap[Bb]? = some (.cells #[.int .i64 (base : Int)] 3 (0, 0)) ∧ PairsAt A la l
def encB (k : Nat) : Array Value := #[.int .i64 ((k / 64 : Nat) : Int), .int .i64 ((k % 64 : Nat) : Int)]

theorem Qv.keptAt {w w' : World} {b c : Nat} {v : Value} {q : List Nat} (h : Qv w b v q) (hg : w.grownBy w' (some c)) (h1 : b ≠ c) (h2 : v.ownBlock ≠ some c) : Qv w' b v q :=
  ⟨(hg.block b h.lt (by simpa using h1)).trans h.1, h.2.kept hg (.inr h2)⟩
theorem Qv.above {w w' : World} {n b : Nat} {v : Value} {q : List Nat} (h : Qv w b v q) (hA : Above n w w') (hn : n ≤ b) : Qv w' b v q := by
  refine ⟨hA.at h.1 hn, h.2.1, ?_⟩
  rcases h.2.2 with e | ⟨g, cap, cur, rfl, h1, h2, h3⟩
  · exact .inl e
  · exact .inr ⟨g, cap, cur, rfl, h1, hA.at h2 (by omega), h3⟩

/-- between two rounds -/
def R2 (l : List (Nat × Nat)) (base b : Nat) (J : List Nat → World → Prop) (n : Nat) (wr : World) : Prop :=
  ∃ v q ys, Qv wr b v q ∧ Rat.H q ∧ St l base q ys ∧ J ys wr ∧ n + ys.length = base * 64 ∧ b < wr.heap.size

theorem least_lt {l : List (Nat × Nat)} {base b : Nat} {J : List Nat → World → Prop} {n0 : Nat} {W : World} (h : R2 l base b J (n0 - 1) W) (h1 : 1 ≤ n0) : leastOf (fun n => R2 l base b J n W) < n0 := by
  have := (leastOf_spec (p := fun n => R2 l base b J n W) ⟨_, h⟩).2 _ h
  omega

set_option maxRecDepth 100000 in
set_option maxHeartbeats 4000000 in
theorem beats_seq (n : Nat) (l : List (Nat × Nat)) (base Bl Bb : Nat) (la : Option Addr) (lc : Nat) (w : World) (hl : okL l base) (hb : base ≤ 5000) :
    SeqW Fence.wide n Try.prog 23 #[.pointer (some ⟨Bl, 0, none⟩), .pointer (some ⟨Bb, 0, none⟩)] encB (Lk Bl Bb la lc base l) (Rat.Pf l base) (Rat.Dn_ l base) w := by
  intro l0 J W hW hJL hJB hY h0
  have hdd : ∀ k : Nat, (Fence.wide.depth.isSome = true → 1 ≤ k) := fun k h => by cases h
  have hl64 := hl.1
  obtain ⟨L, hL⟩ : ∃ L, L = l.length := ⟨_, rfl⟩
  have hlk := hJL _ _ h0
  have c0 := cell_of_row W _ 0 _ _ _ hlk.1
  rw [← hL] at c0 hl64
  have HL := Lib.hid hL
  have HY := Lib.hid hY
  have HJL := Lib.hid hJL
  have HJB := Lib.hid hJB
  have HO := Lib.hid hl
  have H0 := Lib.hid h0
  have hbl := gl hlk.1
  have hbb := gl hlk.2.1
  have HLK := Lib.hid hlk
  clear hL hY hJL hJB hl h0 hlk hW
  simp only [List.append_toArray, List.nil_append, List.cons_append]
  refine callsIn_of_wp Try.func23 rfl trivial ?_ rfl
  simp only [Try.ntmps23, List.size_toArray, List.length_cons, List.length_nil, Nat.reduceAdd, Nat.reduceSub, Array.replicate_succ, Array.replicate_zero, List.push_toArray, List.append_toArray, List.nil_append, List.cons_append]
  gi_wp2
  gi_loopw [10] (fun iv wr => ∃ t : Nat, t ≤ L ∧ iv = .int .i64 (t : Int) ∧ Hid (∃ v q, q.Perm (firsts l t) ∧ Rat.H q ∧ Qv wr W.heap.size v q ∧ Below W.heap.size W wr)) (fun iv _ => L - (intOf iv).toNat)
  case atStart => exact ⟨0, Nat.zero_le _, rfl, Lib.hid ⟨.slice none 0 0, [], List.Perm.refl _, (fun k h1 h2 => by simp at h2), ⟨heap_alloc_new W _, World.ownsRow_nil _ _ _ _⟩, (Below.refl _ W).alloc (Nat.le_refl _) _⟩⟩
  case round =>
    obtain ⟨t, ht, rfl, HG⟩ := hrel
    obtain ⟨v, q, hpm, hh, hq, hbe⟩ := HG.out
    clear HG
    by_cases hlt : t < L
    · obtain ⟨g, o, rfl, hp1, hp2⟩ := HLK.out.2.2 t (by rw [← HL.out]; exact hlt)
      have u0 : wr.cell? ⟨g, o + t * 2, none⟩ = _ := (hbe.cell (World.block_lt_of_cell? W _ hp1)).trans hp1
      have u1 : wr.cell? ⟨g, o + t * 2 + 1, none⟩ = _ := (hbe.cell (World.block_lt_of_cell? W _ hp2)).trans hp2
      have hql : q.length < 1000 := by rw [hpm.length_eq]; simp [firsts]; omega
      have hpu := fun V (hg : wr.grownBy V none) => hpush_any (hq.kept hg) hql hh (off l t * 64 + t)
      rw [(Rat.first_parts l (i := t) (by omega)).1, (Rat.first_parts l (i := t) (by omega)).2] at hpu
      have HF := Lib.hid (And.intro hpm (And.intro hq hbe))
      clear hp1 hp2 hpm hh hq hbe
      gi_wp2_with (refine ⟨trivial, hdd _, ?_⟩; gi_at_call 24; refine (callsIn_wide.2 (hpu _ (World.grownBy_alloc wr _ none))).mono ?_; clear hpu; rintro e w2 ⟨rfl, ⟨v2, q2, h1, h2, h3⟩, h4⟩)
      refine ⟨⟨t + 1, by omega, by go_num, Lib.hid ⟨v2, q2, ?_, h2, h3, ?_⟩⟩, by simp [intOf]; omega⟩
      · rw [Rat.firsts_succ]
        exact h1.trans (HF.out.1.append_right _)
      · exact (HF.out.2.2.trans (below_of (World.grownBy_alloc wr _ none) (Nat.le_of_lt HF.out.2.1.lt) (by simp))).trans h4
    · have e : t = L := by omega
      subst e
      rw [HL.out] at hpm
      have HR : Hid (R2 l base W.heap.size J (base * 64) wr) := Lib.hid ⟨v, q, [], hq, hh, St.begin HO.out hpm, HJB.out _ _ _ H0.out hbe, rfl, hq.lt⟩
      clear hq hh hpm hbe hlt ht
      gi_wp2
      gi_loopw [] (fun wr => Hid (∃ n, R2 l base W.heap.size J n wr)) (fun wr => leastOf (fun n => R2 l base W.heap.size J n wr))
      case atStart => exact Lib.hid ⟨_, HR.out⟩
      case round =>
        clear HR
        have hls := leastOf_spec hrel.out
        obtain ⟨v, q, ys, hq, hh, hst, hj, hn, hb0⟩ := hls.1
        have HN := Lib.hid hn
        clear hls hrel hn
        have c4 := cell_of_row _ _ 0 _ _ _ hq.1
        have hql := hst.qlen
        by_cases h0 : q = []
        · subst h0
          obtain ⟨a, c, rfl⟩ := hq.form
          have HF := Lib.hid (And.intro hst hj)
          clear hst hj hq hh
          gi_wp2
          go_end0
          exact ⟨⟨_, rfl⟩, ys, St.fin HF.out.1, HF.out.2⟩
        · have h0' : 0 < q.length := List.length_pos_iff.2 h0
          have hpo := hpop_any hq (by omega) hh h0'
          have hta := ta_beat
          obtain ⟨x, hx⟩ : ∃ x, x = at_ q 0 := ⟨_, rfl⟩
          rw [← hx] at hpo
          have HX : Hid (x ∈ q ∧ ∀ k ∈ q, x ≤ k) := Lib.hid ⟨by rw [hx, Rat.at_eq h0']; exact List.getElem_mem _, by rw [hx]; exact hh.least_mem⟩
          have HF := Lib.hid (And.intro hst (And.intro hj hq.lt))
          obtain ⟨a, c, rfl⟩ := hq.form
          obtain ⟨Q, hQ⟩ : ∃ Q, Q = q.length := ⟨_, rfl⟩
          rw [← hQ] at c4 h0'
          obtain ⟨T, hT⟩ : ∃ T, T = x / 64 := ⟨_, rfl⟩
          obtain ⟨I, hI⟩ : ∃ I, I = x % 64 := ⟨_, rfl⟩
          rw [← hT, ← hI] at hpo
          have hxv := hst.1 x HX.out.1
          rw [Rat.valid, ← hT, ← hI, ← HL.out] at hxv
          have HTI := Lib.hid (And.intro hT (And.intro hI hxv))
          have hIL := hxv.1
          have hTb := hxv.2.1
          clear hst hj hq hh hx h0 hQ hql hT hI hxv
          gi_wp2_with (refine ⟨trivial, hdd _, ?_⟩; gi_at_call 25; refine (callsIn_wide.2 hpo).mono ?_; clear hpo; rintro e w2 ⟨rfl, ⟨v2, q2, h1, h2, h3⟩, h4⟩; refine Hid.out ?_)
          have hga := World.grownBy_alloc w2 (.cells #[.int .i64 (T : Int), .int .i64 (I : Int)] 62) none
          have hba : Below W.heap.size w2 (w2.alloc (.cells #[.int .i64 (T : Int), .int .i64 (I : Int)] 62)) := below_of hga (Nat.le_of_lt h3.lt) (by simp)
          obtain ⟨fn, tmps, assign, body, hy, hR⟩ := HY.out (n - 1) ys x _ (HJB.out _ _ _ (HJB.out _ _ _ HF.out.2.1 h4) hba) (HF.out.1.pf HX.out.1)
          have henc : encB x = #[.int .i64 (T : Int), .int .i64 (I : Int)] := by rw [encB, HTI.out.1, HTI.out.2.1]
          rw [henc] at hy
          have HQ2 := Lib.hid (And.intro h1 (And.intro h2 (h3.kept hga)))
          have hsz := h3.lt
          have HNB : Hid (v2.ownBlock ≠ some w2.heap.size) := Lib.hid (fun e => by have := (h3.2.lt _ e).2; omega)
          have hcb := heap_alloc_new w2 (.cells #[.int .i64 (T : Int), .int .i64 (I : Int)] 62)
          have HCB := Lib.hid hcb
          clear h1 h2 h3 h4 hga hba henc hcb
          refine Lib.hid ?_
          gi_wp2
          refine ⟨hdd _, hR.mono ?_⟩
          clear hR
          rintro e W3 ⟨rfl, hJ3, hA3⟩
          have hc3 := hA3.at HCB.out (Nat.le_of_lt hsz)
          have hq3 := (HQ2.out.2.2).above hA3 (Nat.le_refl _)
          have hlk3 := HJL.out _ _ hJ3
          have e0 := cell_of_row _ _ 0 _ _ _ hlk3.1
          have e1 := cell_of_row _ _ 0 _ _ _ hlk3.2.1
          rw [← HL.out] at e0
          obtain ⟨g, o, rfl, p1, _⟩ := hlk3.2.2 I (by rw [← HL.out]; exact hIL)
          have hpl := HO.out.2 I (by rw [← HL.out]; exact hIL)
          obtain ⟨p, hp⟩ : ∃ p, p = per l I := ⟨_, rfl⟩
          rw [← hp] at p1 hpl
          have hp64 := hpl.2.1
          have d0 := cell_of_row _ _ 0 _ _ _ hc3
          have d1 := cell_of_row _ _ 1 _ _ _ hc3
          have f0 := frozen_of_row _ _ 0 _ _ hc3
          obtain ⟨T', hT'⟩ : ∃ T', T' = T + p := ⟨_, rfl⟩
          have et : (T : Int) + (p : Int) = (T' : Int) := by omega
          have hgs : W3.grownBy (W3.setCell ⟨w2.heap.size, 0, none⟩ (.int .i64 (T' : Int))).drew (some w2.heap.size) := gtrans (grown_set W3 ⟨w2.heap.size, 0, none⟩ _) (gdrew _ _)
          have hb4 : Below W.heap.size W3 (W3.setCell ⟨w2.heap.size, 0, none⟩ (.int .i64 (T' : Int))).drew := below_of hgs (by have := gl hc3; omega) (fun k e => by cases e; omega)
          have hs4 : (W3.setCell ⟨w2.heap.size, 0, none⟩ (.int .i64 (T' : Int))).drew.heap[w2.heap.size]? = some (.cells #[.int .i64 (T' : Int), .int .i64 (I : Int)] 62 (0, 0)) := heap_setCell_same W3 w2.heap.size 0 _ _ _ hc3
          have hst := HF.out.1
          have HS : Hid (∀ q', (if T' < base then q'.Perm (q2 ++ [T' * 64 + I]) else q' = q2) → St l base q' (ys ++ [x])) := Lib.hid (fun q' h => St.step HO.out HF.out.1 HQ2.out.1 HX.out.2 (by rw [hT', hp, HTI.out.1, HTI.out.2.1] at h; exact h))
          have HG4 := Lib.hid (And.intro (hq3.keptAt hgs (by omega) HNB.out) (And.intro (HJB.out _ _ _ hJ3 hb4) hs4))
          have hT5 : T' ≤ 5064 := by omega
          have hI64 : I < 64 := by omega
          have HLe : Hid (q2.length < 1000) := Lib.hid (by have h1 := HQ2.out.1.length_eq; have h2 := HF.out.1.qlen; simp at h1; omega)
          clear hc3 hq3 hlk3 hgs hb4 hs4 hst hT' hp hpl hJ3 hA3
          have HPL : Hid (ys.length + 1 ≤ base * 64) := Lib.hid (by have := (HF.out.1.pf HX.out.1).len; simpa using this)
          by_cases hc : T' < base
          · have hpu := fun V (hg : (W3.setCell ⟨w2.heap.size, 0, none⟩ (.int .i64 (T' : Int))).drew.grownBy V none) => hpush_any (HG4.out.1.kept hg) HLe.out HQ2.out.2.1 (T' * 64 + I)
            rw [show (T' * 64 + I) / 64 = T' by omega, show (T' * 64 + I) % 64 = I by omega] at hpu
            have hpu := hpu _ (World.grownBy.refl _ _)
            gi_wp2
            gi_region
            gi_wp2_with (refine ⟨trivial, hdd _, ?_⟩; gi_at_call 24; refine (callsIn_wide.2 hpu).mono ?_; clear hpu; rintro e W5 ⟨rfl, ⟨v5, q5, h1, h2, h3⟩, h4⟩)
            have hR2 : R2 l base W.heap.size J ((leastOf fun n => R2 l base W.heap.size J n wr) - 1) W5 := ⟨v5, q5, ys ++ [x], h3, h2, HS.out q5 (by rw [if_pos hc]; exact h1), HJB.out _ _ _ HG4.out.2.1 h4, by have h5 := HN.out; have h6 := HPL.out; simp; omega, h3.lt⟩
            exact ⟨Lib.hid ⟨_, hR2⟩, least_lt hR2 (by have h6 := HN.out; have h7 := HPL.out; omega)⟩
          · gi_wp2
            gi_region
            gi_wp2
            have hR2 : R2 l base W.heap.size J ((leastOf fun n => R2 l base W.heap.size J n wr) - 1) _ := ⟨v2, q2, ys ++ [x], HG4.out.1, HQ2.out.2.1, HS.out q2 (by rw [if_neg hc]), HG4.out.2.1, by have h5 := HN.out; have h6 := HPL.out; simp; omega, HG4.out.1.lt⟩
            exact ⟨Lib.hid ⟨_, hR2⟩, least_lt hR2 (by have h6 := HN.out; have h7 := HPL.out; omega)⟩
end Go.Proofs.Ytncbaeephnahjaa
