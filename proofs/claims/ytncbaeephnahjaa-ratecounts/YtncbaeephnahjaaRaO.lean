/- The base period: what the numbers say (plain), and rate.Table. -/
import Derived.Test.YtncbaeephnahjaaRaL
namespace Rat
theorem baseF_spec : ∀ (l : List (Int × Int)) (b0 b : Nat), (∀ x ∈ l, 1 ≤ x.1) → 0 < b0 → b0 ≤ 5000 → baseF l b0 = some b →
    b0 ∣ b ∧ (∀ x ∈ l, x.1.toNat ∣ b) ∧ b ≤ 5000 ∧ 0 < b ∧ ∀ c, b0 ∣ c → (∀ x ∈ l, x.1.toNat ∣ c) → b ∣ c
  | [], b0, b, _, h0, h1, h => by
    simp only [baseF, Option.some.injEq] at h
    subst h
    exact ⟨Nat.dvd_refl _, by simp, h1, h0, fun c hc _ => hc⟩
  | x :: r, b0, b, hx, h0, h1, h => by
    simp only [baseF] at h
    split at h
    · cases h
    · rename_i hle
      have hp := hx x (by simp)
      obtain ⟨a1, a2, a3, a4, a5⟩ := baseF_spec r _ b (fun y hy => hx y (by simp [hy])) (Nat.lcm_pos h0 (by omega)) (by omega) h
      refine ⟨Nat.dvd_trans (Nat.dvd_lcm_left _ _) a1, fun y hy => ?_, a3, a4, fun c hc hcx => a5 c (Nat.lcm_dvd hc (hcx x (by simp))) (fun y hy => hcx y (by simp [hy]))⟩
      rcases List.mem_cons.1 hy with rfl | hy
      · exact Nat.dvd_trans (Nat.dvd_lcm_right _ _) a1
      · exact a2 y hy
def toN (l : List (Int × Int)) : List (Nat × Nat) := l.map fun x => (x.1.toNat, x.2.toNat)
theorem toN_len (l : List (Int × Int)) : (toN l).length = l.length := by simp [toN]
theorem toN_at {l : List (Int × Int)} {i : Nat} {x : Int × Int} (h : l[i]? = some x) : per (toN l) i = x.1.toNat ∧ off (toN l) i = x.2.toNat := by
  simp [per, off, toN, List.getD_eq_getElem?_getD, h]
theorem baseM_ok {l : List (Int × Int)} (h : (baseM l).2 = 0) : l.all okP = true ∧ l.length ≤ 64 ∧ baseF l 1 = some (baseM l).1 := by
  unfold baseM at h ⊢
  split at h
  · cases h
  · rename_i h1
    split at h
    · cases h
    · rename_i h2
      rw [if_neg h1, if_neg h2]
      refine ⟨by simpa using h1, by omega, ?_⟩
      split at h
      · cases h
      · rename_i b hb
        rw [hb]
theorem baseM_bad {l : List (Int × Int)} (h : (baseM l).2 ≠ 0) : (baseM l).1 = 0 ∧ ((baseM l).2 = 1 ∨ (baseM l).2 = 2) := by
  unfold baseM at h ⊢
  by_cases h1 : l.all okP = false
  · rw [if_pos h1]; simp
  · rw [if_neg h1] at h ⊢
    by_cases h2 : l.length > 64
    · rw [if_pos h2]; simp
    · rw [if_neg h2] at h ⊢
      cases hb : baseF l 1 with
      | none => simp
      | some b => rw [hb] at h; simp at h
theorem okP_one {x : Int × Int} (h : okP x = true) : 1 ≤ x.1 ∧ x.1 ≤ 64 ∧ 0 ≤ x.2 ∧ x.2 < x.1 := by
  simp only [okP, Bool.and_eq_true, decide_eq_true_eq] at h
  omega
theorem baseM_all {l : List (Int × Int)} (h : (baseM l).2 = 0) : okL (toN l) (baseM l).1 ∧ (baseM l).1 ≤ 5000 ∧ 0 < (baseM l).1 ∧ (∀ i, i < l.length → per (toN l) i ∣ (baseM l).1) ∧ ∀ c, (∀ i, i < l.length → per (toN l) i ∣ c) → (baseM l).1 ∣ c := by
  obtain ⟨h1, h2, h3⟩ := baseM_ok h
  have ha := fun x hx => okP_one (List.all_eq_true.1 h1 x hx)
  obtain ⟨a1, a2, a3, a4, a5⟩ := baseF_spec l 1 _ (fun x hx => (ha x hx).1) (by omega) (by omega) h3
  have hd : ∀ i, i < l.length → ∃ x, x ∈ l ∧ l[i]? = some x := fun i hi => ⟨l[i], List.getElem_mem _, List.getElem?_eq_getElem hi⟩
  have hdv : ∀ i, i < l.length → per (toN l) i ∣ (baseM l).1 := fun i hi => by
    obtain ⟨x, hx, e⟩ := hd i hi
    rw [(toN_at e).1]
    exact a2 x hx
  refine ⟨⟨by rw [toN_len]; exact h2, fun i hi => ?_⟩, a3, a4, hdv, fun c hc => a5 c (Nat.one_dvd _) (fun x hx => ?_)⟩
  · rw [toN_len] at hi
    obtain ⟨x, hx, e⟩ := hd i hi
    have h5 := ha x hx
    have h6 := Nat.le_of_dvd a4 (hdv i hi)
    rw [(toN_at e).1] at h6 ⊢
    rw [(toN_at e).2]
    omega
  · obtain ⟨i, hi, e⟩ := List.getElem_of_mem hx
    have := hc i hi
    rw [(toN_at (x := x) (by rw [List.getElem?_eq_getElem hi, e])).1] at this
    exact this
theorem valid_at {l : List (Nat × Nat)} {base i k : Nat} (hk : k < 64) (hkl : k < l.length) (hi : i < base) : valid l base (i * 64 + k) ↔ i % per l k = off l k := by
  unfold valid
  rw [show (i * 64 + k) % 64 = k by omega, show (i * 64 + k) / 64 = i by omega]
  exact ⟨fun h => h.2.2, fun h => ⟨hkl, hi, h⟩⟩
/-- on at a tick -/
def isOn (l : List (Int × Int)) (i k : Nat) : Bool := decide (i % per (toN l) k = off (toN l) k)
end Rat
namespace Go.Proofs.Ytncbaeephnahjaa
open Go.RowKit Go.Maps Go.WideMaps Go.Shelf
open Rat (okP baseF baseM toN per off isOn)

theorem PairsI.nat {A : World} {la : Option Addr} {l : List (Int × Int)} (h : PairsI A la l) (ha : l.all okP = true) : PairsAt A la (toN l) := fun i hi => by
  rw [Rat.toN_len] at hi
  have e : l[i]? = some l[i] := List.getElem?_eq_getElem hi
  obtain ⟨g, o, h1, h2, h3⟩ := h i _ e
  have h4 := Rat.okP_one (List.all_eq_true.1 ha _ (List.getElem_mem hi))
  refine ⟨g, o, h1, ?_, ?_⟩
  · rw [h2, (Rat.toN_at e).1]; congr 2; omega
  · rw [h3, (Rat.toN_at e).2]; congr 2; omega
theorem PairsAt.below {A B : World} {la : Option Addr} {l : List (Nat × Nat)} (h : PairsAt A la l) (hb : Below A.heap.size A B) : PairsAt B la l := fun i hi => by
  obtain ⟨g, o, h1, h2, h3⟩ := h i hi
  exact ⟨g, o, h1, (hb.cell (World.block_lt_of_cell? A _ h2)).trans h2, (hb.cell (World.block_lt_of_cell? A _ h3)).trans h3⟩
theorem TableAt.lt {A : World} {tb base n : Nat} {on : Nat → Nat → Bool} (h : TableAt A tb base n on) (h0 : 0 < base) : tb + 1 + base ≤ A.heap.size := by
  obtain ⟨row, r1, _⟩ := h.2 (base - 1) (by omega)
  have := gl r1
  omega
theorem grown_of_below {w V : World} (h : Below w.heap.size w V) : w.grownBy V none := ⟨h.os, h.tape, h.output, h.size, fun k hk _ => h.block k hk⟩
theorem below_of0 {w V : World} (h : w.grownBy V none) : Below w.heap.size w V := below_of h (Nat.le_refl _) (by simp)

/-- what Table answers -/
def TPost (l : List (Int × Int)) (w : World) (e : Ending) (w' : World) : Prop :=
  w.grownBy w' none ∧ (((baseM l).2 ≠ 0 ∧ e = .returned (.tuple #[.int .i64 0, .slice none 0 0, .int .i64 ((baseM l).2 : Int)])) ∨
    ∃ tb, (baseM l).2 = 0 ∧ w.heap.size ≤ tb ∧ e = .returned (.tuple #[.int .i64 ((baseM l).1 : Int), .slice (some ⟨tb, 0, none⟩) (baseM l).1 (baseM l).1, .int .i64 0]) ∧ TableAt w' tb (baseM l).1 l.length (isOn l))

set_option maxRecDepth 20000 in
set_option maxHeartbeats 2000000 in
theorem table_any (l : List (Int × Int)) (la : Option Addr) (lc : Nat) (w : World) (h : PairsI w la l) (hn : l.length ≤ 1000) :
    Calls Try.prog 8 #[.slice la l.length lc] w (TPost l w) := by
  have hbs := base_any l la lc w h hn
  have hmf := makeFunc_run
  obtain ⟨L, hL⟩ : ∃ L, L = l.length := ⟨_, rfl⟩
  obtain ⟨B, hB⟩ : ∃ B, B = baseM l := ⟨_, rfl⟩
  rw [← hB, ← hL] at hbs
  rw [← hL]
  obtain ⟨b, er⟩ := B
  have HB := Lib.hid hB
  have HL := Lib.hid hL
  have HP := Lib.hid h
  dsimp only at hbs
  clear hB hL h
  by_cases h0 : er = 0
  · subst h0
    have hb0 : (baseM l).2 = 0 := by rw [← HB.out]
    have hb1 : (baseM l).1 = b := by rw [← HB.out]
    have hall := Rat.baseM_all hb0
    rw [hb1] at hall
    have hL64 : L ≤ 64 := by rw [HL.out]; exact (Rat.baseM_ok hb0).2.1
    have hok := (Rat.baseM_ok hb0).1
    have hb5 : b ≤ 5000 := hall.2.1
    have hbp : 0 < b := hall.2.2.1
    have HA := Lib.hid (And.intro hall (And.intro hok (And.intro hb0 hb1)))
    clear hall hok hb0 hb1
    have hnt := newTable_any b L hb5 hL64
    go_enter Try.func8, Try.ntmps8
    go_wp2_with (first | (go_at_call 14; refine hbs.mono ?_; clear hbs; rintro e w1 ⟨rfl, hg1⟩; have HG1 := Lib.hid hg1; clear hg1) | (go_at_call 15; refine (hnt _).mono ?_; clear hnt; rintro e w2 ⟨rfl, ht2, hg2⟩; have HG2 := Lib.hid (And.intro ht2 hg2); clear ht2 hg2; refine Hid.out ?_))
    have hea := each_any 17 (.slice (some ⟨w1.heap.size, 0, none⟩) b b) (toN l) b la lc w2 HA.out.1.1 hb5 (enters_of Try.func17 (by kernel_rfl) rfl)
      (fun pre W => TableAt W w1.heap.size b L (fun i k => decide (i * 64 + k ∈ pre)) ∧ Below w.heap.size w W)
      (fun s A C hs hbl => ⟨hs.1.kept hbl (HG2.out.1.lt hbp), hs.2.trans (hbl.mono (Nat.le_trans HG1.out.size HG2.out.2.size))⟩)
      (fun s A hs => ((HP.out.nat HA.out.2.1).below hs.2))
      ⟨HG2.out.1.eq (fun i k _ _ => by simp), (below_of0 HG1.out).trans ((below_of0 HG2.out.2).mono HG1.out.size)⟩
      (fun pre x W hI hpf => by
        have hv := hpf.2 x (by simp)
        have hk : x % 64 < L := by have := hv.1; rw [Rat.toN_len, ← HL.out] at this; exact this
        refine (tableOn_any W w1.heap.size b L _ (x / 64) (x % 64) hI.1 hv.2.1 hk hb5 hL64).mono ?_
        rintro e W' ⟨hu, ht, hg⟩
        have hlt := HG2.out.1.lt hbp
        have hv2 := hv.2.1
        refine ⟨hu, ⟨ht.eq (fun i k hi hk2 => ?_), hI.2.trans (below_of hg (hI.2.size) (fun j e => by cases e; have := HG1.out.size; omega))⟩, Above.of hg (fun j e => by cases e; omega)⟩
        rw [Bool.eq_iff_iff]
        simp only [Bool.or_eq_true, Bool.and_eq_true, beq_iff_eq, decide_eq_true_eq, List.mem_append, List.mem_singleton]
        constructor
        · rintro (h | ⟨h1, h2⟩)
          · exact .inl h
          · exact .inr (by omega)
        · rintro (h | h)
          · exact .inl h
          · exact .inr (by omega))
    rw [Rat.toN_len, ← HL.out] at hea
    refine Lib.hid ?_
    go_wp2_with (go_at_call 16; refine hea.mono ?_; clear hea; rintro e w3 ⟨rfl, xs, hxs, hI3⟩; have H3 := Lib.hid (And.intro hxs hI3); clear hxs hI3)
    go_ret3
    refine ⟨grown_of_below H3.out.2.2, .inr ⟨w1.heap.size, HA.out.2.2.1, HG1.out.size, by rw [HA.out.2.2.2]; rfl, ?_⟩⟩
    rw [HA.out.2.2.2, ← HL.out]
    refine H3.out.2.1.eq (fun i k hi hk => ?_)
    rw [isOn, Bool.eq_iff_iff, decide_eq_true_eq, decide_eq_true_eq, H3.out.1.2, Rat.valid_at (by omega) (by rw [Rat.toN_len, ← HL.out]; exact hk) hi]
  · have hne : (baseM l).2 ≠ 0 := by rw [← HB.out]; exact h0
    have hbe := Rat.baseM_bad hne
    have hle : er ≤ 2 := by have := hbe.2; rw [← HB.out] at this; omega
    have e2 : (baseM l).2 = er := by rw [← HB.out]
    have HN := Lib.hid (And.intro hne e2)
    have h1 : ((er : Int) == 0) = false := by simp; exact h0
    clear hne hbe e2
    go_enter Try.func8, Try.ntmps8
    go_wp2_with (go_at_call 14; refine hbs.mono ?_; clear hbs; rintro e w1 ⟨rfl, hg1⟩; have HG1 := Lib.hid hg1; clear hg1)
    go_ret3
    exact ⟨HG1.out, .inl ⟨HN.out.1, by rw [HN.out.2]; rfl⟩⟩
end Go.Proofs.Ytncbaeephnahjaa
