/- rate.Load. -/
import Derived.Test.YtncbaeephnahjaaRaP
namespace Rat
def cst (cs : List Int) (k : Nat) : Nat := (cs.getD k 0).toNat
def tot (l : List (Int × Int)) (cs : List Int) (t : Nat) : Nat := sumR l.length fun k => if isOn l t k = true then cst cs k else 0
def Best (l : List (Int × Int)) (cs : List Int) (most at_ : Nat) : Prop := at_ < (baseM l).1 ∧ tot l cs at_ = most ∧ (∀ t, t < (baseM l).1 → tot l cs t ≤ most) ∧ ∀ t, t < at_ → tot l cs t < most
theorem psum_tot {l : List (Int × Int)} (h : (baseM l).2 = 0) {cs : List Int} {xs : List Nat} (hd : Dn_ (toN l) (baseM l).1 xs) {t : Nat} (ht : t < (baseM l).1) : psum l.length (cst cs) xs t = tot l cs t := by
  refine sumR_congr (fun k hk => ?_)
  have h64 := (baseM_ok h).2.1
  have := hd.2 (t * 64 + k)
  rw [valid_at (by omega) (by rw [toN_len]; exact hk) ht] at this
  by_cases h1 : isOn l t k = true
  · rw [if_pos h1, if_pos (this.2 (by simpa [isOn] using h1))]
  · rw [if_neg h1, if_neg (fun e => h1 (by simpa [isOn] using this.1 e))]
theorem Sm.best {l : List (Int × Int)} (h : (baseM l).2 = 0) {cs : List Int} {xs : List Nat} (hd : Dn_ (toN l) (baseM l).1 xs) {tick now most at_ : Nat} (hs : Sm l.length (cst cs) xs tick now most at_) : Best l cs most at_ := by
  have h0 := (baseM_all h).2.2.1
  have ht : tick < (baseM l).1 := by
    rcases hs.seen with e | ⟨y, hy, e⟩
    · omega
    · rw [← e]; exact ((hd.2 y).1 hy).2.1
  have ha : at_ < (baseM l).1 := Nat.lt_of_le_of_lt hs.le ht
  exact ⟨ha, by rw [← psum_tot h hd ha]; exact hs.here, fun t ht => by rw [← psum_tot h hd ht]; exact hs.all t, fun t ht => by rw [← psum_tot h hd (Nat.lt_trans ht ha)]; exact hs.first t ht⟩
end Rat
namespace Go.Proofs.Ytncbaeephnahjaa
open Go.RowKit Go.Maps Go.WideMaps Go.Shelf
open Rat (okP baseF baseM toN per off isOn cst tot Best psum)

/-- what Load answers -/
def LPost (l : List (Int × Int)) (cs : List Int) (w : World) (e : Ending) (w' : World) : Prop :=
  w.grownBy w' none ∧ (((baseM l).2 ≠ 0 ∧ e = .returned (.tuple #[.int .i64 0, .int .i64 0, .int .i64 ((baseM l).2 : Int)])) ∨
    ((baseM l).2 = 0 ∧ costE cs l.length ≠ 0 ∧ e = .returned (.tuple #[.int .i64 0, .int .i64 0, .int .i64 (costE cs l.length : Int)])) ∨
    ((baseM l).2 = 0 ∧ costE cs l.length = 0 ∧ ∃ most at_ : Nat, Best l cs most at_ ∧ e = .returned (.tuple #[.int .i64 (most : Int), .int .i64 (at_ : Int), .int .i64 0])))
theorem cost_ok {cs : List Int} {n : Nat} (h : costE cs n = 0) : cs.length = n ∧ ∀ x ∈ cs, 0 ≤ x ∧ x ≤ 1000000 := by
  unfold costE at h
  split at h
  · cases h
  · rename_i h1
    split at h
    · rename_i h2
      refine ⟨by simpa using h1, fun x hx => ?_⟩
      have := List.all_eq_true.1 h2 x hx
      simpa [okC] using this
    · cases h
theorem cst_at {cs : List Int} {k : Nat} {x : Int} (h : cs[k]? = some x) : cst cs k = x.toNat := by simp [cst, List.getD_eq_getElem?_getD, h]
theorem cst_le {cs : List Int} (h : ∀ x ∈ cs, 0 ≤ x ∧ x ≤ 1000000) (k : Nat) : cst cs k ≤ 1000000 := by
  unfold cst
  rw [List.getD_eq_getElem?_getD]
  cases e : cs[k]? with
  | none => simp
  | some x => have := h x (List.mem_of_getElem? e); simp; omega
theorem psum_le {cs : List Int} (h : ∀ x ∈ cs, 0 ≤ x ∧ x ≤ 1000000) {n : Nat} (hn : n ≤ 64) (ys : List Nat) (t : Nat) : psum n (cst cs) ys t ≤ 64000000 := by
  have h1 := Rat.sumR_le (n := n) (B := 1000000) (f := fun k => if t * 64 + k ∈ ys then cst cs k else 0) (fun k _ => by
    have := cst_le h k
    split <;> omega)
  have h2 : n * 1000000 ≤ 64 * 1000000 := Nat.mul_le_mul_right _ hn
  unfold psum
  omega
/-- the sum behind the beats so far -/
def SumI (w : World) (sb : Nat) (ca : Option Addr) (n cc : Nat) (cs : List Int) (pre : List Nat) (W : World) : Prop :=
  (∃ tick now most at_, SumAt W sb ca n cc tick now most at_ ∧ Rat.Sm n (cst cs) pre tick now most at_) ∧ Below w.heap.size w W
theorem cost_le (cs : List Int) (n : Nat) : costE cs n ≤ 23 := by
  unfold costE
  split
  · omega
  · split <;> omega

set_option maxRecDepth 20000 in
set_option maxHeartbeats 2000000 in
theorem load_any (l : List (Int × Int)) (cs : List Int) (la ca : Option Addr) (lc cc : Nat) (w : World) (h : PairsI w la l) (hc : IntsAt w ca cs) (hn : l.length ≤ 1000) (hcn : cs.length ≤ 1000) :
    Calls Try.prog 13 #[.slice la l.length lc, .slice ca cs.length cc] w (LPost l cs w) := by
  have hbs := base_any l la lc w h hn
  have hck := fun W (hg : w.grownBy W none) => costs_any cs l.length ca cc W (fun i x hx => by obtain ⟨g, o, h1, h2⟩ := hc i x hx; exact ⟨g, o, h1, hg.cell h2 (by simp)⟩) hcn hn
  have hmf := makeFunc_run
  obtain ⟨L, hL⟩ : ∃ L, L = l.length := ⟨_, rfl⟩
  obtain ⟨B, hB⟩ : ∃ B, B = baseM l := ⟨_, rfl⟩
  obtain ⟨C, hC⟩ : ∃ C, C = cs.length := ⟨_, rfl⟩
  obtain ⟨E, hE⟩ : ∃ E, E = costE cs l.length := ⟨_, rfl⟩
  have hE23 : E ≤ 23 := by rw [hE]; exact cost_le _ _
  rw [← hB, ← hL] at hbs
  rw [← hE, ← hL, ← hC] at hck
  rw [← hL, ← hC]
  obtain ⟨b, er⟩ := B
  have HB := Lib.hid hB
  have HL := Lib.hid hL
  have HC := Lib.hid hC
  have HE := Lib.hid hE
  have HP := Lib.hid (And.intro h hc)
  dsimp only at hbs
  clear hB hL h hc hC hE
  by_cases h0 : er = 0
  · subst h0
    have hb0 : (baseM l).2 = 0 := by rw [← HB.out]
    have hb1 : (baseM l).1 = b := by rw [← HB.out]
    have hall := Rat.baseM_all hb0
    rw [hb1] at hall
    have hL64 : L ≤ 64 := by rw [HL.out]; exact (Rat.baseM_ok hb0).2.1
    have hok := (Rat.baseM_ok hb0).1
    have hb5 : b ≤ 5000 := hall.2.1
    have hbp : 0 < b := hall.2.2.1
    have HA := Lib.hid (And.intro hall (And.intro hok (And.intro hb0 hb1)))
    clear hall hok hb0 hb1
    by_cases hE0 : E = 0
    · subst hE0
      obtain ⟨hCL, hco⟩ := cost_ok HE.out.symm
      rw [← HC.out, ← HL.out] at hCL
      subst hCL
      have HCO := Lib.hid hco
      clear hco
      go_enter Try.func13, Try.ntmps13
      go_wp2_with (first | (go_at_call 14; refine hbs.mono ?_; clear hbs; rintro e w1 ⟨rfl, hg1⟩; have hck1 := hck w1 hg1; have HG1 := Lib.hid hg1; clear hg1 hck) | (go_at_call 18; refine hck1.mono ?_; clear hck1; rintro e w2 ⟨rfl, rfl⟩))
      obtain ⟨W2, hW2⟩ : ∃ W2, W2 = w2.alloc (.cells #[.slice ca C cc, .int .i64 0, .int .i64 0, .int .i64 0, .int .i64 0] 49) := ⟨_, rfl⟩
      rw [← hW2]
      have hsz : W2.heap.size = w2.heap.size + 1 := by rw [hW2]; simp
      have hsn : W2.heap[w2.heap.size]? = some (.cells #[.slice ca C cc, .int .i64 0, .int .i64 0, .int .i64 0, .int .i64 0] 49 (0, 0)) := by rw [hW2]; exact heap_alloc_new w2 _
      have hwb : Below w.heap.size w W2 := by rw [hW2]; exact (below_of0 HG1.out).alloc HG1.out.size _
      have hw2 := HG1.out.size
      clear hW2
      have hea := each_any 19 (.pointer (some ⟨w2.heap.size, 0, none⟩)) (toN l) b la lc W2 HA.out.1.1 hb5 (enters_of Try.func19 (by kernel_rfl) rfl)
        (SumI w w2.heap.size ca C cc cs)
        (fun s A D hs hbl => ⟨by obtain ⟨tick, now, most, at_, h1, h2⟩ := hs.1; exact ⟨tick, now, most, at_, below_above hbl h1 (by omega), h2⟩, hs.2.trans (hbl.mono (by omega))⟩)
        (fun s A hs => ((HP.out.1.nat HA.out.2.1).below hs.2))
        ⟨⟨0, 0, 0, 0, hsn, Rat.Sm.nil _ _⟩, hwb⟩
        (fun pre x W hI hpf => by
          obtain ⟨⟨tick, now, most, at_, hs, hm⟩, hbl⟩ := hI
          have hv := hpf.2 x (by simp)
          have hk : x % 64 < C := by have := hv.1; rw [Rat.toN_len, ← HL.out] at this; exact this
          obtain ⟨cx, hcx⟩ : ∃ cx, cs[x % 64]? = some cx := ⟨_, List.getElem?_eq_getElem (by rw [← HC.out]; exact hk)⟩
          obtain ⟨g, o, hg1, hg2⟩ := HP.out.2 _ _ hcx
          have hgl := World.block_lt_of_cell? w _ hg2
          have hgW := (hbl.cell hgl).trans hg2
          have hcb := HCO.out cx (List.mem_of_getElem? hcx)
          have hct := cst_at hcx
          have htick : tick ≤ 5000 := by
            rcases hm.seen with e | ⟨y, hy, e⟩
            · omega
            · have := (hpf.2 y (by simp [hy])).2.1; omega
          have hlt : ∀ y ∈ pre, y < x := fun y hy => (List.pairwise_append.1 hpf.1).2.2 y hy x (by simp)
          refine (sumOn_any W w2.heap.size ca C cc tick now most at_ (x / 64) (x % 64) (cst cs (x % 64)) hs hk hL64 (by have := hv.2.1; omega) htick (by rw [hm.now]; exact psum_le HCO.out hL64 _ _) (cst_le HCO.out _) (by rw [← hm.here]; exact psum_le HCO.out hL64 _ _) (by have := hm.le; omega) g o hg1 (by rw [hgW, hct]; congr 2; omega) (Nat.lt_of_lt_of_le hgl hw2)).mono ?_
          rintro e W' ⟨hu, hS, hgr⟩
          exact ⟨hu, ⟨⟨_, _, _, _, hS _ rfl, hm.step hlt hk hL64 rfl⟩, hbl.trans (below_of hgr hbl.size (fun j e => by cases e; exact hw2))⟩, Above.of hgr (fun j e => by cases e; omega)⟩)
      rw [Rat.toN_len, ← HL.out] at hea
      refine hea.mono ?_
      clear hea
      rintro e w3 ⟨rfl, xs, hxs, ⟨tick, now, most, at_, hs, hm⟩, hbl⟩
      rw [← HA.out.2.2.2] at hxs
      rw [HL.out] at hm
      have HBest := Lib.hid (And.intro (Rat.Sm.best HA.out.2.2.1 hxs hm) hbl)
      have c3 := cell_of_row _ _ 3 _ _ _ hs
      have c4 := cell_of_row _ _ 4 _ _ _ hs
      clear hs hm hxs hbl hsn hwb hsz
      go_wp2
      go_region
      go_wp2
      go_ret3
      exact ⟨gdd (grown_of_below HBest.out.2), .inr (.inr ⟨HA.out.2.2.1, HE.out.symm, most, at_, HBest.out.1, rfl⟩)⟩
    · have h1 : ((E : Int) == 0) = false := by simp; exact hE0
      go_enter Try.func13, Try.ntmps13
      go_wp2_with (first | (go_at_call 14; refine hbs.mono ?_; clear hbs; rintro e w1 ⟨rfl, hg1⟩; have hck1 := hck w1 hg1; have HG1 := Lib.hid hg1; clear hg1 hck) | (go_at_call 18; refine hck1.mono ?_; clear hck1; rintro e w2 ⟨rfl, rfl⟩))
      go_ret3
      exact ⟨HG1.out, .inr (.inl ⟨HA.out.2.2.1, by rw [← HE.out]; exact hE0, by rw [← HE.out]; rfl⟩)⟩
  · have hne : (baseM l).2 ≠ 0 := by rw [← HB.out]; exact h0
    have hbe := Rat.baseM_bad hne
    have hle : er ≤ 2 := by have := hbe.2; rw [← HB.out] at this; omega
    have e2 : (baseM l).2 = er := by rw [← HB.out]
    have HN := Lib.hid (And.intro hne e2)
    have h1 : ((er : Int) == 0) = false := by simp; exact h0
    clear hne hbe e2 hck
    go_enter Try.func13, Try.ntmps13
    go_wp2_with (go_at_call 14; refine hbs.mono ?_; clear hbs; rintro e w1 ⟨rfl, hg1⟩; have HG1 := Lib.hid hg1; clear hg1)
    go_ret3
    exact ⟨HG1.out, .inl ⟨HN.out.1, by rw [HN.out.2]; rfl⟩⟩
end Go.Proofs.Ytncbaeephnahjaa
