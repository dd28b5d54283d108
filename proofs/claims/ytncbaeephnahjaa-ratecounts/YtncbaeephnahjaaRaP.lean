/- Sums of costs (plain); rate.checkCosts, sum.on. -/
import Derived.Test.YtncbaeephnahjaaRaO
namespace Rat
def sumR : Nat → (Nat → Nat) → Nat
  | 0, _ => 0
  | n + 1, f => sumR n f + f n
theorem sumR_congr {n : Nat} {f g : Nat → Nat} (h : ∀ k, k < n → f k = g k) : sumR n f = sumR n g := by
  induction n with
  | zero => rfl
  | succ n ih => rw [sumR, sumR, ih (fun k hk => h k (by omega)), h n (by omega)]
theorem sumR_add {n j c : Nat} {f g : Nat → Nat} (hj : j < n) (h : ∀ k, k < n → k ≠ j → g k = f k) (h2 : g j = f j + c) : sumR n g = sumR n f + c := by
  induction n with
  | zero => omega
  | succ n ih =>
    rw [sumR, sumR]
    by_cases e : j = n
    · subst e
      rw [sumR_congr (g := f) (fun k hk => h k (by omega) (by omega)), h2]
      omega
    · rw [ih (by omega) (fun k hk hne => h k (by omega) hne), h n (by omega) (Ne.symm e)]
      omega
theorem sumR_zero {n : Nat} {f : Nat → Nat} (h : ∀ k, k < n → f k = 0) : sumR n f = 0 := by
  induction n with
  | zero => rfl
  | succ n ih => rw [sumR, ih (fun k hk => h k (by omega)), h n (by omega)]
theorem sumR_le {n B : Nat} {f : Nat → Nat} (h : ∀ k, k < n → f k ≤ B) : sumR n f ≤ n * B := by
  induction n with
  | zero => simp [sumR]
  | succ n ih =>
    have h1 := ih (fun k hk => h k (by omega))
    have h2 := h n (by omega)
    rw [sumR, Nat.succ_mul]
    omega
def psum (n : Nat) (c : Nat → Nat) (ys : List Nat) (t : Nat) : Nat := sumR n fun k => if t * 64 + k ∈ ys then c k else 0
/-- what sum.on has noted behind these beats -/
structure Sm (n : Nat) (c : Nat → Nat) (ys : List Nat) (tick now most at_ : Nat) : Prop where
  last : ∀ y ∈ ys, y / 64 ≤ tick
  now : now = psum n c ys tick
  all : ∀ t, psum n c ys t ≤ most
  here : psum n c ys at_ = most
  first : ∀ t, t < at_ → psum n c ys t < most
  le : at_ ≤ tick
  seen : tick = 0 ∨ ∃ y ∈ ys, y / 64 = tick
theorem Sm.nil (n : Nat) (c : Nat → Nat) : Sm n c [] 0 0 0 0 := by
  have e : ∀ t, psum n c [] t = 0 := fun t => sumR_zero (fun k _ => by simp)
  exact ⟨by simp, (e 0).symm, fun t => by rw [e]; omega, e 0, by simp, Nat.le_refl _, .inl rfl⟩
theorem psum_snoc {n : Nat} {c : Nat → Nat} {ys : List Nat} {x : Nat} (hx : x ∉ ys) (hk : x % 64 < n) (hn : n ≤ 64) (t : Nat) : psum n c (ys ++ [x]) t = psum n c ys t + (if t = x / 64 then c (x % 64) else 0) := by
  by_cases ht : t = x / 64
  · rw [if_pos ht]
    have he : t * 64 + x % 64 = x := by omega
    refine sumR_add hk (fun k hk2 hne => ?_) ?_
    · have : t * 64 + k ≠ x := by omega
      simp [this]
    · simp [he, hx]
  · rw [if_neg ht, Nat.add_zero]
    refine sumR_congr (fun k hk2 => ?_)
    have : t * 64 + k ≠ x := by omega
    simp [this]
theorem Sm.step {n : Nat} {c : Nat → Nat} {ys : List Nat} {x tick now most at_ : Nat} (h : Sm n c ys tick now most at_) (hs : ∀ y ∈ ys, y < x) (hk : x % 64 < n) (hn : n ≤ 64) {now1 : Nat} (h1 : now1 = (if x / 64 ≠ tick then 0 else now) + c (x % 64)) :
    Sm n c (ys ++ [x]) (x / 64) now1 (if most < now1 then now1 else most) (if most < now1 then x / 64 else at_) := by
  have hx : x ∉ ys := fun e => Nat.lt_irrefl _ (hs x e)
  have e := psum_snoc (c := c) hx hk hn
  have htk : tick ≤ x / 64 := by
    rcases h.seen with h0 | ⟨y, hy, e⟩
    · omega
    · have := hs y hy; omega
  have hn1 : now1 = psum n c (ys ++ [x]) (x / 64) := by
    rw [e, if_pos rfl, h1]
    by_cases ht : x / 64 = tick
    · rw [if_neg (by simpa using ht), ht, ← h.now]
    · rw [if_pos (by simpa using ht)]
      have : psum n c ys (x / 64) = 0 := sumR_zero (fun k hk2 => by
        have : x / 64 * 64 + k ∉ ys := fun hm => by have := h.last _ hm; omega
        simp [this])
      omega
  have hpe : psum n c (ys ++ [x]) (x / 64) = psum n c ys (x / 64) + c (x % 64) := by rw [e, if_pos rfl]
  refine ⟨fun y hy => ?_, hn1, fun t => ?_, ?_, fun t ht => ?_, ?_, .inr ⟨x, by simp, rfl⟩⟩
  · rcases List.mem_append.1 hy with hy | hy
    · have := hs y hy; omega
    · rw [List.mem_singleton.1 hy]; exact Nat.le_refl _
  · by_cases ht : t = x / 64
    · rw [ht, ← hn1]; split <;> omega
    · rw [e, if_neg ht]
      have := h.all t
      split <;> omega
  · by_cases hc : most < now1
    · rw [if_pos hc, if_pos hc]; exact hn1.symm
    · rw [if_neg hc, if_neg hc]
      by_cases ht : at_ = x / 64
      · have h5 := h.here
        rw [ht] at h5 ⊢
        omega
      · rw [e, if_neg ht]; exact h.here
  · by_cases hc : most < now1
    · rw [if_pos hc] at ht ⊢
      rw [e, if_neg (by omega)]
      have := h.all t
      omega
    · rw [if_neg hc] at ht ⊢
      have h2 := h.le
      rw [e, if_neg (by omega)]
      exact h.first t ht
  · split
    · exact Nat.le_refl _
    · have := h.le; omega
end Rat
namespace Go.Proofs.Ytncbaeephnahjaa
open Go.RowKit Go.Maps Go.WideMaps Go.Shelf

/-- whole numbers in memory -/
def IntsAt (A : World) (ca : Option Addr) (cs : List Int) : Prop := ∀ i x, cs[i]? = some x → ∃ g o, ca = some ⟨g, o, none⟩ ∧ A.cell? ⟨g, o + i, none⟩ = some (.int .i64 x)
def okC (x : Int) : Bool := decide (0 ≤ x) && decide (x ≤ 1000000)
def costE (cs : List Int) (n : Nat) : Nat := if cs.length ≠ n then 23 else if cs.all okC then 0 else 1

set_option maxRecDepth 20000 in
set_option maxHeartbeats 2000000 in
theorem costs_any (cs : List Int) (n : Nat) (ca : Option Addr) (cc : Nat) (w : World) (h : IntsAt w ca cs) (hn : cs.length ≤ 1000) (hn2 : n ≤ 1000) :
    Calls Try.prog 18 #[.slice ca cs.length cc, .int .i64 (n : Int)] w fun e w' => e = .returned (.int .i64 (costE cs n : Int)) ∧ w' = w := by
  obtain ⟨L, hL⟩ : ∃ L, L = cs.length := ⟨_, rfl⟩
  obtain ⟨E, hE⟩ : ∃ E, E = costE cs n := ⟨_, rfl⟩
  rw [← hL, ← hE]
  rw [← hL] at hn
  unfold costE at hE
  rw [← hL] at hE
  have HE := Lib.hid hE
  have HL := Lib.hid hL
  have HP := Lib.hid h
  clear hE hL h
  by_cases hne : L = n
  · subst hne
    go_enter Try.func18, Try.ntmps18
    go_wp2
    go_loopw [13] (fun iv wr => ∃ t : Nat, t ≤ L ∧ iv = .int .i64 (t : Int) ∧ wr = w ∧ Hid ((cs.take t).all okC = true)) (fun iv _ => L - (intOf iv).toNat)
    case atStart => exact ⟨0, Nat.zero_le _, rfl, rfl, Lib.hid (by simp)⟩
    case round =>
      obtain ⟨t, ht, rfl, rfl, HG⟩ := hrel
      by_cases hlt : t < L
      · obtain ⟨x, hx⟩ : ∃ x, cs[t]? = some x := ⟨_, List.getElem?_eq_getElem (by rw [← HL.out]; exact hlt)⟩
        obtain ⟨g, o, rfl, hp1⟩ := HP.out t x hx
        have HX := Lib.hid hx
        clear hx
        by_cases hok : 0 ≤ x ∧ x ≤ 1000000
        · obtain ⟨h1, h2⟩ := hok
          go_wp2
          refine ⟨⟨t + 1, by omega, by go_num, trivial, Lib.hid ?_⟩, by simp [intOf]; omega⟩
          rw [List.take_add_one, HX.out, List.all_append, HG.out]
          simp [okC, h1, h2]
        · have HEx : Hid (E = 1) := Lib.hid (by
            rw [HE.out, if_neg (by simp), if_neg]
            intro hall
            have := List.all_eq_true.1 hall x (List.mem_of_getElem? HX.out)
            simp [okC] at this
            exact hok this)
          by_cases h1 : x < 0
          · go_wp2
            go_ret
            rw [HEx.out]
            exact ⟨rfl, rfl⟩
          · have h2 : 1000000 < x := by omega
            go_wp2
            go_ret
            rw [HEx.out]
            exact ⟨rfl, rfl⟩
      · have e : t = L := by omega
        subst e
        have hall := HG.out
        rw [List.take_of_length_le (by rw [HL.out]; exact Nat.le_refl _)] at hall
        have HEx : Hid (E = 0) := Lib.hid (by rw [HE.out, if_neg (by simp), if_pos hall])
        clear hall
        go_wp2
        go_ret
        rw [HEx.out]
        exact ⟨rfl, rfl⟩
  · have HEx : Hid (E = 23) := Lib.hid (by rw [HE.out, if_pos hne])
    go_enter Try.func18, Try.ntmps18
    go_wp2
    go_ret
    rw [HEx.out]
    exact ⟨rfl, rfl⟩

/-- a sum under way -/
def SumAt (W : World) (sb : Nat) (ca : Option Addr) (n cc tick now most at_ : Nat) : Prop :=
  W.heap[sb]? = some (.cells #[.slice ca n cc, .int .i64 (tick : Int), .int .i64 (now : Int), .int .i64 (most : Int), .int .i64 (at_ : Int)] 49 (0, 0))

def SPost (W : World) (sb : Nat) (ca : Option Addr) (n cc tick now most at_ t c : Nat) (e : Ending) (W' : World) : Prop :=
  (∃ u, e = .returned u) ∧ (∀ now1, now1 = (if t ≠ tick then 0 else now) + c → SumAt W' sb ca n cc t now1 (if most < now1 then now1 else most) (if most < now1 then t else at_)) ∧ W.grownBy W' (some sb)
theorem gset {w V : World} {g k : Nat} (h : w.grownBy V (some g)) (v : Value) : w.grownBy (V.setCell ⟨g, k, none⟩ v) (some g) := gtrans h (grown_set V ⟨g, k, none⟩ v)
theorem gdd {w V : World} {r : Option Nat} (h : w.grownBy V r) : w.grownBy V.drew r := gtrans h (gdrew _ _)

set_option maxRecDepth 20000 in
set_option maxHeartbeats 2000000 in
theorem sumOn_any (W : World) (sb : Nat) (ca : Option Addr) (n cc tick now most at_ t k c : Nat) (h : SumAt W sb ca n cc tick now most at_) (hk : k < n) (_hn : n ≤ 64) (_ht : t ≤ 5000) (hti : tick ≤ 5000) (hnow : now ≤ 64000000) (hc : c ≤ 1000000) (_hmo : most ≤ 64000000) (_hat : at_ ≤ 5000)
    (g o : Nat) (hca : ca = some ⟨g, o, none⟩) (hcell : W.cell? ⟨g, o + k, none⟩ = some (.int .i64 (c : Int))) (hgs : g < sb) :
    Calls Try.prog 19 #[.pointer (some ⟨sb, 0, none⟩), .int .i64 (t : Int), .int .i64 (k : Int)] W (SPost W sb ca n cc tick now most at_ t c) := by
  subst hca
  unfold SumAt at h
  have c0 := cell_of_row _ _ 0 _ _ _ h
  have c1 := cell_of_row _ _ 1 _ _ _ h
  have c2 := cell_of_row _ _ 2 _ _ _ h
  have c3 := cell_of_row _ _ 3 _ _ _ h
  have c4 := cell_of_row _ _ 4 _ _ _ h
  have f1 := frozen_of_row _ _ 1 _ _ h
  have f2 := frozen_of_row _ _ 2 _ _ h
  have f3 := frozen_of_row _ _ 3 _ _ h
  have f4 := frozen_of_row _ _ 4 _ _ h
  have hne : ¬ g = sb := by omega
  have hne2 : ¬ sb = g := by omega
  have HH := Lib.hid h
  clear h
  obtain ⟨now1, hn1⟩ : ∃ now1, now1 = (if t ≠ tick then 0 else now) + c := ⟨_, rfl⟩
  have HN1 := Lib.hid hn1
  by_cases htt : t = tick
  · have en : (now : Int) + (c : Int) = (now1 : Int) := by rw [if_neg (by simpa using htt)] at hn1; omega
    have hb1 : now1 ≤ 65000000 := by rw [if_neg (by simpa using htt)] at hn1; omega
    have HT := Lib.hid htt
    have e1 : ((t : Int) != (tick : Int)) = false := by simp [htt]
    have e2 : ((t : Int) == (tick : Int)) = true := by simp [htt]
    clear hn1
    subst htt
    by_cases hgt : most < now1
    · go_enter Try.func19, Try.ntmps19
      go_wp2
      go_region
      go_wp2
      go_region
      go_wp2
      go_end0
      refine ⟨⟨_, rfl⟩, fun n1 e => ?_, gdd (gdd (gset (gset (gset (World.grownBy.refl _ _) _) _) _))⟩
      obtain rfl := e.trans HN1.out.symm
      rw [if_pos hgt, if_pos hgt]
      exact heap_setCell_same _ sb 4 _ _ _ (heap_setCell_same _ sb 3 _ _ _ (heap_setCell_same _ sb 2 _ _ _ HH.out))
    · go_enter Try.func19, Try.ntmps19
      go_wp2
      go_region
      go_wp2
      go_region
      go_wp2
      go_end0
      refine ⟨⟨_, rfl⟩, fun n1 e => ?_, gdd (gdd (gset (World.grownBy.refl _ _) _))⟩
      obtain rfl := e.trans HN1.out.symm
      rw [if_neg hgt, if_neg hgt]
      exact heap_setCell_same _ sb 2 _ _ _ HH.out
  · have en : (c : Int) = (now1 : Int) := by rw [if_pos (by simpa using htt)] at hn1; omega
    have hb1 : now1 ≤ 65000000 := by rw [if_pos (by simpa using htt)] at hn1; omega
    obtain rfl : c = now1 := by omega
    have e1 : ((t : Int) != (tick : Int)) = true := by simp; omega
    have e2 : ((t : Int) == (tick : Int)) = false := by simp; omega
    clear hn1 en
    obtain ⟨V, hV⟩ : ∃ V, V = (W.setCell ⟨sb, 1, none⟩ (.int .i64 (t : Int))).setCell ⟨sb, 2, none⟩ (.int .i64 0) := ⟨_, rfl⟩
    have hvs : V.heap[sb]? = some (.cells #[.slice (some ⟨g, o, none⟩) n cc, .int .i64 (t : Int), .int .i64 0, .int .i64 (most : Int), .int .i64 (at_ : Int)] 49 (0, 0)) := by rw [hV]; exact heap_setCell_same _ sb 2 _ _ _ (heap_setCell_same _ sb 1 _ _ _ HH.out)
    have hgv : W.grownBy V (some sb) := by rw [hV]; exact gset (gset (World.grownBy.refl _ _) _) _
    have v0 := cell_of_row _ _ 0 _ _ _ hvs
    have v2 := cell_of_row _ _ 2 _ _ _ hvs
    have v3 := cell_of_row _ _ 3 _ _ _ hvs
    have v4 := cell_of_row _ _ 4 _ _ _ hvs
    have g2 := frozen_of_row _ _ 2 _ _ hvs
    have g3 := frozen_of_row _ _ 3 _ _ hvs
    have g4 := frozen_of_row _ _ 4 _ _ hvs
    have vc := hgv.cell hcell (by simp; omega)
    have HV := Lib.hid (And.intro hV (And.intro hvs hgv))
    clear hV hvs hgv
    by_cases hgt : most < c
    · go_enter Try.func19, Try.ntmps19
      go_wp2
      rw [← HV.out.1]
      clear c0 c1 c2 c3 c4 f1 f2 f3 f4 hcell
      go_region
      go_wp2
      go_region
      go_wp2
      go_end0
      refine ⟨⟨_, rfl⟩, fun n1 e => ?_, gdd (gdd (gset (gset (gset HV.out.2.2 _) _) _))⟩
      obtain rfl := e.trans HN1.out.symm
      rw [if_pos hgt, if_pos hgt]
      exact heap_setCell_same _ sb 4 _ _ _ (heap_setCell_same _ sb 3 _ _ _ (heap_setCell_same _ sb 2 _ _ _ HV.out.2.1))
    · go_enter Try.func19, Try.ntmps19
      go_wp2
      rw [← HV.out.1]
      clear c0 c1 c2 c3 c4 f1 f2 f3 f4 hcell
      go_region
      go_wp2
      go_region
      go_wp2
      go_end0
      refine ⟨⟨_, rfl⟩, fun n1 e => ?_, gdd (gdd (gset HV.out.2.2 _))⟩
      obtain rfl := e.trans HN1.out.symm
      rw [if_neg hgt, if_neg hgt]
      exact heap_setCell_same _ sb 2 _ _ _ HV.out.2.1
end Go.Proofs.Ytncbaeephnahjaa
