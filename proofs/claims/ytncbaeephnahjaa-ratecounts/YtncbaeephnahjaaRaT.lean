/- metronomeref13.Table. -/
import Derived.Test.YtncbaeephnahjaaRaR
import Derived.BigQuiet
namespace Rat
theorem lcm_least {b p m : Nat} (hb : 0 < b) (hp : 0 < p) (hm : 0 < m) (hd : p ∣ b * m) (hj : ∀ j, 0 < j → j < m → ¬ p ∣ b * j) : b * m = Nat.lcm b p := by
  have h1 : Nat.lcm b p ∣ b * m := Nat.lcm_dvd (Nat.dvd_mul_right _ _) hd
  obtain ⟨q, hq⟩ := Nat.dvd_lcm_left b p
  have h2 := Nat.lcm_pos hb hp
  have h3 : 0 < q := by
    rcases Nat.eq_zero_or_pos q with e | e
    · rw [e] at hq; omega
    · exact e
  have h4 : p ∣ b * q := by rw [← hq]; exact Nat.dvd_lcm_right b p
  have h5 : q ≤ m := by
    have := Nat.le_of_dvd (Nat.mul_pos hb hm) h1
    rw [hq] at this
    exact Nat.le_of_mul_le_mul_left this hb
  have h6 : ¬ q < m := fun h => hj q h3 h h4
  rw [hq, show m = q by omega]
end Rat
namespace Go.Proofs.Ytncbaeephnahjaa
open Go.RowKit Go.Maps Go.WideMaps Go.Shelf
open Rat (okP baseF baseM toN per off isOn cst tot Best)

theorem gddN {w V : World} {r : Option Nat} (k : Nat) (h : w.grownBy V r) : w.grownBy (V.drewN k) r := ⟨h.os, h.tape, h.output, h.size, h.block⟩
/-- rows of bools in memory -/
def RowsAt (A : World) (rv : Value) (b n : Nat) (on : Nat → Nat → Bool) : Prop :=
  ∃ rg cap, rv = .slice (some ⟨rg, 0, none⟩) b cap ∧ ∀ i, i < b → ∃ a c, A.cell? ⟨rg, i, none⟩ = some (.slice a n c) ∧ ∀ k, k < n → ∃ g, a = some ⟨g, 0, none⟩ ∧ A.cell? ⟨g, k, none⟩ = some (.bool (on i k))
theorem TableAt.rows {A : World} {tb b n : Nat} {on : Nat → Nat → Bool} (h : TableAt A tb b n on) : RowsAt A (.slice (some ⟨tb, 0, none⟩) b b) b n on := by
  obtain ⟨⟨arr, a1, a2⟩, a3⟩ := h
  refine ⟨tb, b, rfl, fun i hi => ⟨_, _, (cell_of_row A tb i _ _ _ a1).trans (a2 i hi), fun k hk => ?_⟩⟩
  obtain ⟨row, r1, r2⟩ := a3 i hi
  exact ⟨_, rfl, (cell_of_row A _ k _ _ _ r1).trans (r2 k hk)⟩
theorem RowsAt.kept {A B : World} {rv : Value} {b n : Nat} {on : Nat → Nat → Bool} (h : RowsAt A rv b n on) (hg : A.grownBy B none) : RowsAt B rv b n on := by
  obtain ⟨rg, cap, h1, h2⟩ := h
  refine ⟨rg, cap, h1, fun i hi => ?_⟩
  obtain ⟨a, c, h3, h4⟩ := h2 i hi
  refine ⟨a, c, hg.cell h3 (by simp), fun k hk => ?_⟩
  obtain ⟨g, h5, h6⟩ := h4 k hk
  exact ⟨g, h5, hg.cell h6 (by simp)⟩
theorem info_bool : (Try.prog.info? 4).map (fun i => (i.size, i.bytes, i.zero)) = some (1, 1, some (.bool false)) := by kernel_rfl
theorem info_row : (Try.prog.info? 31).map (fun i => (i.size, i.bytes, i.zero)) = some (1, 24, some (.slice none 0 0)) := by kernel_rfl
/-- a row: what is on at a tick -/
def bools (l : List (Int × Int)) (i n : Nat) : List Value := (List.range n).map fun k => .bool (isOn l i k)
theorem bools_succ (l : List (Int × Int)) (i n : Nat) : bools l i (n + 1) = bools l i n ++ [.bool (isOn l i n)] := by simp [bools, List.range_succ]
/-- rows under way -/
def Rws (l : List (Int × Int)) (w : World) (n i : Nat) (rv : Value) (V : World) : Prop :=
  ∃ us : List Value, V.ownsRow w.heap.size 31 1 rv i us ∧ (∀ j u, us[j]? = some u → V.ownsRow 0 4 1 u n (bools l j n)) ∧ w.grownBy V none
theorem own_mono {w : World} {b b' : Nat} {e : TypeId} {size : Nat} {v : Value} {n : Nat} {xs : List Value} (h : w.ownsRow b e size v n xs) (hb : b' ≤ b) : w.ownsRow b' e size v n xs := by
  refine ⟨h.1, ?_⟩
  rcases h.2 with e | ⟨g, cap, cur, h1, h2, h3⟩
  · exact .inl e
  · exact .inr ⟨g, cap, cur, h1, Nat.le_trans hb h2, h3⟩
/-- blocks of other types are other blocks -/
theorem own_type {w w' : World} {b b2 : Nat} {e e2 : TypeId} {size size2 : Nat} {v u : Value} {n m : Nat} {xs ys : List Value} (h : w.ownsRow b e size v n xs) (h2 : w.ownsRow b2 e2 size2 u m ys) (hne : e ≠ e2) (hg : w.grownBy w' v.ownBlock) : w'.ownsRow b2 e2 size2 u m ys := by
  refine h2.kept hg ?_
  rcases h2.2 with ⟨rfl, _⟩ | ⟨g, cap, cur, rfl, _, c1, _⟩
  · exact .inl rfl
  · rcases h.2 with ⟨rfl, _⟩ | ⟨g', cap', cur', rfl, _, c2, _⟩
    · exact .inr (by simp [Value.ownBlock])
    · refine .inr (fun e3 => ?_)
      simp only [Value.ownBlock, Option.some.injEq] at e3
      subst e3
      rw [c1] at c2
      injection c2 with c2
      injection c2 with _ c3 _
      exact hne c3.symm
theorem Rws.step {l : List (Int × Int)} {w : World} {n i : Nat} {rv : Value} {us : List Value} {V V1 V2 V3 : World} {u v' : Value} (h1 : V.ownsRow w.heap.size 31 1 rv i us) (h2 : ∀ j u, us[j]? = some u → V.ownsRow 0 4 1 u n (bools l j n)) (h3 : w.grownBy V none)
    (hV1 : V.grownBy V1 none) (hu : V1.ownsRow V.heap.size 4 1 u n (bools l i n)) (hV2 : V1.grownBy V2 none) (hv : V3.ownsRow w.heap.size 31 1 v' (i + 1) (us ++ [u])) (hg : V2.grownBy V3 rv.ownBlock) : Rws l w n (i + 1) v' V3 := by
  have hk : V.grownBy V2 none := gtrans hV1 hV2
  have hrv : V2.ownsRow w.heap.size 31 1 rv i us := h1.kept hk (by cases rv.ownBlock <;> simp)
  have hul : us.length = i := by have := h1.1; omega
  refine ⟨us ++ [u], hv, fun j x hx => ?_, ?_⟩
  · rw [List.getElem?_append] at hx
    split at hx
    · exact own_type hrv ((h2 j x hx).kept hk (by cases x.ownBlock <;> simp)) (by decide) hg
    · have hj : j = i := by
        have := (List.getElem?_eq_some_iff.1 hx).1
        simp at this
        omega
      subst hj
      rw [hul, Nat.sub_self] at hx
      simp at hx
      subst hx
      exact own_type hrv ((own_mono hu (Nat.zero_le _)).kept hV2 (by cases u.ownBlock <;> simp)) (by decide) hg
  · have := (below_of0 (gtrans h3 hk)).trans (below_of hg (Nat.le_trans h3.size hk.size) (fun k e => (hrv.lt k e).1))
    exact grown_of_below this
theorem Rws.rows {l : List (Int × Int)} {w : World} {n b : Nat} {rv : Value} {V : World} (h : Rws l w n b rv V) (hb : 0 < b) : RowsAt V rv b n (isOn l) := by
  obtain ⟨us, h1, h2, h3⟩ := h
  rcases h1.2 with ⟨_, e⟩ | ⟨g, cap, cur, rfl, _, c1, _, _, _, ht⟩
  · omega
  · refine ⟨g, cap, rfl, fun i hi => ?_⟩
    have hul : us.length = b := by have := h1.1; omega
    obtain ⟨u, hu⟩ : ∃ u, us[i]? = some u := ⟨_, List.getElem?_eq_getElem (by omega)⟩
    obtain ⟨a, c, rfl⟩ := ownForm (h2 i u hu)
    have hcell : V.cell? ⟨g, i, none⟩ = some (.slice a n c) := by
      rw [cell_of_row V g i _ _ _ c1]
      rw [← ht, List.getElem?_take] at hu
      split at hu
      · simpa using hu
      · cases hu
    refine ⟨a, c, hcell, fun k hk => ?_⟩
    rcases (h2 i _ hu).2 with ⟨_, e⟩ | ⟨g2, cap2, cur2, e2, _, c2, _, _, _, t2⟩
    · omega
    · injection e2 with e3
      refine ⟨g2, e3, ?_⟩
      rw [cell_of_row V g2 k _ _ _ c2]
      have : (bools l i n)[k]? = some (.bool (isOn l i k)) := by simp [bools, hk]
      rw [← t2, List.getElem?_take] at this
      split at this
      · simpa using this
      · cases this
/-- what the document's own Table answers -/
def RPost (l : List (Int × Int)) (w : World) (e : Ending) (w' : World) : Prop :=
  w.grownBy w' none ∧ (((baseM l).2 ≠ 0 ∧ e = .returned (.tuple #[.int .i64 0, .slice none 0 0, .int .i64 ((baseM l).2 : Int)])) ∨
    ((baseM l).2 = 0 ∧ ∃ rv, e = .returned (.tuple #[.int .i64 ((baseM l).1 : Int), rv, .int .i64 0]) ∧ RowsAt w' rv (baseM l).1 l.length (isOn l)))

set_option maxRecDepth 100000 in
set_option maxHeartbeats 4000000 in
theorem rtable_any (l : List (Int × Int)) (la : Option Addr) (lc : Nat) (w : World) (h : PairsI w la l) (hn : l.length ≤ 1000) :
    Calls Try.prog 9 #[.slice la l.length lc] w (RPost l w) := by
  obtain ⟨L, hL⟩ : ∃ L, L = l.length := ⟨_, rfl⟩
  rw [← hL]
  rw [← hL] at hn
  have HL := Lib.hid hL
  have HP := Lib.hid h
  clear hL h
  go_enter Try.func9, Try.ntmps9
  go_wp2
  go_loopw [5] (fun iv wr => ∃ t : Nat, t ≤ L ∧ iv = .int .i64 (t : Int) ∧ Hid ((l.take t).all okP = true ∧ w.grownBy wr none)) (fun iv _ => L - (intOf iv).toNat)
  case atStart => exact ⟨0, Nat.zero_le _, rfl, Lib.hid ⟨by simp, World.grownBy.refl _ _⟩⟩
  case round =>
    obtain ⟨t, ht, rfl, HG⟩ := hrel
    obtain ⟨hall, hgr⟩ := HG.out
    clear HG
    by_cases hlt : t < L
    · obtain ⟨x, hx⟩ : ∃ x, l[t]? = some x := ⟨_, List.getElem?_eq_getElem (by rw [← HL.out]; exact hlt)⟩
      obtain ⟨g, o, rfl, hp1, hp2⟩ := HP.out t x hx
      have u0 := hgr.cell hp1 (by simp)
      have u1 := hgr.cell hp2 (by simp)
      have HF := Lib.hid (And.intro hall (And.intro hgr hx))
      clear hall hgr hx hp1 hp2
      obtain ⟨p, q⟩ := x
      dsimp only at u0 u1
      cases hok : okP (p, q) with
      | true =>
        have HOK := Lib.hid hok
        obtain ⟨h1, h2, h3, h4⟩ := Rat.okP_one hok
        dsimp only at h1 h2 h3 h4
        clear hok
        go_wp2
        have hS0 : wr.drew.cell? ⟨g, o + t * 2, none⟩ = some (.int .i64 p) ∧ wr.drew.cell? ⟨g, o + t * 2 + 1, none⟩ = some (.int .i64 q) := ⟨u0, u1⟩
        refine wp_region_L (S := fun V => V.cell? ⟨g, o + t * 2, none⟩ = some (.int .i64 p) ∧ V.cell? ⟨g, o + t * 2 + 1, none⟩ = some (.int .i64 q)) (Z := []) (by kernel_rfl) ?_
        refine t1 0 19 (.slice (some ⟨g, o, none⟩) L lc) hS0 ?_
        (try simp only [Act.put, sA, sB, sC])
        refine t1 1 20 (.int .i64 (t : Int)) hS0 ?_
        (try simp only [Act.put, sA, sB, sC])
        refine t2 2 21 (.pointer (some ⟨g, o + t * 2, none⟩)) (fun w' hw' => ?_) hS0 ?_
        · clear hw'; go_simp
        (try simp only [Act.put, sA, sB, sC])
        refine t1 3 22 (.pointer (some ⟨g, o + t * 2, none⟩)) hS0 ?_
        (try simp only [Act.put, sA, sB, sC])
        refine t2 4 23 (.int .i64 p) (fun w' hw' => ?_) hS0 ?_
        · have hc0 := hw'.1; clear hw'; go_simp
        (try simp only [Act.put, sA, sB, sC])
        refine t2 5 24 (.bool false) (fun w' hw' => ?_) hS0 ?_
        · clear hw'; go_simp
        (try simp only [Act.put, sA, sB, sC])
        refine t1 6 25 (.bool false) hS0 ?_
        (try simp only [Act.put, sA, sB, sC])
        refine t1 7 26 (.slice (some ⟨g, o, none⟩) L lc) hS0 ?_
        (try simp only [Act.put, sA, sB, sC])
        refine t1 8 27 (.int .i64 (t : Int)) hS0 ?_
        (try simp only [Act.put, sA, sB, sC])
        refine t2 9 28 (.pointer (some ⟨g, o + t * 2, none⟩)) (fun w' hw' => ?_) hS0 ?_
        · clear hw'; go_simp
        (try simp only [Act.put, sA, sB, sC])
        refine t1 10 29 (.pointer (some ⟨g, o + t * 2, none⟩)) hS0 ?_
        (try simp only [Act.put, sA, sB, sC])
        refine t2 11 30 (.int .i64 p) (fun w' hw' => ?_) hS0 ?_
        · have hc0 := hw'.1; clear hw'; go_simp
        (try simp only [Act.put, sA, sB, sC])
        refine t2 12 31 (.bool false) (fun w' hw' => ?_) hS0 ?_
        · clear hw'; go_simp
        (try simp only [Act.put, sA, sB, sC])
        refine t1 13 32 (.bool false) hS0 ?_
        (try simp only [Act.put, sA, sB, sC])
        refine t1 14 33 (.bool false) hS0 ?_
        (try simp only [Act.put, sA, sB, sC])
        refine t1 15 34 (.slice (some ⟨g, o, none⟩) L lc) hS0 ?_
        (try simp only [Act.put, sA, sB, sC])
        refine t1 16 35 (.int .i64 (t : Int)) hS0 ?_
        (try simp only [Act.put, sA, sB, sC])
        refine t2 17 36 (.pointer (some ⟨g, o + t * 2, none⟩)) (fun w' hw' => ?_) hS0 ?_
        · clear hw'; go_simp
        (try simp only [Act.put, sA, sB, sC])
        refine t1 18 37 (.pointer (some ⟨g, o + t * 2 + 1, none⟩)) hS0 ?_
        (try simp only [Act.put, sA, sB, sC])
        refine t2 19 38 (.int .i64 q) (fun w' hw' => ?_) hS0 ?_
        · have hc0 := hw'.2; clear hw'; go_simp
        (try simp only [Act.put, sA, sB, sC])
        refine t2 20 39 (.bool false) (fun w' hw' => ?_) hS0 ?_
        · clear hw'; go_simp
        (try simp only [Act.put, sA, sB, sC])
        refine t1 21 40 (.bool false) hS0 ?_
        (try simp only [Act.put, sA, sB, sC])
        refine t1 22 41 (.bool false) hS0 ?_
        (try simp only [Act.put, sA, sB, sC])
        refine t1 23 42 (.slice (some ⟨g, o, none⟩) L lc) hS0 ?_
        (try simp only [Act.put, sA, sB, sC])
        refine t1 24 43 (.int .i64 (t : Int)) hS0 ?_
        (try simp only [Act.put, sA, sB, sC])
        refine t2 25 44 (.pointer (some ⟨g, o + t * 2, none⟩)) (fun w' hw' => ?_) hS0 ?_
        · clear hw'; go_simp
        (try simp only [Act.put, sA, sB, sC])
        refine t1 26 45 (.pointer (some ⟨g, o + t * 2 + 1, none⟩)) hS0 ?_
        (try simp only [Act.put, sA, sB, sC])
        refine t2 27 46 (.int .i64 q) (fun w' hw' => ?_) hS0 ?_
        · have hc0 := hw'.2; clear hw'; go_simp
        (try simp only [Act.put, sA, sB, sC])
        refine t1 28 47 (.slice (some ⟨g, o, none⟩) L lc) hS0 ?_
        (try simp only [Act.put, sA, sB, sC])
        refine t1 29 48 (.int .i64 (t : Int)) hS0 ?_
        (try simp only [Act.put, sA, sB, sC])
        refine t2 30 49 (.pointer (some ⟨g, o + t * 2, none⟩)) (fun w' hw' => ?_) hS0 ?_
        · clear hw'; go_simp
        (try simp only [Act.put, sA, sB, sC])
        refine t1 31 50 (.pointer (some ⟨g, o + t * 2, none⟩)) hS0 ?_
        (try simp only [Act.put, sA, sB, sC])
        refine t2 32 51 (.int .i64 p) (fun w' hw' => ?_) hS0 ?_
        · have hc0 := hw'.1; clear hw'; go_simp
        (try simp only [Act.put, sA, sB, sC])
        refine t2 33 52 (.bool false) (fun w' hw' => ?_) hS0 ?_
        · clear hw'; go_simp
        (try simp only [Act.put, sA, sB, sC])
        refine t1 34 53 (.bool false) hS0 ?_
        (try simp only [Act.put, sA, sB, sC])
        refine wpL_done (by kernel_rfl) ?_ _
        go_wp2
        exact ⟨⟨t + 1, by omega, by go_num, Lib.hid ⟨take_all HF.out.2.2 HF.out.1 HOK.out, gdd HF.out.2.1⟩⟩, by simp [intOf]; omega⟩
      | false =>
        have HBe : Hid (baseM l = (0, 1)) := Lib.hid (by
          rw [baseM, if_pos]
          rw [List.all_eq_false]
          exact ⟨(p, q), List.mem_of_getElem? HF.out.2.2, by simp [hok]⟩)
        have hbad : ¬ (1 ≤ p ∧ p ≤ 64 ∧ 0 ≤ q ∧ q < p) := fun hh => by simp [okP, hh] at hok
        clear hok
        by_cases h1 : p < 1
        · clear hbad
          go_wp2
          have hS0 : wr.drew.cell? ⟨g, o + t * 2, none⟩ = some (.int .i64 p) ∧ wr.drew.cell? ⟨g, o + t * 2 + 1, none⟩ = some (.int .i64 q) := ⟨u0, u1⟩
          refine wp_region_L (S := fun V => V.cell? ⟨g, o + t * 2, none⟩ = some (.int .i64 p) ∧ V.cell? ⟨g, o + t * 2 + 1, none⟩ = some (.int .i64 q)) (Z := []) (by kernel_rfl) ?_
          refine t1 0 19 (.slice (some ⟨g, o, none⟩) L lc) hS0 ?_
          (try simp only [Act.put, sA, sB, sC])
          refine t1 1 20 (.int .i64 (t : Int)) hS0 ?_
          (try simp only [Act.put, sA, sB, sC])
          refine t2 2 21 (.pointer (some ⟨g, o + t * 2, none⟩)) (fun w' hw' => ?_) hS0 ?_
          · clear hw'; go_simp
          (try simp only [Act.put, sA, sB, sC])
          refine t1 3 22 (.pointer (some ⟨g, o + t * 2, none⟩)) hS0 ?_
          (try simp only [Act.put, sA, sB, sC])
          refine t2 4 23 (.int .i64 p) (fun w' hw' => ?_) hS0 ?_
          · have hc0 := hw'.1; clear hw'; go_simp
          (try simp only [Act.put, sA, sB, sC])
          refine t2 5 24 (.bool true) (fun w' hw' => ?_) hS0 ?_
          · clear hw'; go_simp
          (try simp only [Act.put, sA, sB, sC])
          refine t1 6 25 (.bool true) hS0 ?_
          (try simp only [Act.put, sA, sB, sC])
          refine t3 7 26 hS0 ?_
          (try simp only [Act.put, sA, sB, sC])
          refine t3 8 27 hS0 ?_
          (try simp only [Act.put, sA, sB, sC])
          refine t3 9 28 hS0 ?_
          (try simp only [Act.put, sA, sB, sC])
          refine t3 10 29 hS0 ?_
          (try simp only [Act.put, sA, sB, sC])
          refine t3 11 30 hS0 ?_
          (try simp only [Act.put, sA, sB, sC])
          refine t3 12 31 hS0 ?_
          (try simp only [Act.put, sA, sB, sC])
          refine t1 13 32 (.bool true) hS0 ?_
          (try simp only [Act.put, sA, sB, sC])
          refine t1 14 33 (.bool true) hS0 ?_
          (try simp only [Act.put, sA, sB, sC])
          refine t3 15 34 hS0 ?_
          (try simp only [Act.put, sA, sB, sC])
          refine t3 16 35 hS0 ?_
          (try simp only [Act.put, sA, sB, sC])
          refine t3 17 36 hS0 ?_
          (try simp only [Act.put, sA, sB, sC])
          refine t3 18 37 hS0 ?_
          (try simp only [Act.put, sA, sB, sC])
          refine t3 19 38 hS0 ?_
          (try simp only [Act.put, sA, sB, sC])
          refine t3 20 39 hS0 ?_
          (try simp only [Act.put, sA, sB, sC])
          refine t1 21 40 (.bool true) hS0 ?_
          (try simp only [Act.put, sA, sB, sC])
          refine t1 22 41 (.bool true) hS0 ?_
          (try simp only [Act.put, sA, sB, sC])
          refine t3 23 42 hS0 ?_
          (try simp only [Act.put, sA, sB, sC])
          refine t3 24 43 hS0 ?_
          (try simp only [Act.put, sA, sB, sC])
          refine t3 25 44 hS0 ?_
          (try simp only [Act.put, sA, sB, sC])
          refine t3 26 45 hS0 ?_
          (try simp only [Act.put, sA, sB, sC])
          refine t3 27 46 hS0 ?_
          (try simp only [Act.put, sA, sB, sC])
          refine t3 28 47 hS0 ?_
          (try simp only [Act.put, sA, sB, sC])
          refine t3 29 48 hS0 ?_
          (try simp only [Act.put, sA, sB, sC])
          refine t3 30 49 hS0 ?_
          (try simp only [Act.put, sA, sB, sC])
          refine t3 31 50 hS0 ?_
          (try simp only [Act.put, sA, sB, sC])
          refine t3 32 51 hS0 ?_
          (try simp only [Act.put, sA, sB, sC])
          refine t3 33 52 hS0 ?_
          (try simp only [Act.put, sA, sB, sC])
          refine t1 34 53 (.bool true) hS0 ?_
          (try simp only [Act.put, sA, sB, sC])
          refine wpL_done (by kernel_rfl) ?_ _
          go_wp2
          go_ret3
          exact ⟨gdd HF.out.2.1, .inl ⟨by rw [HBe.out]; simp, by rw [HBe.out]; rfl⟩⟩
        · by_cases h2 : 64 < p
          · clear hbad
            go_wp2
            have hS0 : wr.drew.cell? ⟨g, o + t * 2, none⟩ = some (.int .i64 p) ∧ wr.drew.cell? ⟨g, o + t * 2 + 1, none⟩ = some (.int .i64 q) := ⟨u0, u1⟩
            refine wp_region_L (S := fun V => V.cell? ⟨g, o + t * 2, none⟩ = some (.int .i64 p) ∧ V.cell? ⟨g, o + t * 2 + 1, none⟩ = some (.int .i64 q)) (Z := []) (by kernel_rfl) ?_
            refine t1 0 19 (.slice (some ⟨g, o, none⟩) L lc) hS0 ?_
            (try simp only [Act.put, sA, sB, sC])
            refine t1 1 20 (.int .i64 (t : Int)) hS0 ?_
            (try simp only [Act.put, sA, sB, sC])
            refine t2 2 21 (.pointer (some ⟨g, o + t * 2, none⟩)) (fun w' hw' => ?_) hS0 ?_
            · clear hw'; go_simp
            (try simp only [Act.put, sA, sB, sC])
            refine t1 3 22 (.pointer (some ⟨g, o + t * 2, none⟩)) hS0 ?_
            (try simp only [Act.put, sA, sB, sC])
            refine t2 4 23 (.int .i64 p) (fun w' hw' => ?_) hS0 ?_
            · have hc0 := hw'.1; clear hw'; go_simp
            (try simp only [Act.put, sA, sB, sC])
            refine t2 5 24 (.bool false) (fun w' hw' => ?_) hS0 ?_
            · clear hw'; go_simp
            (try simp only [Act.put, sA, sB, sC])
            refine t1 6 25 (.bool false) hS0 ?_
            (try simp only [Act.put, sA, sB, sC])
            refine t1 7 26 (.slice (some ⟨g, o, none⟩) L lc) hS0 ?_
            (try simp only [Act.put, sA, sB, sC])
            refine t1 8 27 (.int .i64 (t : Int)) hS0 ?_
            (try simp only [Act.put, sA, sB, sC])
            refine t2 9 28 (.pointer (some ⟨g, o + t * 2, none⟩)) (fun w' hw' => ?_) hS0 ?_
            · clear hw'; go_simp
            (try simp only [Act.put, sA, sB, sC])
            refine t1 10 29 (.pointer (some ⟨g, o + t * 2, none⟩)) hS0 ?_
            (try simp only [Act.put, sA, sB, sC])
            refine t2 11 30 (.int .i64 p) (fun w' hw' => ?_) hS0 ?_
            · have hc0 := hw'.1; clear hw'; go_simp
            (try simp only [Act.put, sA, sB, sC])
            refine t2 12 31 (.bool true) (fun w' hw' => ?_) hS0 ?_
            · clear hw'; go_simp
            (try simp only [Act.put, sA, sB, sC])
            refine t1 13 32 (.bool true) hS0 ?_
            (try simp only [Act.put, sA, sB, sC])
            refine t1 14 33 (.bool true) hS0 ?_
            (try simp only [Act.put, sA, sB, sC])
            refine t3 15 34 hS0 ?_
            (try simp only [Act.put, sA, sB, sC])
            refine t3 16 35 hS0 ?_
            (try simp only [Act.put, sA, sB, sC])
            refine t3 17 36 hS0 ?_
            (try simp only [Act.put, sA, sB, sC])
            refine t3 18 37 hS0 ?_
            (try simp only [Act.put, sA, sB, sC])
            refine t3 19 38 hS0 ?_
            (try simp only [Act.put, sA, sB, sC])
            refine t3 20 39 hS0 ?_
            (try simp only [Act.put, sA, sB, sC])
            refine t1 21 40 (.bool true) hS0 ?_
            (try simp only [Act.put, sA, sB, sC])
            refine t1 22 41 (.bool true) hS0 ?_
            (try simp only [Act.put, sA, sB, sC])
            refine t3 23 42 hS0 ?_
            (try simp only [Act.put, sA, sB, sC])
            refine t3 24 43 hS0 ?_
            (try simp only [Act.put, sA, sB, sC])
            refine t3 25 44 hS0 ?_
            (try simp only [Act.put, sA, sB, sC])
            refine t3 26 45 hS0 ?_
            (try simp only [Act.put, sA, sB, sC])
            refine t3 27 46 hS0 ?_
            (try simp only [Act.put, sA, sB, sC])
            refine t3 28 47 hS0 ?_
            (try simp only [Act.put, sA, sB, sC])
            refine t3 29 48 hS0 ?_
            (try simp only [Act.put, sA, sB, sC])
            refine t3 30 49 hS0 ?_
            (try simp only [Act.put, sA, sB, sC])
            refine t3 31 50 hS0 ?_
            (try simp only [Act.put, sA, sB, sC])
            refine t3 32 51 hS0 ?_
            (try simp only [Act.put, sA, sB, sC])
            refine t3 33 52 hS0 ?_
            (try simp only [Act.put, sA, sB, sC])
            refine t1 34 53 (.bool true) hS0 ?_
            (try simp only [Act.put, sA, sB, sC])
            refine wpL_done (by kernel_rfl) ?_ _
            go_wp2
            go_ret3
            exact ⟨gdd HF.out.2.1, .inl ⟨by rw [HBe.out]; simp, by rw [HBe.out]; rfl⟩⟩
          · by_cases h3 : q < 0
            · clear hbad
              go_wp2
              have hS0 : wr.drew.cell? ⟨g, o + t * 2, none⟩ = some (.int .i64 p) ∧ wr.drew.cell? ⟨g, o + t * 2 + 1, none⟩ = some (.int .i64 q) := ⟨u0, u1⟩
              refine wp_region_L (S := fun V => V.cell? ⟨g, o + t * 2, none⟩ = some (.int .i64 p) ∧ V.cell? ⟨g, o + t * 2 + 1, none⟩ = some (.int .i64 q)) (Z := []) (by kernel_rfl) ?_
              refine t1 0 19 (.slice (some ⟨g, o, none⟩) L lc) hS0 ?_
              (try simp only [Act.put, sA, sB, sC])
              refine t1 1 20 (.int .i64 (t : Int)) hS0 ?_
              (try simp only [Act.put, sA, sB, sC])
              refine t2 2 21 (.pointer (some ⟨g, o + t * 2, none⟩)) (fun w' hw' => ?_) hS0 ?_
              · clear hw'; go_simp
              (try simp only [Act.put, sA, sB, sC])
              refine t1 3 22 (.pointer (some ⟨g, o + t * 2, none⟩)) hS0 ?_
              (try simp only [Act.put, sA, sB, sC])
              refine t2 4 23 (.int .i64 p) (fun w' hw' => ?_) hS0 ?_
              · have hc0 := hw'.1; clear hw'; go_simp
              (try simp only [Act.put, sA, sB, sC])
              refine t2 5 24 (.bool false) (fun w' hw' => ?_) hS0 ?_
              · clear hw'; go_simp
              (try simp only [Act.put, sA, sB, sC])
              refine t1 6 25 (.bool false) hS0 ?_
              (try simp only [Act.put, sA, sB, sC])
              refine t1 7 26 (.slice (some ⟨g, o, none⟩) L lc) hS0 ?_
              (try simp only [Act.put, sA, sB, sC])
              refine t1 8 27 (.int .i64 (t : Int)) hS0 ?_
              (try simp only [Act.put, sA, sB, sC])
              refine t2 9 28 (.pointer (some ⟨g, o + t * 2, none⟩)) (fun w' hw' => ?_) hS0 ?_
              · clear hw'; go_simp
              (try simp only [Act.put, sA, sB, sC])
              refine t1 10 29 (.pointer (some ⟨g, o + t * 2, none⟩)) hS0 ?_
              (try simp only [Act.put, sA, sB, sC])
              refine t2 11 30 (.int .i64 p) (fun w' hw' => ?_) hS0 ?_
              · have hc0 := hw'.1; clear hw'; go_simp
              (try simp only [Act.put, sA, sB, sC])
              refine t2 12 31 (.bool false) (fun w' hw' => ?_) hS0 ?_
              · clear hw'; go_simp
              (try simp only [Act.put, sA, sB, sC])
              refine t1 13 32 (.bool false) hS0 ?_
              (try simp only [Act.put, sA, sB, sC])
              refine t1 14 33 (.bool false) hS0 ?_
              (try simp only [Act.put, sA, sB, sC])
              refine t1 15 34 (.slice (some ⟨g, o, none⟩) L lc) hS0 ?_
              (try simp only [Act.put, sA, sB, sC])
              refine t1 16 35 (.int .i64 (t : Int)) hS0 ?_
              (try simp only [Act.put, sA, sB, sC])
              refine t2 17 36 (.pointer (some ⟨g, o + t * 2, none⟩)) (fun w' hw' => ?_) hS0 ?_
              · clear hw'; go_simp
              (try simp only [Act.put, sA, sB, sC])
              refine t1 18 37 (.pointer (some ⟨g, o + t * 2 + 1, none⟩)) hS0 ?_
              (try simp only [Act.put, sA, sB, sC])
              refine t2 19 38 (.int .i64 q) (fun w' hw' => ?_) hS0 ?_
              · have hc0 := hw'.2; clear hw'; go_simp
              (try simp only [Act.put, sA, sB, sC])
              refine t2 20 39 (.bool true) (fun w' hw' => ?_) hS0 ?_
              · clear hw'; go_simp
              (try simp only [Act.put, sA, sB, sC])
              refine t1 21 40 (.bool true) hS0 ?_
              (try simp only [Act.put, sA, sB, sC])
              refine t1 22 41 (.bool true) hS0 ?_
              (try simp only [Act.put, sA, sB, sC])
              refine t3 23 42 hS0 ?_
              (try simp only [Act.put, sA, sB, sC])
              refine t3 24 43 hS0 ?_
              (try simp only [Act.put, sA, sB, sC])
              refine t3 25 44 hS0 ?_
              (try simp only [Act.put, sA, sB, sC])
              refine t3 26 45 hS0 ?_
              (try simp only [Act.put, sA, sB, sC])
              refine t3 27 46 hS0 ?_
              (try simp only [Act.put, sA, sB, sC])
              refine t3 28 47 hS0 ?_
              (try simp only [Act.put, sA, sB, sC])
              refine t3 29 48 hS0 ?_
              (try simp only [Act.put, sA, sB, sC])
              refine t3 30 49 hS0 ?_
              (try simp only [Act.put, sA, sB, sC])
              refine t3 31 50 hS0 ?_
              (try simp only [Act.put, sA, sB, sC])
              refine t3 32 51 hS0 ?_
              (try simp only [Act.put, sA, sB, sC])
              refine t3 33 52 hS0 ?_
              (try simp only [Act.put, sA, sB, sC])
              refine t1 34 53 (.bool true) hS0 ?_
              (try simp only [Act.put, sA, sB, sC])
              refine wpL_done (by kernel_rfl) ?_ _
              go_wp2
              go_ret3
              exact ⟨gdd HF.out.2.1, .inl ⟨by rw [HBe.out]; simp, by rw [HBe.out]; rfl⟩⟩
            · have h4 : p ≤ q := by omega
              clear hbad
              go_wp2
              have hS0 : wr.drew.cell? ⟨g, o + t * 2, none⟩ = some (.int .i64 p) ∧ wr.drew.cell? ⟨g, o + t * 2 + 1, none⟩ = some (.int .i64 q) := ⟨u0, u1⟩
              refine wp_region_L (S := fun V => V.cell? ⟨g, o + t * 2, none⟩ = some (.int .i64 p) ∧ V.cell? ⟨g, o + t * 2 + 1, none⟩ = some (.int .i64 q)) (Z := []) (by kernel_rfl) ?_
              refine t1 0 19 (.slice (some ⟨g, o, none⟩) L lc) hS0 ?_
              (try simp only [Act.put, sA, sB, sC])
              refine t1 1 20 (.int .i64 (t : Int)) hS0 ?_
              (try simp only [Act.put, sA, sB, sC])
              refine t2 2 21 (.pointer (some ⟨g, o + t * 2, none⟩)) (fun w' hw' => ?_) hS0 ?_
              · clear hw'; go_simp
              (try simp only [Act.put, sA, sB, sC])
              refine t1 3 22 (.pointer (some ⟨g, o + t * 2, none⟩)) hS0 ?_
              (try simp only [Act.put, sA, sB, sC])
              refine t2 4 23 (.int .i64 p) (fun w' hw' => ?_) hS0 ?_
              · have hc0 := hw'.1; clear hw'; go_simp
              (try simp only [Act.put, sA, sB, sC])
              refine t2 5 24 (.bool false) (fun w' hw' => ?_) hS0 ?_
              · clear hw'; go_simp
              (try simp only [Act.put, sA, sB, sC])
              refine t1 6 25 (.bool false) hS0 ?_
              (try simp only [Act.put, sA, sB, sC])
              refine t1 7 26 (.slice (some ⟨g, o, none⟩) L lc) hS0 ?_
              (try simp only [Act.put, sA, sB, sC])
              refine t1 8 27 (.int .i64 (t : Int)) hS0 ?_
              (try simp only [Act.put, sA, sB, sC])
              refine t2 9 28 (.pointer (some ⟨g, o + t * 2, none⟩)) (fun w' hw' => ?_) hS0 ?_
              · clear hw'; go_simp
              (try simp only [Act.put, sA, sB, sC])
              refine t1 10 29 (.pointer (some ⟨g, o + t * 2, none⟩)) hS0 ?_
              (try simp only [Act.put, sA, sB, sC])
              refine t2 11 30 (.int .i64 p) (fun w' hw' => ?_) hS0 ?_
              · have hc0 := hw'.1; clear hw'; go_simp
              (try simp only [Act.put, sA, sB, sC])
              refine t2 12 31 (.bool false) (fun w' hw' => ?_) hS0 ?_
              · clear hw'; go_simp
              (try simp only [Act.put, sA, sB, sC])
              refine t1 13 32 (.bool false) hS0 ?_
              (try simp only [Act.put, sA, sB, sC])
              refine t1 14 33 (.bool false) hS0 ?_
              (try simp only [Act.put, sA, sB, sC])
              refine t1 15 34 (.slice (some ⟨g, o, none⟩) L lc) hS0 ?_
              (try simp only [Act.put, sA, sB, sC])
              refine t1 16 35 (.int .i64 (t : Int)) hS0 ?_
              (try simp only [Act.put, sA, sB, sC])
              refine t2 17 36 (.pointer (some ⟨g, o + t * 2, none⟩)) (fun w' hw' => ?_) hS0 ?_
              · clear hw'; go_simp
              (try simp only [Act.put, sA, sB, sC])
              refine t1 18 37 (.pointer (some ⟨g, o + t * 2 + 1, none⟩)) hS0 ?_
              (try simp only [Act.put, sA, sB, sC])
              refine t2 19 38 (.int .i64 q) (fun w' hw' => ?_) hS0 ?_
              · have hc0 := hw'.2; clear hw'; go_simp
              (try simp only [Act.put, sA, sB, sC])
              refine t2 20 39 (.bool false) (fun w' hw' => ?_) hS0 ?_
              · clear hw'; go_simp
              (try simp only [Act.put, sA, sB, sC])
              refine t1 21 40 (.bool false) hS0 ?_
              (try simp only [Act.put, sA, sB, sC])
              refine t1 22 41 (.bool false) hS0 ?_
              (try simp only [Act.put, sA, sB, sC])
              refine t1 23 42 (.slice (some ⟨g, o, none⟩) L lc) hS0 ?_
              (try simp only [Act.put, sA, sB, sC])
              refine t1 24 43 (.int .i64 (t : Int)) hS0 ?_
              (try simp only [Act.put, sA, sB, sC])
              refine t2 25 44 (.pointer (some ⟨g, o + t * 2, none⟩)) (fun w' hw' => ?_) hS0 ?_
              · clear hw'; go_simp
              (try simp only [Act.put, sA, sB, sC])
              refine t1 26 45 (.pointer (some ⟨g, o + t * 2 + 1, none⟩)) hS0 ?_
              (try simp only [Act.put, sA, sB, sC])
              refine t2 27 46 (.int .i64 q) (fun w' hw' => ?_) hS0 ?_
              · have hc0 := hw'.2; clear hw'; go_simp
              (try simp only [Act.put, sA, sB, sC])
              refine t1 28 47 (.slice (some ⟨g, o, none⟩) L lc) hS0 ?_
              (try simp only [Act.put, sA, sB, sC])
              refine t1 29 48 (.int .i64 (t : Int)) hS0 ?_
              (try simp only [Act.put, sA, sB, sC])
              refine t2 30 49 (.pointer (some ⟨g, o + t * 2, none⟩)) (fun w' hw' => ?_) hS0 ?_
              · clear hw'; go_simp
              (try simp only [Act.put, sA, sB, sC])
              refine t1 31 50 (.pointer (some ⟨g, o + t * 2, none⟩)) hS0 ?_
              (try simp only [Act.put, sA, sB, sC])
              refine t2 32 51 (.int .i64 p) (fun w' hw' => ?_) hS0 ?_
              · have hc0 := hw'.1; clear hw'; go_simp
              (try simp only [Act.put, sA, sB, sC])
              refine t2 33 52 (.bool true) (fun w' hw' => ?_) hS0 ?_
              · clear hw'; go_simp
              (try simp only [Act.put, sA, sB, sC])
              refine t1 34 53 (.bool true) hS0 ?_
              (try simp only [Act.put, sA, sB, sC])
              refine wpL_done (by kernel_rfl) ?_ _
              go_wp2
              go_ret3
              exact ⟨gdd HF.out.2.1, .inl ⟨by rw [HBe.out]; simp, by rw [HBe.out]; rfl⟩⟩
    · have e : t = L := by omega
      subst e
      rw [List.take_of_length_le (by rw [HL.out]; exact Nat.le_refl _)] at hall
      have HA := Lib.hid hall
      have HGR := Lib.hid hgr
      clear hall hgr hlt ht
      by_cases h64 : 64 < t
      · have HBe : Hid (baseM l = (0, 2)) := Lib.hid (by rw [baseM, if_neg (by rw [HA.out]; simp), if_pos (by rw [← HL.out]; exact h64)])
        go_wp2
        go_ret3
        exact ⟨HGR.out, .inl ⟨by rw [HBe.out]; simp, by rw [HBe.out]; rfl⟩⟩
      · have HBe : Hid (baseM l = match baseF l 1 with | none => (0, 2) | some b => (b, 0)) := Lib.hid (by rw [baseM, if_neg (by rw [HA.out]; simp), if_neg (by rw [← HL.out]; exact h64)]; cases baseF l 1 <;> rfl)
        go_wp2
        go_loopw [6, 7] (fun bv iv V => ∃ k b : Nat, k ≤ t ∧ iv = .int .i64 (k : Int) ∧ bv = .int .i64 (b : Int) ∧ 1 ≤ b ∧ b ≤ 5000 ∧ Hid (baseF l 1 = baseF (l.drop k) b ∧ w.grownBy V none)) (fun _ iv _ => t - (intOf iv).toNat)
        case atStart => exact ⟨0, 1, Nat.zero_le _, rfl, rfl, by omega, by omega, Lib.hid ⟨by simp, HGR.out⟩⟩
        case round =>
          obtain ⟨k, b, hk, rfl, rfl, hb1, hb2, HG⟩ := hrel
          obtain ⟨hbf, hgr⟩ := HG.out
          clear HG
          by_cases hlt : k < t
          · obtain ⟨x, hx⟩ : ∃ x, l[k]? = some x := ⟨_, List.getElem?_eq_getElem (by rw [← HL.out]; exact hlt)⟩
            obtain ⟨g, o, rfl, hp1, hp2⟩ := HP.out k x hx
            have hok : okP x = true := List.all_eq_true.1 HA.out x (List.mem_of_getElem? hx)
            obtain ⟨xp, xo⟩ := x
            obtain ⟨h1, h2, h3, h4⟩ := Rat.okP_one hok
            dsimp only at h1 h2 h3 h4
            obtain ⟨p, rfl⟩ : ∃ p : Nat, xp = (p : Int) := ⟨xp.toNat, by omega⟩
            have hp0 : 1 ≤ p := by omega
            have hp64 : p ≤ 64 := by omega
            rw [List.drop_eq_getElem?_toList_append, hx] at hbf
            simp only [Option.toList_some, List.singleton_append, baseF, Int.toNat_natCast] at hbf
            have HF := Lib.hid (And.intro hbf (And.intro hgr hp1))
            clear hbf hgr hx hp1 hp2 h1 h2 h3 h4 hok
            go_wp2
            go_loopw [8] (fun nv V => ∃ N m : Nat, nv = .int .i64 (N : Int) ∧ N ≤ 320000 ∧ Hid (N = b * m ∧ 0 < m ∧ m ≤ p ∧ (∀ j, 0 < j → j < m → ¬ p ∣ b * j) ∧ w.grownBy V none)) (fun nv _ => 330000 - (intOf nv).toNat)
            case atStart => exact ⟨b, 1, rfl, by omega, Lib.hid ⟨by omega, by omega, hp0, fun j h1 h2 => by omega, HF.out.2.1⟩⟩
            case round =>
              obtain ⟨N, m, rfl, hN, HM⟩ := hrel
              have u0 := HM.out.2.2.2.2.cell HF.out.2.2 (by simp)
              (try dsimp only at u0)
              obtain ⟨r, hr⟩ : ∃ r, r = N % p := ⟨_, rfl⟩
              have er : (N : Int) % (p : Int) = (r : Int) := by rw [hr]; simp
              have hrp : r < p := by rw [hr]; exact Nat.mod_lt _ (by omega)
              by_cases h0 : r = 0
              · have hd : p ∣ b * m := by rw [← HM.out.1]; exact Nat.dvd_of_mod_eq_zero (by rw [← hr]; exact h0)
                have hlc : N = Nat.lcm b p := by rw [HM.out.1]; exact Rat.lcm_least (by omega) (by omega) HM.out.2.1 hd HM.out.2.2.2.1
                have hbf := HF.out.1
                rw [← hlc] at hbf
                have hN1 : 1 ≤ N := by rw [hlc]; exact Nat.lcm_pos (by omega) (by omega)
                have HBF := Lib.hid hbf
                clear hbf hlc hd hr
                subst h0
                by_cases hM5 : N ≤ 5000
                · go_wp2
                  exact ⟨⟨k + 1, N, by omega, by go_num, rfl, hN1, hM5, Lib.hid ⟨by rw [HBF.out, if_neg (by omega)], HM.out.2.2.2.2⟩⟩, by simp [intOf]; omega⟩
                · have HN : Hid (baseM l = (0, 2)) := Lib.hid (by rw [HBe.out, HBF.out, if_pos (by omega)])
                  go_wp2
                  go_ret3
                  exact ⟨HM.out.2.2.2.2, .inl ⟨by rw [HN.out]; simp, by rw [HN.out]; rfl⟩⟩
              · have hnd : ¬ p ∣ b * m := fun hd => h0 (by rw [hr, HM.out.1]; exact Nat.mod_eq_zero_of_dvd hd)
                have hmp : m < p := by
                  have := HM.out.2.2.1
                  rcases Nat.lt_or_ge m p with e | e
                  · exact e
                  · exact absurd (by rw [show m = p by omega]; exact Nat.dvd_mul_left p b) hnd
                have hNb : N + b ≤ 320000 := by
                  rw [HM.out.1, ← Nat.mul_succ]
                  exact Nat.le_trans (Nat.mul_le_mul hb2 (Nat.le_trans hmp hp64)) (by decide)
                have HNx : Hid (∀ j, 0 < j → j < m + 1 → ¬ p ∣ b * j) := Lib.hid (fun j h1 h2 => by
                  rcases Nat.lt_or_ge j m with e | e
                  · exact HM.out.2.2.2.1 j h1 e
                  · rw [show j = m by omega]; exact hnd)
                have hr0 : ((r : Int) == 0) = false := by simp; exact h0
                have hr1 : ((r : Int) != 0) = true := by simp; exact h0
                clear hnd hr
                go_wp2
                exact ⟨⟨N + b, m + 1, by go_num, hNb, Lib.hid ⟨by rw [HM.out.1, Nat.mul_succ], by omega, hmp, HNx.out, HM.out.2.2.2.2⟩⟩, by simp [intOf]; omega⟩
          · have e : k = t := by omega
            subst e
            rw [List.drop_of_length_le (by rw [HL.out]; exact Nat.le_refl _)] at hbf
            have HN : Hid (baseM l = (b, 0)) := Lib.hid (by rw [HBe.out, hbf]; rfl)
            have HR := Lib.hid hgr
            clear hbf hgr
            have hbp : 0 < b := hb1
            obtain ⟨it1, hit1, hz1, hsz1, hby1⟩ := infoP info_bool
            obtain ⟨it2, hit2, hz2, hsz2, hby2⟩ := infoP info_row
            have HI1 := Lib.hid (And.intro hit1 (And.intro hz1 (And.intro hsz1 hby1)))
            have HI2 := Lib.hid (And.intro hit2 (And.intro hz2 (And.intro hsz2 hby2)))
            clear hit1 hz1 hsz1 hby1 hit2 hz2 hsz2 hby2
            go_wp2
            go_loopw [9, 10] (fun rv iv V => ∃ (i : Nat) (ra : Option Addr) (rc : Nat), i ≤ b ∧ iv = .int .i64 (i : Int) ∧ rv = .slice ra i rc ∧ Hid (Rws l w k i (.slice ra i rc) V)) (fun _ iv _ => b - (intOf iv).toNat)
            case atStart => exact ⟨0, none, 0, Nat.zero_le _, rfl, rfl, Lib.hid ⟨[], World.ownsRow_nil _ _ _ _, by simp, HR.out⟩⟩
            case round =>
              obtain ⟨i, ra, rc, hi, rfl, rfl, HW⟩ := hrel
              obtain ⟨V0, rfl⟩ : ∃ V0, V0 = wr := ⟨_, rfl⟩
              by_cases hlt2 : i < b
              · obtain ⟨us, hW1, hW2, hW3⟩ := HW.out
                have HWW := Lib.hid (And.intro hW1 (And.intro hW2 hW3))
                clear hW1 hW2 hW3 HW
                go_wp2
                go_loopw [11, 12] (fun rv kv V => ∃ (j : Nat) (a : Option Addr) (c : Nat), j ≤ k ∧ kv = .int .i64 (j : Int) ∧ rv = .slice a j c ∧ Hid (V.ownsRow V0.heap.size 4 1 (.slice a j c) j (bools l i j) ∧ V0.grownBy V none)) (fun _ kv _ => k - (intOf kv).toNat)
                case atStart => exact ⟨0, none, 0, Nat.zero_le _, rfl, rfl, Lib.hid ⟨World.ownsRow_nil _ _ _ _, World.grownBy.refl _ _⟩⟩
                case round =>
                  obtain ⟨j, a, c, hj, rfl, rfl, HV⟩ := hrel
                  by_cases hlt3 : j < k
                  · obtain ⟨x, hx⟩ : ∃ x, l[j]? = some x := ⟨_, List.getElem?_eq_getElem (by rw [← HL.out]; exact hlt3)⟩
                    obtain ⟨g, o, rfl, hp1, hp2⟩ := HP.out j x hx
                    have hok : okP x = true := List.all_eq_true.1 HA.out x (List.mem_of_getElem? hx)
                    obtain ⟨xp, xo⟩ := x
                    obtain ⟨h1, h2, h3, h4⟩ := Rat.okP_one hok
                    dsimp only at h1 h2 h3 h4
                    obtain ⟨p, rfl⟩ : ∃ p : Nat, xp = (p : Int) := ⟨xp.toNat, by omega⟩
                    obtain ⟨q, rfl⟩ : ∃ q : Nat, xo = (q : Int) := ⟨xo.toNat, by omega⟩
                    have HX := Lib.hid hx
                    have u0 := (gtrans HWW.out.2.2 HV.out.2).cell hp1 (by simp)
                    have u1 := (gtrans HWW.out.2.2 HV.out.2).cell hp2 (by simp)
                    (try dsimp only at u0 u1)
                    have hp0 : 1 ≤ p := by omega
                    have hp64 : p ≤ 64 := by omega
                    obtain ⟨m, hm⟩ : ∃ m, m = i % p := ⟨_, rfl⟩
                    have er : (i : Int) % (p : Int) = (m : Int) := by rw [hm]; simp
                    have hmp : m < p := by rw [hm]; exact Nat.mod_lt _ (by omega)
                    have er2 : (i : Int).tmod (p : Int) = (m : Int) := by rw [hm]; simp [Int.tmod_eq_emod_of_nonneg]
                    have hp3 : ¬ (p : Int) = 0 := by omega
                    have hp4 : ¬ p = 0 := by omega
                    have hp5 : ((p : Int) == 0) = false := by simp; omega
                    have HM := Lib.hid hm
                    have M : Hid (j + 1 ≤ maxLen ∧ (j + 1) * 1 ≤ 140737488355328 ∧ V0.heap.size ≤ wr.heap.size) := Lib.hid ⟨by unfold maxLen; omega, by omega, HV.out.2.size⟩
                    clear hx hp1 hp2 hok h1 h2 h3 h4 hm
                    by_cases hx : i % p = q
                    · have hon : isOn l i j = true := by
                        rw [isOn, (Rat.toN_at HX.out).1, (Rat.toN_at HX.out).2]
                        simpa using hx
                      have e5 : ((m : Int) == (q : Int)) = true := by rw [HM.out]; simp; omega
                      have HON := Lib.hid hon
                      clear hon hx
                      go_wp2
                      go_region_law (refine step_append_own rfl (.tmp 89) (.tmp 103) 31 rfl V0.heap.size 4 it1 _ 1 1 Try.underlying31 HI1.out.1 HI1.out.2.1 HI1.out.2.2.1 HI1.out.2.2.2 rfl (by decide) (.slice a j c) j (bools l i j) (by simp [Act.eval]) (HV.out.1.alloc _) ⟨wr.heap.size, 0, none⟩ 1 1 [.bool true] (by simp [Act.eval]) rfl (row_cells (heap_alloc_new wr _)) (by simp [Value.oneCell']) M.out.1 M.out.2.1 (Nat.le_trans M.out.2.2 (by simp)) ?_; intro v' w' h1 h2; obtain ⟨a9, k9, rfl⟩ := ownForm h1; have HN9 := Lib.hid (And.intro h1 h2); clear h1 h2)
                      all_goals go_wp2
                      all_goals refine ⟨⟨j + 1, a9, k9, by omega, by go_num, rfl, Lib.hid ⟨by rw [bools_succ, HON.out]; exact HN9.out.1, ?_⟩⟩, by simp [intOf]; omega⟩
                      all_goals exact grown_of_below ((below_of0 HV.out.2).trans ((below_of (show wr.grownBy _ none by first | exact gaD _ _ | exact gDa _ _ | exact World.grownBy_alloc _ _ _) HV.out.2.size (by simp)).trans (below_of HN9.out.2 (by have := HV.out.2.size; first | (simp; done) | (simp; omega)) (fun x e => (HV.out.1.lt x e).1))))
                    · have hon : isOn l i j = false := by
                        rw [isOn, (Rat.toN_at HX.out).1, (Rat.toN_at HX.out).2]
                        simpa using hx
                      have e5 : ((m : Int) == (q : Int)) = false := by rw [HM.out]; simp; omega
                      have HON := Lib.hid hon
                      clear hon hx
                      go_wp2
                      go_region_law (refine step_append_own rfl (.tmp 89) (.tmp 103) 31 rfl V0.heap.size 4 it1 _ 1 1 Try.underlying31 HI1.out.1 HI1.out.2.1 HI1.out.2.2.1 HI1.out.2.2.2 rfl (by decide) (.slice a j c) j (bools l i j) (by simp [Act.eval]) (HV.out.1.alloc _) ⟨wr.heap.size, 0, none⟩ 1 1 [.bool false] (by simp [Act.eval]) rfl (row_cells (heap_alloc_new wr _)) (by simp [Value.oneCell']) M.out.1 M.out.2.1 (Nat.le_trans M.out.2.2 (by simp)) ?_; intro v' w' h1 h2; obtain ⟨a9, k9, rfl⟩ := ownForm h1; have HN9 := Lib.hid (And.intro h1 h2); clear h1 h2)
                      all_goals go_wp2
                      all_goals refine ⟨⟨j + 1, a9, k9, by omega, by go_num, rfl, Lib.hid ⟨by rw [bools_succ, HON.out]; exact HN9.out.1, ?_⟩⟩, by simp [intOf]; omega⟩
                      all_goals exact grown_of_below ((below_of0 HV.out.2).trans ((below_of (show wr.grownBy _ none by first | exact gaD _ _ | exact gDa _ _ | exact World.grownBy_alloc _ _ _) HV.out.2.size (by simp)).trans (below_of HN9.out.2 (by have := HV.out.2.size; first | (simp; done) | (simp; omega)) (fun x e => (HV.out.1.lt x e).1))))
                  · have e : j = k := by omega
                    subst e
                    have hrw : wr.ownsRow w.heap.size 31 1 (.slice ra i rc) i us := HWW.out.1.kept HV.out.2 (by cases (Value.slice ra i rc).ownBlock <;> simp)
                    have HRW := Lib.hid hrw
                    have M : Hid (i + 1 ≤ maxLen ∧ (i + 1) * 24 ≤ 140737488355328 ∧ w.heap.size ≤ wr.heap.size) := Lib.hid ⟨by unfold maxLen; omega, by omega, Nat.le_trans HWW.out.2.2.size HV.out.2.size⟩
                    clear hrw hlt3
                    go_wp2_with (at_builtin; refine wpList_append_own _ rfl _ _ 24 rfl w.heap.size 31 it2 _ 1 24 Try.underlying24 HI2.out.1 HI2.out.2.1 HI2.out.2.2.1 HI2.out.2.2.2 rfl (by decide) (.slice ra i rc) i us rfl (HRW.out.alloc _) ⟨_, 0, none⟩ 1 1 [.slice a j c] rfl rfl (row_cells (heap_alloc_new wr _)) (by simp [Value.oneCell']) M.out.1 M.out.2.1 (Nat.le_trans M.out.2.2 (by simp)) ?_; intro v' w3 h1 h2 h3; obtain ⟨a9, k9, rfl⟩ := ownForm h1; have HN9 := Lib.hid (And.intro h1 h2); clear h1 h2 h3)
                    exact ⟨⟨i + 1, a9, k9, by omega, by go_num, rfl, Lib.hid (Rws.step HWW.out.1 HWW.out.2.1 HWW.out.2.2 HV.out.2 HV.out.1 (World.grownBy_alloc wr _ none) HN9.out.1 HN9.out.2)⟩, by simp [intOf]; omega⟩
              · have e : i = b := by omega
                subst e
                go_wp2
                go_ret3
                refine ⟨HW.out.choose_spec.2.2, .inr ⟨by rw [HN.out], _, by rw [HN.out]; rfl, ?_⟩⟩
                rw [HN.out, ← HL.out]
                exact HW.out.rows hbp
end Go.Proofs.Ytncbaeephnahjaa
