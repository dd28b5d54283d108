/- Package code: newReader, its end, numbers into places. -/
import Derived.Test.YtcjainfcndlllaaCgE
namespace Go.Proofs.Ytcjainfcndlllaa
open Go.RowKit Go.Maps Go.WideMaps

namespace Cd
/-- so many numbers -/
def rdN : Nat → List UInt8 → Option (List Int × List UInt8)
  | 0, l => some ([], l)
  | k + 1, l => match rd1 l with
    | none => none
    | some (n, r) => (rdN k r).map fun x => (n :: x.1, x.2)
end Cd
/-- the reader as a value -/
def rdV (A B : Nat) : Array Value := #[.func (.func 63) #[] #[.pointer (some ⟨A, 0, none⟩), .pointer (some ⟨B, 0, none⟩)], .func (.func 65) #[] #[.pointer (some ⟨A, 0, none⟩), .pointer (some ⟨B, 0, none⟩)]]

set_option maxHeartbeats 2000000 in
theorem newReader_any (M : Nat) (w : World) (a : Option Addr) (c : Nat) (l : List UInt8) (hb : BytesAt w a l) (hM : M ≤ w.heap.size) (hbM : ∀ g o, a = some ⟨g, o, none⟩ → l ≠ [] → g < M) :
    Calls Try.prog 36 #[.slice a l.length c] w fun e w' => ∃ A B, e = .returned (.agg (rdV A B)) ∧ Rn M w' A B l 0 ∧ w.grownBy w' none ∧ w.heap.size ≤ A ∧ w.heap.size ≤ B := by
  obtain ⟨w3, hw3⟩ : ∃ w3, w3 = ((w.alloc (.cells #[.slice a l.length c] 38)).alloc (.cells (rdV (w.heap.size + 1 + 1) w.heap.size) 75)).alloc (.cells #[.int .i64 0] 3) := ⟨_, rfl⟩
  have hb0 : w3.heap[w.heap.size]? = some (.cells #[.slice a l.length c] 38 (0, 0)) := by rw [hw3]; exact row_alloc (row_alloc (heap_alloc_new w _) _) _
  have hr0 : w3.heap[w.heap.size + 1]? = some (.cells (rdV (w.heap.size + 1 + 1) w.heap.size) 75 (0, 0)) := by
    rw [hw3]
    have := heap_alloc_new (w.alloc (.cells #[.slice a l.length c] 38)) (.cells (rdV (w.heap.size + 1 + 1) w.heap.size) 75)
    rw [World.size_alloc] at this
    exact row_alloc this _
  have ha0 : w3.heap[w.heap.size + 1 + 1]? = some (.cells #[.int .i64 0] 3 (0, 0)) := by
    rw [hw3]
    have := heap_alloc_new ((w.alloc (.cells #[.slice a l.length c] 38)).alloc (.cells (rdV (w.heap.size + 1 + 1) w.heap.size) 75)) (.cells #[.int .i64 0] 3)
    rw [World.size_alloc, World.size_alloc] at this
    exact this
  have hg : w.grownBy w3 none := by rw [hw3]; exact ((World.grownBy_alloc w _ none).trans (World.grownBy_alloc _ _ none)).trans (World.grownBy_alloc _ _ none)
  have HF : Hid (Rn M w3 (w.heap.size + 1 + 1) w.heap.size l 0 ∧ w.grownBy w3 none) := Lib.hid ⟨⟨ha0, ⟨a, c, hb0, fun i b h => by
    obtain ⟨g, o, e, hc⟩ := hb i b h
    exact ⟨g, o, e, hg.cell hc (by simp)⟩, hbM⟩, by omega, hM, by omega, Nat.zero_le _⟩, hg⟩
  have HR := Lib.hid hr0
  have HW := Lib.hid hw3
  clear hb0 hr0 ha0 hg hb hw3
  go_enter Try.func36, Try.ntmps36
  go_wp2
  have e := HW.out
  unfold rdV at e
  rw [← e]
  exact bodyPost_ret (results_cell_row rfl _ _ (w.heap.size + 1) 75 _ (0, 0) _ rfl HR.out Try.underlying75 rfl (by kernel_rfl)) rfl ⟨w.heap.size + 1 + 1, w.heap.size, rfl, HF.out.1, HF.out.2, by omega, Nat.le_refl _⟩

theorem atEnd_any (M A B : Nat) (l : List UInt8) (p : Nat) (w : World) (h : Rn M w A B l p) : Calls Try.prog 65 #[.pointer (some ⟨A, 0, none⟩), .pointer (some ⟨B, 0, none⟩)] w fun e w' => e = .returned (.bool (decide (p = l.length))) ∧ w' = w := by
  obtain ⟨a, c, hbx, -, -⟩ := h.box
  have k0 := cell_of_row w _ 0 _ _ _ h.at_
  have k1 := cell_of_row w _ 0 _ _ _ hbx
  clear hbx h
  go_enter Try.func65, Try.ntmps65
  go_wp2
  go_ret
  exact ⟨ret_bool (by rw [Bool.eq_iff_iff]; simp; omega), rfl⟩

/-- pointers to k cells in a row -/
def ptrs (X o k : Nat) : List Value := (List.range k).map fun j => .pointer (some ⟨X, o + j, none⟩)
/-- a row with some cells set -/
def setN : Nat → List Int → Array Value → Array Value
  | _, [], a => a
  | o, n :: ns, a => setN (o + 1) ns (a.setIfInBounds o (.int .i64 n))
theorem setN_size : ∀ (ns : List Int) (o : Nat) (a : Array Value), (setN o ns a).size = a.size
  | [], _, _ => rfl
  | _ :: ns, o, a => by rw [setN, setN_size ns, Array.size_setIfInBounds]
/-- what numbers leaves -/
def NsP (M : Nat) (w : World) (A B X : Nat) (T : TypeId) (o k : Nat) (arr : Array Value) (l : List UInt8) (p : Nat) (e : Ending) (w' : World) : Prop := Kp [A, X] w w' ∧ ∃ q ms, Rn M w' A B l q ∧ w'.heap[X]? = some (.cells (setN o ms arr) T (0, 0)) ∧ ms.length ≤ k ∧ match Cd.rdN k (l.drop p) with
  | none => e = .returned (.bool false)
  | some (ns, r) => e = .returned (.bool true) ∧ l.drop q = r ∧ ms = ns

theorem Rn.kp {M : Nat} {w w' : World} {X : List Nat} {A B : Nat} {l : List UInt8} {p : Nat} (h : Rn M w A B l p) (hk : Kp X w w') (hA : A ∉ X) (hB : B ∉ X) (hX : ∀ x ∈ X, M ≤ x) : Rn M w' A B l p := by
  obtain ⟨a, c, h1, h2, h3⟩ := h.box
  refine ⟨(hk.block _ (gl h.at_) hA).trans h.at_, ⟨a, c, (hk.block _ (gl h1) hB).trans h1, fun i b hb => ?_, h3⟩, h.hA, h.hB, h.ne, h.le⟩
  obtain ⟨g, o, e, hc⟩ := h2 i b hb
  refine ⟨g, o, e, hk.cell hc (fun hx => ?_)⟩
  have h5 := h3 g o e (fun e3 => by rw [e3] at hb; simp at hb)
  have := hX g hx
  omega
theorem setN_up : ∀ (ns : List Int) (n : Int) (o : Nat) (a : Array Value), setN o (ns ++ [n]) a = (setN o ns a).setIfInBounds (o + ns.length) (.int .i64 n)
  | [], _, _, _ => rfl
  | m :: ns, n, o, a => by
    rw [List.cons_append, setN, setN_up ns, setN, List.length_cons, show o + 1 + ns.length = o + (ns.length + 1) by omega]
theorem rdN_up : ∀ (t : Nat) (l : List UInt8) (k : Nat), Cd.rdN (t + k) l = match Cd.rdN t l with | none => none | some (ns, r) => (Cd.rdN k r).map fun x => (ns ++ x.1, x.2)
  | 0, l, k => by
    rw [Nat.zero_add]
    show Cd.rdN k l = (Cd.rdN k l).map fun x => ([] ++ x.1, x.2)
    cases Cd.rdN k l <;> rfl
  | t + 1, l, k => by
    rw [show t + 1 + k = (t + k) + 1 by omega, Cd.rdN, Cd.rdN]
    cases Cd.rd1 l with
    | none => rfl
    | some x =>
      obtain ⟨n, r⟩ := x
      simp only
      rw [rdN_up t r k]
      cases Cd.rdN t r with
      | none => rfl
      | some y =>
        obtain ⟨ns, r2⟩ := y
        simp only [Option.map_some]
        cases Cd.rdN k r2 <;> rfl
theorem rdN_len : ∀ (t : Nat) (l : List UInt8) (ns : List Int) (r : List UInt8), Cd.rdN t l = some (ns, r) → ns.length = t
  | 0, _, _, _, h => by cases h; rfl
  | t + 1, l, ns, r, h => by
    rw [Cd.rdN] at h
    cases h1 : Cd.rd1 l with
    | none => rw [h1] at h; cases h
    | some x =>
      rw [h1] at h
      simp only at h
      cases h2 : Cd.rdN t x.2 with
      | none => rw [h2] at h; cases h
      | some y =>
        rw [h2] at h
        cases h
        simp [rdN_len t _ _ _ h2]

set_option maxHeartbeats 4000000 in
set_option maxRecDepth 100000 in
theorem numbers_any (M : Nat) (w : World) (A B X Y : Nat) (T : TypeId) (o k : Nat) (arr : Array Value) (l : List UInt8) (p : Nat) (hl : l.length ≤ 4000000) (hk : k ≤ 10) (hR : Rn M w A B l p) (hX : w.heap[X]? = some (.cells arr T (0, 0))) (ho : o + k ≤ arr.size) (hY : w.heap[Y]? = some (.cells (ptrs X o k).toArray 78 (0, 0))) (hne : X ≠ A ∧ X ≠ B ∧ Y ≠ A ∧ Y ≠ X) (hM : M ≤ X) :
    Calls Try.prog 37 #[.agg (rdV A B), .slice (some ⟨Y, 0, none⟩) k k] w (NsP M w A B X T o k arr l p) := by
  have HNM := fun q V (h : Rn M V A B l q) => number_any M A B l q hl V h
  have HNE := Lib.hid (And.intro hne (And.intro hM (And.intro ho (And.intro (gl hX) (gl hY)))))
  have hbx := heap_alloc_new w (.cells (rdV A B) 75)
  have HST : Hid (Kp [A, X] w (w.alloc (.cells (rdV A B) 75)) ∧ Rn M (w.alloc (.cells (rdV A B) 75)) A B l p ∧ (w.alloc (.cells (rdV A B) 75)).heap[X]? = some (.cells arr T (0, 0)) ∧ (w.alloc (.cells (rdV A B) 75)).heap[Y]? = some (.cells (ptrs X o k).toArray 78 (0, 0)) ∧ (w.alloc (.cells (rdV A B) 75)).heap[w.heap.size]? = some (.cells (rdV A B) 75 (0, 0))) := Lib.hid ⟨Kp.of0 (World.grownBy_alloc w _ none) _, hR.on (World.grownBy_alloc w _ none), row_alloc hX _, row_alloc hY _, hbx⟩
  have HAS0 : Hid (¬ w.heap.size = A) := Lib.hid (by have := gl hR.at_; omega)
  clear hR hX hY hne hM hbx ho
  go_enter Try.func37, Try.ntmps37
  go_wp2
  go_loopw [9] (fun iv wr => ∃ t : Nat, t ≤ k ∧ iv = .int .i64 (t : Int) ∧ Hid (∃ q ns r arr', Kp [A, X] w wr ∧ Rn M wr A B l q ∧ wr.heap[X]? = some (.cells arr' T (0, 0)) ∧ wr.heap[Y]? = some (.cells (ptrs X o k).toArray 78 (0, 0)) ∧ wr.heap[w.heap.size]? = some (.cells (rdV A B) 75 (0, 0)) ∧ Cd.rdN t (l.drop p) = some (ns, r) ∧ l.drop q = r ∧ arr' = setN o ns arr)) (fun i _ => k - (intOf i).toNat)
  case atStart => exact ⟨0, Nat.zero_le _, rfl, Lib.hid ⟨p, [], _, arr, HST.out.1, HST.out.2.1, HST.out.2.2.1, HST.out.2.2.2.1, HST.out.2.2.2.2, rfl, rfl, rfl⟩⟩
  case round =>
    obtain ⟨t, ht, rfl, HT⟩ := hrel
    obtain ⟨q, ns, r, arr', t1, t2, t3, t4, t5, t6, t7, t8⟩ := HT.out
    by_cases hlt : t < k
    · have y0 : wr.cell? ⟨Y, t, none⟩ = some (.pointer (some ⟨X, o + t, none⟩)) := by
        unfold World.cell?
        rw [t4]
        simp [ptrs, hlt]
      have y1 : wr.cell? ⟨w.heap.size, 0, none⟩ = some (.func (.func 63) #[] #[.pointer (some ⟨A, 0, none⟩), .pointer (some ⟨B, 0, none⟩)]) := by
        unfold World.cell?
        rw [t5]
        rfl
      have hnum := HNM q wr t2
      have HAS : Hid (¬ w.heap.size = A) := HAS0
      cases h1 : Cd.rd1 (l.drop q) with
      | none =>
        have hnum' : Calls Try.prog 63 #[.pointer (some ⟨A, 0, none⟩), .pointer (some ⟨B, 0, none⟩)] wr fun e w' => e = .returned (.tuple #[.int .i64 0, .bool false]) ∧ wr.grownBy w' (some A) ∧ ∃ q', Rn M w' A B l q' := hnum.mono fun e w' H => by
          obtain ⟨hg, q', hr, hm⟩ := H
          rw [h1] at hm
          exact ⟨hm, hg, q', hr⟩
        have hup := fun (V : World) (hg : wr.grownBy V (some A)) => (show V.heap[X]? = some (.cells arr' T (0, 0)) ∧ V.heap[Y]? = some (.cells (ptrs X o k).toArray 78 (0, 0)) ∧ V.heap[w.heap.size]? = some (.cells (rdV A B) 75 (0, 0)) from ⟨(hg.block _ (gl t3) (by simp; exact HNE.out.1.1)).trans t3, (hg.block _ (gl t4) (by simp; exact HNE.out.1.2.2.1)).trans t4, (hg.block _ (gl t5) (by simp; have := gl t2.at_; have := HNE.out.2.2.2.1; exact HAS.out)).trans t5⟩)
        have hcx := fun (V : World) (hg : wr.grownBy V (some A)) => (show (∃ u, V.cell? ⟨X, o + t, none⟩ = some u) ∧ V.frozen? ⟨X, o + t, none⟩ = false from by
          have h2 := (hup V hg).1
          have h3 := HNE.out.2.2.1
          have h4 : arr'.size = arr.size := by rw [t8, setN_size]
          refine ⟨⟨arr'[o + t]'(by omega), ?_⟩, by simp [World.frozen?, h2]⟩
          unfold World.cell?
          rw [h2]
          simp)
        have HUP := Lib.hid (And.intro hup (And.intro t1 (And.intro t2 (And.intro t6 (And.intro t7 t8)))))
        have HC := Lib.hid hcx
        clear hup hcx hnum t1 t2 t3 t4 t5 t6 t7 t8
        go_wp2_with (go_at_call 63; refine hnum'.mono ?_; rintro e V ⟨rfl, hg, hq⟩; obtain ⟨⟨u, hu⟩, hf⟩ := HC.out V hg; have HV := Lib.hid (And.intro hg hq); clear hg hq)
        obtain ⟨q', hq'⟩ := HV.out.2
        have hkx : Kp [X] V (V.setCell ⟨X, o + t, none⟩ (.int .i64 0)) := (Kp.refl _ _).set (by simp) _
        have hkA : Kp [A, X] wr V := Kp.of HV.out.1 _ (fun k e _ => by cases e; simp)
        have hk2 : Kp [A, X] w (V.setCell ⟨X, o + t, none⟩ (.int .i64 0)) := HUP.out.2.1.trans (hkA.trans (hkx.mono (fun k hk _ => by simp at hk; simp [hk])))
        have hxx := heap_setCell_same V X (o + t) _ _ (.int .i64 0) (HUP.out.1 V HV.out.1).1
        go_ret
        refine ⟨hk2, q', ns ++ [0], hq'.kp hkx (by simp; exact fun e => HNE.out.1.1 e.symm) (by simp; exact fun e => HNE.out.1.2.1 e.symm) (fun x hx => by simp at hx; rw [hx]; exact HNE.out.2.1), by rw [hxx, HUP.out.2.2.2.2.2, setN_up, rdN_len _ _ _ _ HUP.out.2.2.2.1], by rw [List.length_append, rdN_len _ _ _ _ HUP.out.2.2.2.1]; simp; omega, ?_⟩
        have e : Cd.rdN k (l.drop p) = none := by
          rw [show k = t + (k - t - 1 + 1) by omega, rdN_up, HUP.out.2.2.2.1]
          simp only
          rw [← HUP.out.2.2.2.2.1, Cd.rdN, h1]
          rfl
        rw [e]
        exact rfl
      | some x =>
        obtain ⟨n, r2⟩ := x
        have hnum' : Calls Try.prog 63 #[.pointer (some ⟨A, 0, none⟩), .pointer (some ⟨B, 0, none⟩)] wr fun e w' => e = .returned (.tuple #[.int .i64 n, .bool true]) ∧ wr.grownBy w' (some A) ∧ ∃ q', Rn M w' A B l q' ∧ l.drop q' = r2 := hnum.mono fun e w' H => by
          obtain ⟨hg, q', hr, hm⟩ := H
          rw [h1] at hm
          exact ⟨hm.1, hg, q', hr, hm.2⟩
        have hup := fun (V : World) (hg : wr.grownBy V (some A)) => (show V.heap[X]? = some (.cells arr' T (0, 0)) ∧ V.heap[Y]? = some (.cells (ptrs X o k).toArray 78 (0, 0)) ∧ V.heap[w.heap.size]? = some (.cells (rdV A B) 75 (0, 0)) from ⟨(hg.block _ (gl t3) (by simp; exact HNE.out.1.1)).trans t3, (hg.block _ (gl t4) (by simp; exact HNE.out.1.2.2.1)).trans t4, (hg.block _ (gl t5) (by simp; have := gl t2.at_; have := HNE.out.2.2.2.1; exact HAS.out)).trans t5⟩)
        have hcx := fun (V : World) (hg : wr.grownBy V (some A)) => (show (∃ u, V.cell? ⟨X, o + t, none⟩ = some u) ∧ V.frozen? ⟨X, o + t, none⟩ = false from by
          have h2 := (hup V hg).1
          have h3 := HNE.out.2.2.1
          have h4 : arr'.size = arr.size := by rw [t8, setN_size]
          refine ⟨⟨arr'[o + t]'(by omega), ?_⟩, by simp [World.frozen?, h2]⟩
          unfold World.cell?
          rw [h2]
          simp)
        have HUP := Lib.hid (And.intro hup (And.intro t1 (And.intro t2 (And.intro t6 (And.intro t7 t8)))))
        have HC := Lib.hid hcx
        clear hup hcx hnum t1 t2 t3 t4 t5 t6 t7 t8
        go_wp2_with (go_at_call 63; refine hnum'.mono ?_; rintro e V ⟨rfl, hg, hq⟩; obtain ⟨⟨u, hu⟩, hf⟩ := HC.out V hg; have HV := Lib.hid (And.intro hg hq); clear hg hq)
        obtain ⟨q', hq', hqr⟩ := HV.out.2
        have hkx : Kp [X] V (V.setCell ⟨X, o + t, none⟩ (.int .i64 n)) := (Kp.refl _ _).set (by simp) _
        have hkA : Kp [A, X] wr V := Kp.of HV.out.1 _ (fun k e _ => by cases e; simp)
        have hk2 : Kp [A, X] w (V.setCell ⟨X, o + t, none⟩ (.int .i64 n)) := HUP.out.2.1.trans (hkA.trans (hkx.mono (fun k hk _ => by simp at hk; simp [hk])))
        have hxx := heap_setCell_same V X (o + t) _ _ (.int .i64 n) (HUP.out.1 V HV.out.1).1
        refine ⟨⟨t + 1, by omega, by go_num, Lib.hid ⟨q', ns ++ [n], r2, _, hk2, hq'.kp hkx (by simp; exact fun e => HNE.out.1.1 e.symm) (by simp; exact fun e => HNE.out.1.2.1 e.symm) (fun x hx => by simp at hx; rw [hx]; exact HNE.out.2.1), hxx, (hkx.block _ (gl (HUP.out.1 V HV.out.1).2.1) (by simp; exact HNE.out.1.2.2.2)).trans (HUP.out.1 V HV.out.1).2.1, (hkx.block _ (gl (HUP.out.1 V HV.out.1).2.2) (by simp; have := HNE.out.2.2.2.1; omega)).trans (HUP.out.1 V HV.out.1).2.2, ?_, hqr, ?_⟩⟩, by simp [intOf]; omega⟩
        · rw [rdN_up, HUP.out.2.2.2.1]
          simp only
          rw [← HUP.out.2.2.2.2.1, Cd.rdN, h1]
          rfl
        · rw [HUP.out.2.2.2.2.2, setN_up, rdN_len _ _ _ _ HUP.out.2.2.2.1]
    · obtain rfl : t = k := by omega
      have HF : Hid (NsP M w A B X T o t arr l p (.returned (.bool true)) wr) := Lib.hid ⟨t1, q, ns, t2, by rw [t3, t8], by rw [rdN_len _ _ _ _ t6]; omega, by rw [t6]; exact ⟨rfl, t7, rfl⟩⟩
      go_wp2
      go_ret
      exact HF.out
end Go.Proofs.Ytcjainfcndlllaa
