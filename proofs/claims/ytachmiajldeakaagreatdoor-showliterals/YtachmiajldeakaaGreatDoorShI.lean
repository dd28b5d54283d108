/- show's printer: kids with texts around them. -/
import Derived.Test.YtachmiajldeakaaGreatDoorShH
import Derived.Test.YtachmiajldeakaaGreatDoorMgK
namespace Go.Proofs.YtachmiajldeakaaGreatDoor
open Go.RowKit Go.Maps Go.WideMaps

theorem Kb.on {w0 W w' : World} {b : Nat} (h : w0.grownBy W none) (k : Kb w0.heap.size b W w') : w0.grownBy w' none :=
  ⟨k.below.os.trans h.os, k.below.tape.trans h.tape, k.below.output.trans h.output, Nat.le_trans h.size k.below.size, fun i hi hn => (k.below.block i hi).trans (h.block i hi hn)⟩

/-- x is printed as t, by the printer in block b that was made behind w0 -/
def Prints (w0 : World) (B0 b : Nat) (x : Gram.Exp) (t : List UInt8) : Prop :=
  ∀ (l : List UInt8) (W : World) (vs : List Value), w0.grownBy W none → Pr w0.heap.size b l W → l.length + t.length ≤ 80000 → RepRow w0 B0 [] (expD x) vs →
    Calls Tryz.prog 13 #[.pointer (some ⟨b, 0, none⟩), .agg vs.toArray] W fun e w' => e = .returned (.tuple #[]) ∧ Pr w0.heap.size b (l ++ t) w' ∧ Kb w0.heap.size b W w'

/-- texts and kids in turn -/
def ar (ts : List ByteArray) (ks : List (List UInt8)) : Nat → List UInt8
  | 0 => []
  | t + 1 => ar ts ks t ++ (ts.getD t ⟨#[]⟩).data.toList ++ ks.getD t []
theorem ar_le (ts : List ByteArray) (ks : List (List UInt8)) (t : Nat) : ∀ d, (ar ts ks t).length ≤ (ar ts ks (t + d)).length
  | 0 => Nat.le_refl _
  | d + 1 => by
    have := ar_le ts ks t d
    rw [show t + (d + 1) = t + d + 1 by omega, ar]
    simp only [List.length_append]
    omega
/-- the whole -/
def arL (ts : List ByteArray) (ks : List (List UInt8)) (K : Nat) : List UInt8 := ar ts ks K ++ (ts.getD K ⟨#[]⟩).data.toList

set_option maxHeartbeats 2000000 in
theorem around_any (w0 : World) (B0 b : Nat) (l : List UInt8) (ts : List ByteArray) (xs : List Gram.Exp) (ks : List (List UInt8)) (ka : Option Addr) (kn kc g cap : Nat) (w : World) (hk : RepC w0 B0 [] (.l 28 9 (expsD xs)) (.slice ka kn kc)) (h : Pr w0.heap.size b l w) (hw : w0.grownBy w none) (hg : Tx w g ts) (hL : ts.length = xs.length + 1) (hks : ks.length = xs.length) (hn : xs.length ≤ 20)
    (hlen : l.length + (arL ts ks xs.length).length ≤ 80000) (hpr : ∀ (i : Nat) (x : Gram.Exp) (t : List UInt8), xs[i]? = some x → ks[i]? = some t → Prints w0 B0 b x t) :
    Calls Tryz.prog 94 #[.pointer (some ⟨b, 0, none⟩), .slice ka kn kc, .slice (some ⟨g, 0, none⟩) ts.length cap] w fun e w' => e = .returned (.tuple #[]) ∧ Pr w0.heap.size b (l ++ arL ts ks xs.length) w' ∧ Kb w0.heap.size b w w' := by
  obtain ⟨K, hK⟩ : ∃ K, K = xs.length := ⟨_, rfl⟩
  have hkn : kn = K := by
    obtain ⟨_, _, e⟩ := RepC.len hk
    cases e
    rw [expsD_len, hK]
  subst hkn
  rw [hL]
  rw [← hK] at hn hlen hL hks ⊢
  have hgb := hg.ne h
  have HL := Lib.hid (And.intro hL (And.intro hks hK))
  clear hL hks hK
  go_enter Tryz.func94, Tryz.ntmps94
  go_wp2
  go_loopw [10] (fun iv wr => ∃ t : Nat, t ≤ kn ∧ iv = .int .i64 (t : Int) ∧ Hid (Pr w0.heap.size b (l ++ ar ts ks t) wr ∧ Kb w0.heap.size b w wr)) (fun i _ => kn + 1 - (intOf i).toNat)
  case atStart => exact ⟨0, Nat.zero_le _, rfl, Lib.hid ⟨by simpa [ar] using h, Kb.refl _ b w⟩⟩
  case round =>
    obtain ⟨t, ht, rfl, H⟩ := hrel
    obtain ⟨s, hs⟩ : ∃ s, ts[t]? = some s := ⟨_, List.getElem?_eq_getElem (by have := HL.out.1; omega)⟩
    have hsd : ts.getD t ⟨#[]⟩ = s := by rw [List.getD_eq_getElem?_getD, hs]; rfl
    have hc := (hg.kept H.out.2 hgb).at_ hs
    have hwr : w0.grownBy wr none := Kb.on hw H.out.2
    have hsz : (ar ts ks t).length + s.size + (if t < kn then (ks.getD t []).length else 0) ≤ (arL ts ks kn).length := by
      have e2 : s.data.toList.length = s.size := Array.length_toList
      split
      · have := ar_le ts ks (t + 1) (kn - (t + 1))
        rw [show t + 1 + (kn - (t + 1)) = kn by omega, ar, hsd] at this
        unfold arL
        simp only [List.length_append] at this ⊢
        omega
      · obtain rfl : t = kn := by omega
        unfold arL
        rw [hsd]
        simp only [List.length_append]
        omega
    have hp := put1 w0.heap.size b (l ++ ar ts ks t) [s] wr H.out.1 hwr.size (by simp) (by
      have e2 : s.data.toList.length = s.size := Array.length_toList
      simp only [tx, List.map_cons, List.map_nil, List.flatten_cons, List.flatten_nil, List.append_nil, List.length_append]
      omega)
    rw [show tx [s] = s.data.toList by simp [tx]] at hp
    have HS := Lib.hid (And.intro hs (And.intro hsd hsz))
    have HW := Lib.hid hwr
    clear hs hsd hsz hwr
    simp only [List.map_cons, List.map_nil, List.length_cons, List.length_nil, Nat.zero_add] at hp
    by_cases hlt : t < kn
    · go_wp2_with (go_at_call 27; refine hp.mono ?_; rintro e w2 ⟨rfl, h2, k2⟩; refine Hid.out ?_)
      have hw2 : w0.grownBy w2 none := Kb.on HW.out k2
      obtain ⟨x, hx⟩ : ∃ x, xs[t]? = some x := ⟨_, List.getElem?_eq_getElem (by rw [← HL.out.2.2]; exact hlt)⟩
      obtain ⟨u, hu⟩ : ∃ u, ks[t]? = some u := ⟨_, List.getElem?_eq_getElem (by rw [HL.out.2.1]; exact hlt)⟩
      have hud : ks.getD t [] = u := by rw [List.getD_eq_getElem?_getD, hu]; rfl
      obtain ⟨g1, cx, ex⟩ := RepC.lies hk (by rw [expsD_len, ← HL.out.2.2]; omega)
      rw [expsD_len, ← HL.out.2.2] at ex
      cases ex
      obtain ⟨vs, hv, q0⟩ := RepC.rowAt hk (by rw [expsD_map]; exact rows_map expD_len _) t (show (expsD xs)[t]? = some (expD x) by rw [expsD_map, List.getElem?_map, hx]; rfl)
      have hin := hpr t x u hx hu (l ++ ar ts ks t ++ s.data.toList) w2 vs hw2 h2 (by
        have h3 := HS.out.2.2
        rw [if_pos hlt, hud] at h3
        have e2 : s.data.toList.length = s.size := Array.length_toList
        simp only [List.length_append]
        omega) hv
      obtain ⟨b1, m1, d1, rfl, _⟩ := expInv hv
      obtain ⟨f', s', nm', tk', tl', n', m', ks', at'⟩ := x
      simp only [expCells] at q0 hin
      have u0 := hw2.cell (q0 0 _ rfl) (by simp)
      have u1 := hw2.cell (q0 1 _ rfl) (by simp)
      have u2 := hw2.cell (q0 2 _ rfl) (by simp)
      have u3 := hw2.cell (q0 3 _ rfl) (by simp)
      have u4 := hw2.cell (q0 4 _ rfl) (by simp)
      have u5 := hw2.cell (q0 5 _ rfl) (by simp)
      have u6 := hw2.cell (q0 6 _ rfl) (by simp)
      have u7 := hw2.cell (q0 7 _ rfl) (by simp)
      have u8 := hw2.cell (q0 8 _ rfl) (by simp)
      rw [Nat.add_zero] at u0
      have HN := Lib.hid (And.intro hud (H.out.2.trans k2))
      clear q0 hv hx hu hud h2 k2 hw2
      refine Lib.hid ?_
      go_wp2_with (go_at_call 13; refine hin.mono ?_; rintro e w3 ⟨rfl, h3, k3⟩; refine Hid.out ?_)
      have HE := Lib.hid (And.intro h3 (HN.out.2.trans k3))
      clear h3 k3 u0 u1 u2 u3 u4 u5 u6 u7 u8
      refine Lib.hid ?_
      go_wp2
      refine ⟨⟨t + 1, by omega, by go_num, Lib.hid ⟨?_, HE.out.2⟩⟩, by simp [intOf]; omega⟩
      have := HE.out.1
      rw [ar, HS.out.2.1, HN.out.1]
      simpa [List.append_assoc] using this
    · obtain rfl : t = kn := by omega
      go_wp2_with (go_at_call 27; refine hp.mono ?_; rintro e w2 ⟨rfl, h2, k2⟩; refine Hid.out ?_)
      have HN := Lib.hid (And.intro h2 (H.out.2.trans k2))
      clear h2 k2
      refine Lib.hid ?_
      go_wp2
      refine bodyPost_ret (results_none rfl _ _ _) rfl ?_
      refine ⟨rfl, ?_, HN.out.2⟩
      have := HN.out.1
      unfold arL
      rw [HS.out.2.1]
      simpa [List.append_assoc] using this

end Go.Proofs.YtachmiajldeakaaGreatDoor
