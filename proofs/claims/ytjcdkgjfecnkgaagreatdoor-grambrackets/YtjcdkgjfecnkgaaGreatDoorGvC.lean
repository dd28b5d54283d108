/- metronomeref2's sameTrans, places aside (written by mktrans.py). -/
import Derived.Test.YtjcdkgjfecnkgaaGreatDoorGvB
namespace Go.Proofs.YtjcdkgjfecnkgaaGreatDoor
open Go.RowKit Go.Maps Go.WideMaps

/-- what is kept while two expressions are loaded and held against one another -/
theorem srOn {w0 W W' : World} {g1 g2 o : Nat} {f' s' : Int} {nm' : Gram.B} {tk' tl' n' m' at' at2 : Int} {b1 b2 : Option Addr} {m1 d1 m2 d2 : Nat} (h : W.cell? ⟨g1, o, none⟩ = some (.int .i64 f') ∧ W.cell? ⟨g1, o + 1, none⟩ = some (.int .i64 s') ∧ W.cell? ⟨g1, o + 2, none⟩ = some (.string ⟨nm'.toArray⟩) ∧ W.cell? ⟨g1, o + 3, none⟩ = some (.int .i64 tk') ∧ W.cell? ⟨g1, o + 4, none⟩ = some (.int .i64 tl') ∧ W.cell? ⟨g1, o + 5, none⟩ = some (.int .i64 n') ∧ W.cell? ⟨g1, o + 6, none⟩ = some (.int .i64 m') ∧ W.cell? ⟨g1, o + 7, none⟩ = some (.slice b1 m1 d1) ∧ W.cell? ⟨g1, o + 8, none⟩ = some (.int .i64 at') ∧ W.cell? ⟨g2, o, none⟩ = some (.int .i64 f') ∧ W.cell? ⟨g2, o + 1, none⟩ = some (.int .i64 s') ∧ W.cell? ⟨g2, o + 2, none⟩ = some (.string ⟨nm'.toArray⟩) ∧ W.cell? ⟨g2, o + 3, none⟩ = some (.int .i64 tk') ∧ W.cell? ⟨g2, o + 4, none⟩ = some (.int .i64 tl') ∧ W.cell? ⟨g2, o + 5, none⟩ = some (.int .i64 n') ∧ W.cell? ⟨g2, o + 6, none⟩ = some (.int .i64 m') ∧ W.cell? ⟨g2, o + 7, none⟩ = some (.slice b2 m2 d2) ∧ W.cell? ⟨g2, o + 8, none⟩ = some (.int .i64 at2) ∧ w0.grownBy W none) (hg : W.grownBy W' none) : W'.cell? ⟨g1, o, none⟩ = some (.int .i64 f') ∧ W'.cell? ⟨g1, o + 1, none⟩ = some (.int .i64 s') ∧ W'.cell? ⟨g1, o + 2, none⟩ = some (.string ⟨nm'.toArray⟩) ∧ W'.cell? ⟨g1, o + 3, none⟩ = some (.int .i64 tk') ∧ W'.cell? ⟨g1, o + 4, none⟩ = some (.int .i64 tl') ∧ W'.cell? ⟨g1, o + 5, none⟩ = some (.int .i64 n') ∧ W'.cell? ⟨g1, o + 6, none⟩ = some (.int .i64 m') ∧ W'.cell? ⟨g1, o + 7, none⟩ = some (.slice b1 m1 d1) ∧ W'.cell? ⟨g1, o + 8, none⟩ = some (.int .i64 at') ∧ W'.cell? ⟨g2, o, none⟩ = some (.int .i64 f') ∧ W'.cell? ⟨g2, o + 1, none⟩ = some (.int .i64 s') ∧ W'.cell? ⟨g2, o + 2, none⟩ = some (.string ⟨nm'.toArray⟩) ∧ W'.cell? ⟨g2, o + 3, none⟩ = some (.int .i64 tk') ∧ W'.cell? ⟨g2, o + 4, none⟩ = some (.int .i64 tl') ∧ W'.cell? ⟨g2, o + 5, none⟩ = some (.int .i64 n') ∧ W'.cell? ⟨g2, o + 6, none⟩ = some (.int .i64 m') ∧ W'.cell? ⟨g2, o + 7, none⟩ = some (.slice b2 m2 d2) ∧ W'.cell? ⟨g2, o + 8, none⟩ = some (.int .i64 at2) ∧ w0.grownBy W' none :=
  ⟨hg.cell h.1 (by simp), hg.cell h.2.1 (by simp), hg.cell h.2.2.1 (by simp), hg.cell h.2.2.2.1 (by simp), hg.cell h.2.2.2.2.1 (by simp), hg.cell h.2.2.2.2.2.1 (by simp), hg.cell h.2.2.2.2.2.2.1 (by simp), hg.cell h.2.2.2.2.2.2.2.1 (by simp), hg.cell h.2.2.2.2.2.2.2.2.1 (by simp), hg.cell h.2.2.2.2.2.2.2.2.2.1 (by simp), hg.cell h.2.2.2.2.2.2.2.2.2.2.1 (by simp), hg.cell h.2.2.2.2.2.2.2.2.2.2.2.1 (by simp), hg.cell h.2.2.2.2.2.2.2.2.2.2.2.2.1 (by simp), hg.cell h.2.2.2.2.2.2.2.2.2.2.2.2.2.1 (by simp), hg.cell h.2.2.2.2.2.2.2.2.2.2.2.2.2.2.1 (by simp), hg.cell h.2.2.2.2.2.2.2.2.2.2.2.2.2.2.2.1 (by simp), hg.cell h.2.2.2.2.2.2.2.2.2.2.2.2.2.2.2.2.1 (by simp), hg.cell h.2.2.2.2.2.2.2.2.2.2.2.2.2.2.2.2.2.1 (by simp), h.2.2.2.2.2.2.2.2.2.2.2.2.2.2.2.2.2.2.trans hg⟩
theorem srDrew {w0 W : World} {g1 g2 o : Nat} {f' s' : Int} {nm' : Gram.B} {tk' tl' n' m' at' at2 : Int} {b1 b2 : Option Addr} {m1 d1 m2 d2 : Nat} (h : W.cell? ⟨g1, o, none⟩ = some (.int .i64 f') ∧ W.cell? ⟨g1, o + 1, none⟩ = some (.int .i64 s') ∧ W.cell? ⟨g1, o + 2, none⟩ = some (.string ⟨nm'.toArray⟩) ∧ W.cell? ⟨g1, o + 3, none⟩ = some (.int .i64 tk') ∧ W.cell? ⟨g1, o + 4, none⟩ = some (.int .i64 tl') ∧ W.cell? ⟨g1, o + 5, none⟩ = some (.int .i64 n') ∧ W.cell? ⟨g1, o + 6, none⟩ = some (.int .i64 m') ∧ W.cell? ⟨g1, o + 7, none⟩ = some (.slice b1 m1 d1) ∧ W.cell? ⟨g1, o + 8, none⟩ = some (.int .i64 at') ∧ W.cell? ⟨g2, o, none⟩ = some (.int .i64 f') ∧ W.cell? ⟨g2, o + 1, none⟩ = some (.int .i64 s') ∧ W.cell? ⟨g2, o + 2, none⟩ = some (.string ⟨nm'.toArray⟩) ∧ W.cell? ⟨g2, o + 3, none⟩ = some (.int .i64 tk') ∧ W.cell? ⟨g2, o + 4, none⟩ = some (.int .i64 tl') ∧ W.cell? ⟨g2, o + 5, none⟩ = some (.int .i64 n') ∧ W.cell? ⟨g2, o + 6, none⟩ = some (.int .i64 m') ∧ W.cell? ⟨g2, o + 7, none⟩ = some (.slice b2 m2 d2) ∧ W.cell? ⟨g2, o + 8, none⟩ = some (.int .i64 at2) ∧ w0.grownBy W none) : W.drew.cell? ⟨g1, o, none⟩ = some (.int .i64 f') ∧ W.drew.cell? ⟨g1, o + 1, none⟩ = some (.int .i64 s') ∧ W.drew.cell? ⟨g1, o + 2, none⟩ = some (.string ⟨nm'.toArray⟩) ∧ W.drew.cell? ⟨g1, o + 3, none⟩ = some (.int .i64 tk') ∧ W.drew.cell? ⟨g1, o + 4, none⟩ = some (.int .i64 tl') ∧ W.drew.cell? ⟨g1, o + 5, none⟩ = some (.int .i64 n') ∧ W.drew.cell? ⟨g1, o + 6, none⟩ = some (.int .i64 m') ∧ W.drew.cell? ⟨g1, o + 7, none⟩ = some (.slice b1 m1 d1) ∧ W.drew.cell? ⟨g1, o + 8, none⟩ = some (.int .i64 at') ∧ W.drew.cell? ⟨g2, o, none⟩ = some (.int .i64 f') ∧ W.drew.cell? ⟨g2, o + 1, none⟩ = some (.int .i64 s') ∧ W.drew.cell? ⟨g2, o + 2, none⟩ = some (.string ⟨nm'.toArray⟩) ∧ W.drew.cell? ⟨g2, o + 3, none⟩ = some (.int .i64 tk') ∧ W.drew.cell? ⟨g2, o + 4, none⟩ = some (.int .i64 tl') ∧ W.drew.cell? ⟨g2, o + 5, none⟩ = some (.int .i64 n') ∧ W.drew.cell? ⟨g2, o + 6, none⟩ = some (.int .i64 m') ∧ W.drew.cell? ⟨g2, o + 7, none⟩ = some (.slice b2 m2 d2) ∧ W.drew.cell? ⟨g2, o + 8, none⟩ = some (.int .i64 at2) ∧ w0.grownBy W.drew none := srOn h ⟨rfl, rfl, rfl, Nat.le_refl _, fun _ _ _ => rfl⟩
theorem srFrame {w0 W : World} {g1 g2 o : Nat} {f' s' : Int} {nm' : Gram.B} {tk' tl' n' m' at' at2 : Int} {b1 b2 : Option Addr} {m1 d1 m2 d2 : Nat} (h : W.cell? ⟨g1, o, none⟩ = some (.int .i64 f') ∧ W.cell? ⟨g1, o + 1, none⟩ = some (.int .i64 s') ∧ W.cell? ⟨g1, o + 2, none⟩ = some (.string ⟨nm'.toArray⟩) ∧ W.cell? ⟨g1, o + 3, none⟩ = some (.int .i64 tk') ∧ W.cell? ⟨g1, o + 4, none⟩ = some (.int .i64 tl') ∧ W.cell? ⟨g1, o + 5, none⟩ = some (.int .i64 n') ∧ W.cell? ⟨g1, o + 6, none⟩ = some (.int .i64 m') ∧ W.cell? ⟨g1, o + 7, none⟩ = some (.slice b1 m1 d1) ∧ W.cell? ⟨g1, o + 8, none⟩ = some (.int .i64 at') ∧ W.cell? ⟨g2, o, none⟩ = some (.int .i64 f') ∧ W.cell? ⟨g2, o + 1, none⟩ = some (.int .i64 s') ∧ W.cell? ⟨g2, o + 2, none⟩ = some (.string ⟨nm'.toArray⟩) ∧ W.cell? ⟨g2, o + 3, none⟩ = some (.int .i64 tk') ∧ W.cell? ⟨g2, o + 4, none⟩ = some (.int .i64 tl') ∧ W.cell? ⟨g2, o + 5, none⟩ = some (.int .i64 n') ∧ W.cell? ⟨g2, o + 6, none⟩ = some (.int .i64 m') ∧ W.cell? ⟨g2, o + 7, none⟩ = some (.slice b2 m2 d2) ∧ W.cell? ⟨g2, o + 8, none⟩ = some (.int .i64 at2) ∧ w0.grownBy W none) : w0.grownBy W none := h.2.2.2.2.2.2.2.2.2.2.2.2.2.2.2.2.2.2

theorem transD_len (x : Gram.Trans) : (transD x).length = 12 := by simp [transD, expD_len]
theorem transFar (c : Nat) (x : Gram.Trans) : transD (x.far c) = expD (x.cond.far c) ++ [.c (.string ⟨x.to.toArray⟩), .c (.bool x.cont), .c (.int .i64 (x.at_ + c))] := rfl

set_option maxHeartbeats 3200000 in
set_option maxRecDepth 20000 in
theorem sameTrans_any (c : Nat) (ls : List Gram.Trans) (w : World) (B : Nat) (a1 a2 : Option Addr) (c1 c2 L : Nat) (hLm : L ≤ maxLen) (kx : RepC w B [] (.l 141 12 (ls.map transD)) (.slice a1 L c1)) (ky : RepC w B [] (.l 141 12 ((ls.map (Gram.Trans.far c)).map transD)) (.slice a2 L c2)) (HL : Hid (L = ls.length)) :
    Calls Tryz.prog 43 #[.slice a1 L c1, .slice a2 L c2, .bool false] w fun e w' => e = .returned (.bool true) ∧ w.grownBy w' none := by
  unfold maxLen at hLm
  go_enter Tryz.func43, Tryz.ntmps43
  go_wp2
  go_loopw [7] (fun iv wr => ∃ t : Nat, t ≤ L ∧ iv = .int .i64 (t : Int) ∧ Hid (w.grownBy wr none)) (fun i _ => L - (intOf i).toNat)
  case atStart => exact ⟨0, Nat.zero_le _, rfl, Lib.hid (World.grownBy.refl _ _)⟩
  case round =>
    obtain ⟨t, ht, rfl, HG⟩ := hrel
    by_cases hlt : t < L
    · obtain ⟨k, hk⟩ : ∃ k, ls[t]? = some k := ⟨_, List.getElem?_eq_getElem (by rw [← HL.out]; exact hlt)⟩
      have hx' := RepC.kept HG.out (fun k e => by cases e) kx
      have hy' := RepC.kept HG.out (fun k e => by cases e) ky
      obtain ⟨g1, cx, ex⟩ := RepC.lies hx' (by rw [List.length_map, ← HL.out]; omega)
      obtain ⟨g2, cy, ey⟩ := RepC.lies hy' (by rw [List.length_map, List.length_map, ← HL.out]; omega)
      rw [List.length_map, ← HL.out] at ex
      rw [List.length_map, List.length_map, ← HL.out] at ey
      cases ex
      cases ey
      obtain ⟨vs1, hv1, q1⟩ := RepC.rowAt hx' (rows_map transD_len _) t (map_at transD ls t hk)
      obtain ⟨vs2, hv2, q2⟩ := RepC.rowAt hy' (rows_map transD_len _) t (map_at transD _ t (map_at (Gram.Trans.far c) ls t hk))
      rw [transFar] at hv2
      obtain ⟨x, to, ct, at3⟩ := k
      obtain ⟨p1, t1, rfl, w1, h_1⟩ := RepRow.appInv hv1
      obtain ⟨p2, t2, rfl, w2, k_1⟩ := RepRow.appInv hv2
      obtain ⟨r1, rfl, h_2⟩ := h_1.cInv
      obtain ⟨r2, rfl, h_3⟩ := h_2.cInv
      obtain ⟨r3, rfl, k_2⟩ := k_1.cInv
      obtain ⟨r4, rfl, k_3⟩ := k_2.cInv
      have ihk := fun (W : World) (hW : wr.grownBy W none) => sameExp_any c x W B p1 p2 (RepRow.keptX hW (fun k e => by cases e) w1) (RepRow.keptX hW (fun k e => by cases e) w2)
      have HI := Lib.hid ihk
      clear ihk
      obtain ⟨b1, m1, d1, rfl, _⟩ := expInv w1
      obtain ⟨b2, m2, d2, rfl, _⟩ := expInv w2
      obtain ⟨f', s', nm', tk', tl', n', m', ks', at'⟩ := x
      simp only [Gram.Exp.far, expCells] at q1 q2 HI
      have u0 := q1 0 _ rfl
      have v0 := q2 0 _ rfl
      rw [Nat.add_zero] at u0 v0
      have u9 := q1 9 _ rfl
      have u10 := q1 10 _ rfl
      have v9 := q2 9 _ rfl
      have v10 := q2 10 _ rfl
      have hS : wr.cell? ⟨g1, t * 12, none⟩ = some (.int .i64 f') ∧ wr.cell? ⟨g1, t * 12 + 1, none⟩ = some (.int .i64 s') ∧ wr.cell? ⟨g1, t * 12 + 2, none⟩ = some (.string ⟨nm'.toArray⟩) ∧ wr.cell? ⟨g1, t * 12 + 3, none⟩ = some (.int .i64 tk') ∧ wr.cell? ⟨g1, t * 12 + 4, none⟩ = some (.int .i64 tl') ∧ wr.cell? ⟨g1, t * 12 + 5, none⟩ = some (.int .i64 n') ∧ wr.cell? ⟨g1, t * 12 + 6, none⟩ = some (.int .i64 m') ∧ wr.cell? ⟨g1, t * 12 + 7, none⟩ = some (.slice b1 m1 d1) ∧ wr.cell? ⟨g1, t * 12 + 8, none⟩ = some (.int .i64 at') ∧ wr.cell? ⟨g2, t * 12, none⟩ = some (.int .i64 f') ∧ wr.cell? ⟨g2, t * 12 + 1, none⟩ = some (.int .i64 s') ∧ wr.cell? ⟨g2, t * 12 + 2, none⟩ = some (.string ⟨nm'.toArray⟩) ∧ wr.cell? ⟨g2, t * 12 + 3, none⟩ = some (.int .i64 tk') ∧ wr.cell? ⟨g2, t * 12 + 4, none⟩ = some (.int .i64 tl') ∧ wr.cell? ⟨g2, t * 12 + 5, none⟩ = some (.int .i64 n') ∧ wr.cell? ⟨g2, t * 12 + 6, none⟩ = some (.int .i64 m') ∧ wr.cell? ⟨g2, t * 12 + 7, none⟩ = some (.slice b2 m2 d2) ∧ wr.cell? ⟨g2, t * 12 + 8, none⟩ = some (.int .i64 (at' + c)) ∧ wr.grownBy wr none := ⟨u0, q1 1 _ rfl, q1 2 _ rfl, q1 3 _ rfl, q1 4 _ rfl, q1 5 _ rfl, q1 6 _ rfl, q1 7 _ rfl, q1 8 _ rfl, v0, q2 1 _ rfl, q2 2 _ rfl, q2 3 _ rfl, q2 4 _ rfl, q2 5 _ rfl, q2 6 _ rfl, q2 7 _ rfl, q2 8 _ rfl, World.grownBy.refl _ _⟩
      clear q1 q2 hv1 hv2 hx' hy' hk u0 v0 h_1 h_2 h_3 k_1 k_2 k_3 w1 w2
      go_wp2
      go_region_held3 (fun W => W.cell? ⟨g1, t * 12, none⟩ = some (.int .i64 f') ∧ W.cell? ⟨g1, t * 12 + 1, none⟩ = some (.int .i64 s') ∧ W.cell? ⟨g1, t * 12 + 2, none⟩ = some (.string ⟨nm'.toArray⟩) ∧ W.cell? ⟨g1, t * 12 + 3, none⟩ = some (.int .i64 tk') ∧ W.cell? ⟨g1, t * 12 + 4, none⟩ = some (.int .i64 tl') ∧ W.cell? ⟨g1, t * 12 + 5, none⟩ = some (.int .i64 n') ∧ W.cell? ⟨g1, t * 12 + 6, none⟩ = some (.int .i64 m') ∧ W.cell? ⟨g1, t * 12 + 7, none⟩ = some (.slice b1 m1 d1) ∧ W.cell? ⟨g1, t * 12 + 8, none⟩ = some (.int .i64 at') ∧ W.cell? ⟨g2, t * 12, none⟩ = some (.int .i64 f') ∧ W.cell? ⟨g2, t * 12 + 1, none⟩ = some (.int .i64 s') ∧ W.cell? ⟨g2, t * 12 + 2, none⟩ = some (.string ⟨nm'.toArray⟩) ∧ W.cell? ⟨g2, t * 12 + 3, none⟩ = some (.int .i64 tk') ∧ W.cell? ⟨g2, t * 12 + 4, none⟩ = some (.int .i64 tl') ∧ W.cell? ⟨g2, t * 12 + 5, none⟩ = some (.int .i64 n') ∧ W.cell? ⟨g2, t * 12 + 6, none⟩ = some (.int .i64 m') ∧ W.cell? ⟨g2, t * 12 + 7, none⟩ = some (.slice b2 m2 d2) ∧ W.cell? ⟨g2, t * 12 + 8, none⟩ = some (.int .i64 (at' + c)) ∧ wr.grownBy W none) (first | exact hS | exact srDrew hS)
        (first | (go_at_call 42; refine (HI.out (World.drew wr) ⟨rfl, rfl, rfl, Nat.le_refl _, fun _ _ _ => rfl⟩).mono ?_; rintro e w3 ⟨rfl, hg3⟩; have hS := srOn (srDrew hS) hg3))
      have hf := srFrame hS
      have x9 := hf.cell u9 (by simp)
      have x10 := hf.cell u10 (by simp)
      have y9 := hf.cell v9 (by simp)
      have y10 := hf.cell v10 (by simp)
      have HG2 := Lib.hid (HG.out.trans hf)
      clear hS hf u9 u10 v9 v10 HI HG
      go_wp2
      go_quiet (fail)
      go_wp2
      exact ⟨⟨t + 1, by omega, by go_num, Lib.hid (gdrewN HG2.out _)⟩, by simp [intOf]; omega⟩
    · have e : t = L := by omega
      subst e
      go_wp2
      go_ret
      exact ⟨rfl, HG.out⟩

end Go.Proofs.YtjcdkgjfecnkgaaGreatDoor
