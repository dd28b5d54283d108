/- metronomeref2's SameExp, places aside: an expression and the same further on are one. -/
import Derived.Test.YtjcdkgjfecnkgaaGreatDoorMgK
import Derived.Test.YtjcdkgjfecnkgaaGreatDoorGuB
namespace Go.Proofs.YtjcdkgjfecnkgaaGreatDoor
open Go.RowKit Go.Maps Go.WideMaps

theorem farL_len (c : Nat) (l : List Gram.Exp) : (Gram.farL c l).length = l.length := by rw [Gram.farL_map, List.length_map]
theorem farL_at (c : Nat) (l : List Gram.Exp) (t : Nat) {k : Gram.Exp} (h : l[t]? = some k) : (Gram.farL c l)[t]? = some (k.far c) := by rw [Gram.farL_map, List.getElem?_map, h]; rfl
theorem expsD_at (l : List Gram.Exp) (t : Nat) {k : Gram.Exp} (h : l[t]? = some k) : (expsD l)[t]? = some (expD k) := by rw [expsD_map, List.getElem?_map, h]; rfl
theorem expsD_rows (l : List Gram.Exp) : ∀ r ∈ expsD l, r.length = 9 := by rw [expsD_map]; exact rows_map expD_len _

theorem RepC.small {w : World} {B : Nat} {E : List Nat} {e : TypeId} {sz : Nat} {rows : List (List D)} {v : Value} (h : RepC w B E (.l e sz rows) v) : rows.length ≤ maxLen := by
  cases h with
  | l ho _ _ =>
    rcases ho.2 with ⟨_, h1⟩ | ⟨g, cap, cur, _, _, _, h1, h2, _⟩
    · omega
    · omega
/-- what SameExp does at expressions below a size -/
def CSame (c N : Nat) : Prop := ∀ (x : Gram.Exp), SizeOf.sizeOf x < N → ∀ (w : World) (B : Nat) (va vb : List Value), RepRow w B [] (expD x) va → RepRow w B [] (expD (x.far c)) vb →
  Calls Tryz.prog 42 #[.agg va.toArray, .agg vb.toArray, .bool false] w fun e w' => e = .returned (.bool true) ∧ w.grownBy w' none

/-- what is kept while SameExp's region goes on -/
theorem smOn {w0 W W' : World} {p g1 g2 t L c1 c2 : Nat} {f' s' : Int} {nm' : Gram.B} {tk' tl' n' m' at' at2 : Int} {b1 b2 : Option Addr} {m1 d1 m2 d2 : Nat} (h : W.cell? ⟨p, 7, none⟩ = some (.slice (some ⟨g1, 0, none⟩) L c1) ∧ W.cell? ⟨p + 1, 7, none⟩ = some (.slice (some ⟨g2, 0, none⟩) L c2) ∧ W.cell? ⟨g1, t * 9, none⟩ = some (.int .i64 f') ∧ W.cell? ⟨g1, t * 9 + 1, none⟩ = some (.int .i64 s') ∧ W.cell? ⟨g1, t * 9 + 2, none⟩ = some (.string ⟨nm'.toArray⟩) ∧ W.cell? ⟨g1, t * 9 + 3, none⟩ = some (.int .i64 tk') ∧ W.cell? ⟨g1, t * 9 + 4, none⟩ = some (.int .i64 tl') ∧ W.cell? ⟨g1, t * 9 + 5, none⟩ = some (.int .i64 n') ∧ W.cell? ⟨g1, t * 9 + 6, none⟩ = some (.int .i64 m') ∧ W.cell? ⟨g1, t * 9 + 7, none⟩ = some (.slice b1 m1 d1) ∧ W.cell? ⟨g1, t * 9 + 8, none⟩ = some (.int .i64 at') ∧ W.cell? ⟨g2, t * 9, none⟩ = some (.int .i64 f') ∧ W.cell? ⟨g2, t * 9 + 1, none⟩ = some (.int .i64 s') ∧ W.cell? ⟨g2, t * 9 + 2, none⟩ = some (.string ⟨nm'.toArray⟩) ∧ W.cell? ⟨g2, t * 9 + 3, none⟩ = some (.int .i64 tk') ∧ W.cell? ⟨g2, t * 9 + 4, none⟩ = some (.int .i64 tl') ∧ W.cell? ⟨g2, t * 9 + 5, none⟩ = some (.int .i64 n') ∧ W.cell? ⟨g2, t * 9 + 6, none⟩ = some (.int .i64 m') ∧ W.cell? ⟨g2, t * 9 + 7, none⟩ = some (.slice b2 m2 d2) ∧ W.cell? ⟨g2, t * 9 + 8, none⟩ = some (.int .i64 at2) ∧ w0.grownBy W none) (hg : W.grownBy W' none) : W'.cell? ⟨p, 7, none⟩ = some (.slice (some ⟨g1, 0, none⟩) L c1) ∧ W'.cell? ⟨p + 1, 7, none⟩ = some (.slice (some ⟨g2, 0, none⟩) L c2) ∧ W'.cell? ⟨g1, t * 9, none⟩ = some (.int .i64 f') ∧ W'.cell? ⟨g1, t * 9 + 1, none⟩ = some (.int .i64 s') ∧ W'.cell? ⟨g1, t * 9 + 2, none⟩ = some (.string ⟨nm'.toArray⟩) ∧ W'.cell? ⟨g1, t * 9 + 3, none⟩ = some (.int .i64 tk') ∧ W'.cell? ⟨g1, t * 9 + 4, none⟩ = some (.int .i64 tl') ∧ W'.cell? ⟨g1, t * 9 + 5, none⟩ = some (.int .i64 n') ∧ W'.cell? ⟨g1, t * 9 + 6, none⟩ = some (.int .i64 m') ∧ W'.cell? ⟨g1, t * 9 + 7, none⟩ = some (.slice b1 m1 d1) ∧ W'.cell? ⟨g1, t * 9 + 8, none⟩ = some (.int .i64 at') ∧ W'.cell? ⟨g2, t * 9, none⟩ = some (.int .i64 f') ∧ W'.cell? ⟨g2, t * 9 + 1, none⟩ = some (.int .i64 s') ∧ W'.cell? ⟨g2, t * 9 + 2, none⟩ = some (.string ⟨nm'.toArray⟩) ∧ W'.cell? ⟨g2, t * 9 + 3, none⟩ = some (.int .i64 tk') ∧ W'.cell? ⟨g2, t * 9 + 4, none⟩ = some (.int .i64 tl') ∧ W'.cell? ⟨g2, t * 9 + 5, none⟩ = some (.int .i64 n') ∧ W'.cell? ⟨g2, t * 9 + 6, none⟩ = some (.int .i64 m') ∧ W'.cell? ⟨g2, t * 9 + 7, none⟩ = some (.slice b2 m2 d2) ∧ W'.cell? ⟨g2, t * 9 + 8, none⟩ = some (.int .i64 at2) ∧ w0.grownBy W' none :=
  ⟨hg.cell h.1 (by simp), hg.cell h.2.1 (by simp), hg.cell h.2.2.1 (by simp), hg.cell h.2.2.2.1 (by simp), hg.cell h.2.2.2.2.1 (by simp), hg.cell h.2.2.2.2.2.1 (by simp), hg.cell h.2.2.2.2.2.2.1 (by simp), hg.cell h.2.2.2.2.2.2.2.1 (by simp), hg.cell h.2.2.2.2.2.2.2.2.1 (by simp), hg.cell h.2.2.2.2.2.2.2.2.2.1 (by simp), hg.cell h.2.2.2.2.2.2.2.2.2.2.1 (by simp), hg.cell h.2.2.2.2.2.2.2.2.2.2.2.1 (by simp), hg.cell h.2.2.2.2.2.2.2.2.2.2.2.2.1 (by simp), hg.cell h.2.2.2.2.2.2.2.2.2.2.2.2.2.1 (by simp), hg.cell h.2.2.2.2.2.2.2.2.2.2.2.2.2.2.1 (by simp), hg.cell h.2.2.2.2.2.2.2.2.2.2.2.2.2.2.2.1 (by simp), hg.cell h.2.2.2.2.2.2.2.2.2.2.2.2.2.2.2.2.1 (by simp), hg.cell h.2.2.2.2.2.2.2.2.2.2.2.2.2.2.2.2.2.1 (by simp), hg.cell h.2.2.2.2.2.2.2.2.2.2.2.2.2.2.2.2.2.2.1 (by simp), hg.cell h.2.2.2.2.2.2.2.2.2.2.2.2.2.2.2.2.2.2.2.1 (by simp), h.2.2.2.2.2.2.2.2.2.2.2.2.2.2.2.2.2.2.2.2.trans hg⟩
theorem smDrew {w0 W : World} {p g1 g2 t L c1 c2 : Nat} {f' s' : Int} {nm' : Gram.B} {tk' tl' n' m' at' at2 : Int} {b1 b2 : Option Addr} {m1 d1 m2 d2 : Nat} (h : W.cell? ⟨p, 7, none⟩ = some (.slice (some ⟨g1, 0, none⟩) L c1) ∧ W.cell? ⟨p + 1, 7, none⟩ = some (.slice (some ⟨g2, 0, none⟩) L c2) ∧ W.cell? ⟨g1, t * 9, none⟩ = some (.int .i64 f') ∧ W.cell? ⟨g1, t * 9 + 1, none⟩ = some (.int .i64 s') ∧ W.cell? ⟨g1, t * 9 + 2, none⟩ = some (.string ⟨nm'.toArray⟩) ∧ W.cell? ⟨g1, t * 9 + 3, none⟩ = some (.int .i64 tk') ∧ W.cell? ⟨g1, t * 9 + 4, none⟩ = some (.int .i64 tl') ∧ W.cell? ⟨g1, t * 9 + 5, none⟩ = some (.int .i64 n') ∧ W.cell? ⟨g1, t * 9 + 6, none⟩ = some (.int .i64 m') ∧ W.cell? ⟨g1, t * 9 + 7, none⟩ = some (.slice b1 m1 d1) ∧ W.cell? ⟨g1, t * 9 + 8, none⟩ = some (.int .i64 at') ∧ W.cell? ⟨g2, t * 9, none⟩ = some (.int .i64 f') ∧ W.cell? ⟨g2, t * 9 + 1, none⟩ = some (.int .i64 s') ∧ W.cell? ⟨g2, t * 9 + 2, none⟩ = some (.string ⟨nm'.toArray⟩) ∧ W.cell? ⟨g2, t * 9 + 3, none⟩ = some (.int .i64 tk') ∧ W.cell? ⟨g2, t * 9 + 4, none⟩ = some (.int .i64 tl') ∧ W.cell? ⟨g2, t * 9 + 5, none⟩ = some (.int .i64 n') ∧ W.cell? ⟨g2, t * 9 + 6, none⟩ = some (.int .i64 m') ∧ W.cell? ⟨g2, t * 9 + 7, none⟩ = some (.slice b2 m2 d2) ∧ W.cell? ⟨g2, t * 9 + 8, none⟩ = some (.int .i64 at2) ∧ w0.grownBy W none) : W.drew.cell? ⟨p, 7, none⟩ = some (.slice (some ⟨g1, 0, none⟩) L c1) ∧ W.drew.cell? ⟨p + 1, 7, none⟩ = some (.slice (some ⟨g2, 0, none⟩) L c2) ∧ W.drew.cell? ⟨g1, t * 9, none⟩ = some (.int .i64 f') ∧ W.drew.cell? ⟨g1, t * 9 + 1, none⟩ = some (.int .i64 s') ∧ W.drew.cell? ⟨g1, t * 9 + 2, none⟩ = some (.string ⟨nm'.toArray⟩) ∧ W.drew.cell? ⟨g1, t * 9 + 3, none⟩ = some (.int .i64 tk') ∧ W.drew.cell? ⟨g1, t * 9 + 4, none⟩ = some (.int .i64 tl') ∧ W.drew.cell? ⟨g1, t * 9 + 5, none⟩ = some (.int .i64 n') ∧ W.drew.cell? ⟨g1, t * 9 + 6, none⟩ = some (.int .i64 m') ∧ W.drew.cell? ⟨g1, t * 9 + 7, none⟩ = some (.slice b1 m1 d1) ∧ W.drew.cell? ⟨g1, t * 9 + 8, none⟩ = some (.int .i64 at') ∧ W.drew.cell? ⟨g2, t * 9, none⟩ = some (.int .i64 f') ∧ W.drew.cell? ⟨g2, t * 9 + 1, none⟩ = some (.int .i64 s') ∧ W.drew.cell? ⟨g2, t * 9 + 2, none⟩ = some (.string ⟨nm'.toArray⟩) ∧ W.drew.cell? ⟨g2, t * 9 + 3, none⟩ = some (.int .i64 tk') ∧ W.drew.cell? ⟨g2, t * 9 + 4, none⟩ = some (.int .i64 tl') ∧ W.drew.cell? ⟨g2, t * 9 + 5, none⟩ = some (.int .i64 n') ∧ W.drew.cell? ⟨g2, t * 9 + 6, none⟩ = some (.int .i64 m') ∧ W.drew.cell? ⟨g2, t * 9 + 7, none⟩ = some (.slice b2 m2 d2) ∧ W.drew.cell? ⟨g2, t * 9 + 8, none⟩ = some (.int .i64 at2) ∧ w0.grownBy W.drew none := smOn h ⟨rfl, rfl, rfl, Nat.le_refl _, fun _ _ _ => rfl⟩
theorem smFrame {w0 W : World} {p g1 g2 t L c1 c2 : Nat} {f' s' : Int} {nm' : Gram.B} {tk' tl' n' m' at' at2 : Int} {b1 b2 : Option Addr} {m1 d1 m2 d2 : Nat} (h : W.cell? ⟨p, 7, none⟩ = some (.slice (some ⟨g1, 0, none⟩) L c1) ∧ W.cell? ⟨p + 1, 7, none⟩ = some (.slice (some ⟨g2, 0, none⟩) L c2) ∧ W.cell? ⟨g1, t * 9, none⟩ = some (.int .i64 f') ∧ W.cell? ⟨g1, t * 9 + 1, none⟩ = some (.int .i64 s') ∧ W.cell? ⟨g1, t * 9 + 2, none⟩ = some (.string ⟨nm'.toArray⟩) ∧ W.cell? ⟨g1, t * 9 + 3, none⟩ = some (.int .i64 tk') ∧ W.cell? ⟨g1, t * 9 + 4, none⟩ = some (.int .i64 tl') ∧ W.cell? ⟨g1, t * 9 + 5, none⟩ = some (.int .i64 n') ∧ W.cell? ⟨g1, t * 9 + 6, none⟩ = some (.int .i64 m') ∧ W.cell? ⟨g1, t * 9 + 7, none⟩ = some (.slice b1 m1 d1) ∧ W.cell? ⟨g1, t * 9 + 8, none⟩ = some (.int .i64 at') ∧ W.cell? ⟨g2, t * 9, none⟩ = some (.int .i64 f') ∧ W.cell? ⟨g2, t * 9 + 1, none⟩ = some (.int .i64 s') ∧ W.cell? ⟨g2, t * 9 + 2, none⟩ = some (.string ⟨nm'.toArray⟩) ∧ W.cell? ⟨g2, t * 9 + 3, none⟩ = some (.int .i64 tk') ∧ W.cell? ⟨g2, t * 9 + 4, none⟩ = some (.int .i64 tl') ∧ W.cell? ⟨g2, t * 9 + 5, none⟩ = some (.int .i64 n') ∧ W.cell? ⟨g2, t * 9 + 6, none⟩ = some (.int .i64 m') ∧ W.cell? ⟨g2, t * 9 + 7, none⟩ = some (.slice b2 m2 d2) ∧ W.cell? ⟨g2, t * 9 + 8, none⟩ = some (.int .i64 at2) ∧ w0.grownBy W none) : w0.grownBy W none := h.2.2.2.2.2.2.2.2.2.2.2.2.2.2.2.2.2.2.2.2

set_option maxHeartbeats 1600000 in
theorem csame_step (c N : Nat) (ih : CSame c N) : CSame c (N + 1) := by
  rintro ⟨f, s, nm, tk, tl, n, m, ks, at_⟩ hN w B va vb hx hy
  simp only [Gram.Exp.far] at hy
  obtain ⟨a1, n1, c1, rfl, kx⟩ := expInv hx
  obtain ⟨a2, n2, c2, rfl, ky⟩ := expInv hy
  have hLm := RepC.small kx
  rw [expsD_map, List.length_map] at hLm
  unfold maxLen at hLm
  simp only [Gram.Exp.kids] at hLm
  obtain ⟨_, _, e1⟩ := RepC.len kx
  obtain ⟨_, _, e2⟩ := RepC.len ky
  rw [expsD_map, List.length_map] at e1 e2
  simp only [Gram.Exp.kids] at e1 e2 kx ky
  rw [farL_len] at e2
  cases e1
  cases e2
  clear hx hy
  simp only [expCells]
  obtain ⟨L, hL⟩ : ∃ L, L = ks.length := ⟨_, rfl⟩
  rw [← hL]
  rw [← hL] at hLm
  have HL := Lib.hid hL
  clear hL
  go_enter Tryz.func42, Tryz.ntmps42
  go_wp2
  obtain ⟨W0, hW0⟩ : ∃ W0, W0 = (w.alloc (.cells #[.int .i64 f, .int .i64 s, .string ⟨nm.toArray⟩, .int .i64 tk, .int .i64 tl, .int .i64 n, .int .i64 m, .slice a1 L c1, .int .i64 at_] 42)).alloc (.cells #[.int .i64 f, .int .i64 s, .string ⟨nm.toArray⟩, .int .i64 tk, .int .i64 tl, .int .i64 n, .int .i64 m, .slice a2 L c2, .int .i64 (at_ + c)] 42) := ⟨_, rfl⟩
  have hg0 : w.grownBy W0 none := by rw [hW0]; exact galloc (World.grownBy_alloc w _ none) _
  have z1 : W0.cell? ⟨w.heap.size, 7, none⟩ = some (.slice a1 L c1) := by rw [hW0]; simp
  have z2 : W0.cell? ⟨w.heap.size + 1, 7, none⟩ = some (.slice a2 L c2) := by rw [hW0]; simp
  rw [← hW0]
  clear hW0
  go_loopw [7] (fun iv wr => ∃ t : Nat, t ≤ L ∧ iv = .int .i64 (t : Int) ∧ Hid (W0.grownBy wr none)) (fun i _ => L - (intOf i).toNat)
  case atStart => exact ⟨0, Nat.zero_le _, rfl, Lib.hid (World.grownBy.refl _ _)⟩
  case round =>
    obtain ⟨t, ht, rfl, HG⟩ := hrel
    have z1' := HG.out.cell z1 (by simp)
    have z2' := HG.out.cell z2 (by simp)
    by_cases hlt : t < L
    · obtain ⟨k, hk⟩ : ∃ k, ks[t]? = some k := ⟨_, List.getElem?_eq_getElem (by rw [← HL.out]; exact hlt)⟩
      have hks : SizeOf.sizeOf k < N := by
        have h1 := List.sizeOf_lt_of_mem (List.mem_of_getElem? hk)
        simp at hN
        omega
      have hx' := RepC.kept (hg0.trans HG.out) (fun k e => by cases e) kx
      have hy' := RepC.kept (hg0.trans HG.out) (fun k e => by cases e) ky
      obtain ⟨g1, cx, ex⟩ := RepC.lies hx' (by rw [expsD_map, List.length_map, ← HL.out]; omega)
      obtain ⟨g2, cy, ey⟩ := RepC.lies hy' (by rw [expsD_map, List.length_map, farL_len, ← HL.out]; omega)
      rw [expsD_map, List.length_map, ← HL.out] at ex
      rw [expsD_map, List.length_map, farL_len, ← HL.out] at ey
      cases ex
      cases ey
      obtain ⟨vs1, hv1, q1⟩ := RepC.rowAt hx' (expsD_rows _) t (expsD_at ks t hk)
      obtain ⟨vs2, hv2, q2⟩ := RepC.rowAt hy' (expsD_rows _) t (expsD_at _ t (farL_at c ks t hk))
      have ihk := fun (W : World) (hW : wr.grownBy W none) => ih k hks W B vs1 vs2 (RepRow.keptX hW (fun k e => by cases e) hv1) (RepRow.keptX hW (fun k e => by cases e) hv2)
      have HI := Lib.hid ihk
      clear ihk ih
      obtain ⟨b1, m1, d1, rfl, _⟩ := expInv hv1
      obtain ⟨b2, m2, d2, rfl, _⟩ := expInv hv2
      obtain ⟨f', s', nm', tk', tl', n', m', ks', at'⟩ := k
      have u0 := q1 0 _ rfl
      have u1 := q1 1 _ rfl
      have u2 := q1 2 _ rfl
      have u3 := q1 3 _ rfl
      have u4 := q1 4 _ rfl
      have u5 := q1 5 _ rfl
      have u6 := q1 6 _ rfl
      have u7 := q1 7 _ rfl
      have u8 := q1 8 _ rfl
      simp only [Gram.Exp.far, expCells] at q2 HI
      have v0 := q2 0 _ rfl
      have v1 := q2 1 _ rfl
      have v2 := q2 2 _ rfl
      have v3 := q2 3 _ rfl
      have v4 := q2 4 _ rfl
      have v5 := q2 5 _ rfl
      have v6 := q2 6 _ rfl
      have v7 := q2 7 _ rfl
      have v8 := q2 8 _ rfl
      rw [Nat.add_zero] at u0 v0
      have hS : wr.cell? ⟨w.heap.size, 7, none⟩ = some (.slice (some ⟨g1, 0, none⟩) L c1) ∧ wr.cell? ⟨w.heap.size + 1, 7, none⟩ = some (.slice (some ⟨g2, 0, none⟩) L c2) ∧ wr.cell? ⟨g1, t * 9, none⟩ = some (.int .i64 f') ∧ wr.cell? ⟨g1, t * 9 + 1, none⟩ = some (.int .i64 s') ∧ wr.cell? ⟨g1, t * 9 + 2, none⟩ = some (.string ⟨nm'.toArray⟩) ∧ wr.cell? ⟨g1, t * 9 + 3, none⟩ = some (.int .i64 tk') ∧ wr.cell? ⟨g1, t * 9 + 4, none⟩ = some (.int .i64 tl') ∧ wr.cell? ⟨g1, t * 9 + 5, none⟩ = some (.int .i64 n') ∧ wr.cell? ⟨g1, t * 9 + 6, none⟩ = some (.int .i64 m') ∧ wr.cell? ⟨g1, t * 9 + 7, none⟩ = some (.slice b1 m1 d1) ∧ wr.cell? ⟨g1, t * 9 + 8, none⟩ = some (.int .i64 at') ∧ wr.cell? ⟨g2, t * 9, none⟩ = some (.int .i64 f') ∧ wr.cell? ⟨g2, t * 9 + 1, none⟩ = some (.int .i64 s') ∧ wr.cell? ⟨g2, t * 9 + 2, none⟩ = some (.string ⟨nm'.toArray⟩) ∧ wr.cell? ⟨g2, t * 9 + 3, none⟩ = some (.int .i64 tk') ∧ wr.cell? ⟨g2, t * 9 + 4, none⟩ = some (.int .i64 tl') ∧ wr.cell? ⟨g2, t * 9 + 5, none⟩ = some (.int .i64 n') ∧ wr.cell? ⟨g2, t * 9 + 6, none⟩ = some (.int .i64 m') ∧ wr.cell? ⟨g2, t * 9 + 7, none⟩ = some (.slice b2 m2 d2) ∧ wr.cell? ⟨g2, t * 9 + 8, none⟩ = some (.int .i64 (at' + c)) ∧ wr.grownBy wr none := ⟨z1', z2', u0, u1, u2, u3, u4, u5, u6, u7, u8, v0, v1, v2, v3, v4, v5, v6, v7, v8, World.grownBy.refl _ _⟩
      clear q1 q2 hv1 hv2 hx' hy' hk hks u0 u1 u2 u3 u4 u5 u6 u7 u8 v0 v1 v2 v3 v4 v5 v6 v7 v8
      go_wp2
      go_region_held3 (fun W => W.cell? ⟨w.heap.size, 7, none⟩ = some (.slice (some ⟨g1, 0, none⟩) L c1) ∧ W.cell? ⟨w.heap.size + 1, 7, none⟩ = some (.slice (some ⟨g2, 0, none⟩) L c2) ∧ W.cell? ⟨g1, t * 9, none⟩ = some (.int .i64 f') ∧ W.cell? ⟨g1, t * 9 + 1, none⟩ = some (.int .i64 s') ∧ W.cell? ⟨g1, t * 9 + 2, none⟩ = some (.string ⟨nm'.toArray⟩) ∧ W.cell? ⟨g1, t * 9 + 3, none⟩ = some (.int .i64 tk') ∧ W.cell? ⟨g1, t * 9 + 4, none⟩ = some (.int .i64 tl') ∧ W.cell? ⟨g1, t * 9 + 5, none⟩ = some (.int .i64 n') ∧ W.cell? ⟨g1, t * 9 + 6, none⟩ = some (.int .i64 m') ∧ W.cell? ⟨g1, t * 9 + 7, none⟩ = some (.slice b1 m1 d1) ∧ W.cell? ⟨g1, t * 9 + 8, none⟩ = some (.int .i64 at') ∧ W.cell? ⟨g2, t * 9, none⟩ = some (.int .i64 f') ∧ W.cell? ⟨g2, t * 9 + 1, none⟩ = some (.int .i64 s') ∧ W.cell? ⟨g2, t * 9 + 2, none⟩ = some (.string ⟨nm'.toArray⟩) ∧ W.cell? ⟨g2, t * 9 + 3, none⟩ = some (.int .i64 tk') ∧ W.cell? ⟨g2, t * 9 + 4, none⟩ = some (.int .i64 tl') ∧ W.cell? ⟨g2, t * 9 + 5, none⟩ = some (.int .i64 n') ∧ W.cell? ⟨g2, t * 9 + 6, none⟩ = some (.int .i64 m') ∧ W.cell? ⟨g2, t * 9 + 7, none⟩ = some (.slice b2 m2 d2) ∧ W.cell? ⟨g2, t * 9 + 8, none⟩ = some (.int .i64 (at' + c)) ∧ wr.grownBy W none) (first | exact hS | exact smDrew hS)
        (first | (go_at_call 42; refine (HI.out (World.drew wr) ⟨rfl, rfl, rfl, Nat.le_refl _, fun _ _ _ => rfl⟩).mono ?_; rintro e w3 ⟨rfl, hg3⟩; have hS := smOn (smDrew hS) hg3))
      have HG2 := Lib.hid (HG.out.trans (smFrame hS))
      go_wp2
      exact ⟨⟨t + 1, by omega, by go_num, HG2⟩, by simp [intOf]; omega⟩
    · have e : t = L := by omega
      subst e
      go_wp2
      go_ret
      exact ⟨rfl, hg0.trans HG.out⟩

theorem csame (c : Nat) : ∀ N, CSame c N
  | 0 => fun _ h => by omega
  | N + 1 => csame_step c N (csame c N)
/-- SameExp at an expression and the same further on -/
theorem sameExp_any (c : Nat) (x : Gram.Exp) (w : World) (B : Nat) (va vb : List Value) (hx : RepRow w B [] (expD x) va) (hy : RepRow w B [] (expD (x.far c)) vb) :
    Calls Tryz.prog 42 #[.agg va.toArray, .agg vb.toArray, .bool false] w fun e w' => e = .returned (.bool true) ∧ w.grownBy w' none :=
  csame c _ x (Nat.lt_succ_self _) w B va vb hx hy

end Go.Proofs.YtjcdkgjfecnkgaaGreatDoor
