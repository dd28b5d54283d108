/- My texts TcE TcF TcG TcH WpN, joined. -/
import Derived.Test.YtbbamgjdnibldaaGreatMhH
import Derived.Test.YtbbamgjdnibldaaGreatMhF
set_option linter.unusedVariables false
set_option linter.unusedSimpArgs false
set_option linter.unnecessarySimpa false
set_option linter.unusedSectionVars false
set_option maxHeartbeats 12800000
set_option maxRecDepth 20000
namespace Go.Proofs.YtbbamgjdnibldaaGreat
open Go.RowKit Go.Maps Go.WideMaps
theorem Pt.c0 {w : World} {b : Nat} {p : Pv} {c : Int} (h : Pt w b p c) : w.cell? ⟨b, 0, none⟩ = some (.pointer (some ⟨p.ac, 0, none⟩)) := h.cell 0
theorem Pt.c2 {w : World} {b : Nat} {p : Pv} {c : Int} (h : Pt w b p c) : w.cell? ⟨b, 2, none⟩ = some (.int .i64 p.s) := h.cell 2
theorem Pt.c3 {w : World} {b : Nat} {p : Pv} {c : Int} (h : Pt w b p c) : w.cell? ⟨b, 3, none⟩ = some (.string ⟨p.nm.toArray⟩) := h.cell 3
theorem Pt.c4 {w : World} {b : Nat} {p : Pv} {c : Int} (h : Pt w b p c) : w.cell? ⟨b, 4, none⟩ = some (.int .i64 p.tk) := h.cell 4
theorem Pt.c5 {w : World} {b : Nat} {p : Pv} {c : Int} (h : Pt w b p c) : w.cell? ⟨b, 5, none⟩ = some (.int .i64 p.tl) := h.cell 5
theorem Pt.c6 {w : World} {b : Nat} {p : Pv} {c : Int} (h : Pt w b p c) : w.cell? ⟨b, 6, none⟩ = some (.int .i64 p.n) := h.cell 6
theorem Pt.c7 {w : World} {b : Nat} {p : Pv} {c : Int} (h : Pt w b p c) : w.cell? ⟨b, 7, none⟩ = some (.int .i64 p.m) := h.cell 7
theorem Pt.c10 {w : World} {b : Nat} {p : Pv} {c : Int} (h : Pt w b p c) : w.cell? ⟨b, 10, none⟩ = some (.slice p.ka p.kn p.kc) := h.cell 10
theorem Pt.c11 {w : World} {b : Nat} {p : Pv} {c : Int} (h : Pt w b p c) : w.cell? ⟨b, 11, none⟩ = some (.int .i64 c) := h.cell 11
theorem tsame_any (w : World) (a : Option Addr) (n c : Nat) (xs : List Ty.T) (hn : n = xs.length) (hm : n ≤ 1000000) (h : TyL w a xs) (hwf : ∀ x ∈ xs, wfT x) :
  Calls Tryz.prog 77 #[.slice a n c] w fun e w' => ∃ v, e = .returned v ∧ Dem w' v (Ty.same xs) ∧ w.grownBy w' none := by
 have hmf := makeFunc_run
 have hga := ga w (.cells #[.slice a n c] 117 (0, 0)) none
 have c1 := cell_of_row _ _ 0 _ _ _ (heap_alloc_new w (.cells #[.slice a n c] 117 (0, 0)))
 have hd : Dem (w.alloc (.cells #[.slice a n c] 117 (0, 0))) (.func (.func 115) #[] #[.pointer (some ⟨w.heap.size, 0, none⟩)]) (Ty.same xs) :=
  ⟨_, _, rfl, enters_of Tryz.func115 (by kernel_rfl) rfl, fun w' hg => tsame1_any w' w.heap.size a n c xs hn hm (h.kept (hga.trans hg)) hwf (hg.cell c1 (by simp))⟩
 have HD := ld (And.intro hd hga)
 clear hd c1 hga hn hm h hwf
 go_enter Tryz.func77, Tryz.ntmps77
 go_wp2
 go_ret
 exact ⟨_, rfl, HD.out.1, HD.out.2⟩
structure Nv where
 nm : List UInt8
 ua : Option Addr
 un : Nat
 uc : Nat
 ta : Option Addr
 tn : Nat
 tc : Nat
 la : Option Addr
 ln : Nat
 lc : Nat
 ia : Option Addr
 jn : Nat
 ic : Nat
 at_ : Int
def Nv.cells (v : Nv) : Array Value := #[.string ⟨v.nm.toArray⟩, .slice v.ua v.un v.uc, .slice v.ta v.tn v.tc, .slice v.la v.ln v.lc, .slice v.ia v.jn v.ic, .int .i64 v.at_]
theorem tcounts1_any (w : World) (b1 b2 b3 : Nat) (v : Nv) (x y : Int) (h1 : w.heap[b1]? = some (.cells v.cells 44 (0, 0))) (h2 : w.cell? ⟨b2, 0, none⟩ = some (.int .i64 x)) (h3 : w.cell? ⟨b3, 0, none⟩ = some (.int .i64 y)) :
  Calls Tryz.prog 119 #[.pointer (some ⟨b1, 0, none⟩), .pointer (some ⟨b2, 0, none⟩), .pointer (some ⟨b3, 0, none⟩)] w fun e w' => e = .returned (.bool ((v.un : Int) == x && (v.tn : Int) == y)) ∧ w.grownBy w' none := by
 have p1 : w.cell? ⟨b1, 1, none⟩ = some (.slice v.ua v.un v.uc) := cell_of_row w b1 1 _ _ _ h1
 have p2 : w.cell? ⟨b1, 2, none⟩ = some (.slice v.ta v.tn v.tc) := cell_of_row w b1 2 _ _ _ h1
 clear h1
 cases hq : ((v.un : Int) == x) with
 | true =>
  go_enter Tryz.func119, Tryz.ntmps119
  go_wp2
  go_ret
  exact ⟨by simp, World.grownBy.refl _ _⟩
 | false =>
  go_enter Tryz.func119, Tryz.ntmps119
  go_wp2
  go_ret
  exact ⟨by simp, World.grownBy.refl _ _⟩
theorem counts_cells (w : World) (cs : Array Value) (t u s : TypeId) (x y : Value) : (((w.alloc (.cells cs t)).alloc (.cells #[x] u)).alloc (.cells #[y] s)).heap[w.heap.size]? = some (.cells cs t (0, 0)) ∧ (((w.alloc (.cells cs t)).alloc (.cells #[x] u)).alloc (.cells #[y] s)).cell? ⟨w.heap.size + 1, 0, none⟩ = some x ∧ (((w.alloc (.cells cs t)).alloc (.cells #[x] u)).alloc (.cells #[y] s)).cell? ⟨w.heap.size + 1 + 1, 0, none⟩ = some y := by
 refine ⟨((galloc2 _ _ _).block _ (by simp) (by simp)).trans (heap_alloc_new w _), (ga _ _ none).cell (cell_of_row _ _ 0 _ _ _ (heap_alloc_2 w _ _)) (by simp), ?_⟩
 have := heap_alloc_2 (w.alloc (.cells cs t)) (.cells #[x] u) (.cells #[y] s)
 rw [World.size_alloc] at this
 exact cell_of_row _ _ 0 _ _ _ this
theorem tcounts_any (w : World) (v : Nv) (x y : Int) : Calls Tryz.prog 86 #[.agg v.cells, .int .i64 x, .int .i64 y] w fun e w' => ∃ u, e = .returned u ∧ Dem w' u ((v.un : Int) == x && (v.tn : Int) == y) ∧ w.grownBy w' none := by
 have hmf := makeFunc_run
 obtain ⟨c1, c2, c3⟩ := counts_cells w v.cells 44 3 3 (.int .i64 x) (.int .i64 y)
 have hg3 := galloc3 w (.cells v.cells 44) (.cells #[.int .i64 x] 3) (.cells #[.int .i64 y] 3)
 have hd : Dem (((w.alloc (.cells v.cells 44)).alloc (.cells #[.int .i64 x] 3)).alloc (.cells #[.int .i64 y] 3)) (.func (.func 119) #[] #[.pointer (some ⟨w.heap.size, 0, none⟩), .pointer (some ⟨w.heap.size + 1, 0, none⟩), .pointer (some ⟨w.heap.size + 1 + 1, 0, none⟩)]) ((v.un : Int) == x && (v.tn : Int) == y) :=
  ⟨_, _, rfl, enters_of Tryz.func119 (by kernel_rfl) rfl, fun w' hg => tcounts1_any w' _ _ _ v x y ((hg.block _ (gl c1) (by simp)).trans c1) (hg.cell c2 (by simp)) (hg.cell c3 (by simp))⟩
 have HD := ld (And.intro hd hg3)
 clear hd c1 c2 c3 hg3
 unfold Nv.cells at *
 go_enter Tryz.func86, Tryz.ntmps86
 go_wp2
 go_ret
 exact ⟨_, rfl, HD.out.1, HD.out.2⟩
open Wl (sA sB sC)
theorem tare1_any (w : World) (pb tb b : Nat) (p : Pv) (c : Int) (hp : Pt w b p c) (a2 : Option Addr) (n2 c2 : Nat) (kts ys : List Ty.T) (hkn : p.kn = kts.length) (hn2 : n2 = ys.length) (hm : p.kn ≤ 1000000) (hk : TyL w p.ka kts) (hy : TyL w a2 ys) (h1 : w.cell? ⟨pb, 0, none⟩ = some (.pointer (some ⟨b, 0, none⟩))) (h2 : w.cell? ⟨tb, 0, none⟩ = some (.slice a2 n2 c2)) :
  Calls Tryz.prog 120 #[.pointer (some ⟨pb, 0, none⟩), .pointer (some ⟨tb, 0, none⟩)] w fun e w' => e = .returned (.bool (kts == ys)) ∧ w.grownBy w' none := by
 have HN := ld (And.intro hkn hn2)
 clear hkn hn2
 go_enter Tryz.func120, Tryz.ntmps120
 go_wp2
 refine wp_region_L (S := fun V => (w).grownBy V none) (Z := []) (by kernel_rfl) ?_
 have hS := gdrew (World.grownBy.refl (w) none)
 refine Wl.t2 0 3 (.pointer (some ⟨b, 0, none⟩)) (fun w' hw' => ?_) hS ?_
 ·have hc0 := hw'.cell (h1) (by simp); clear hw'; go_simp
 (try simp only [Act.put, sA, sB, sC])
 refine Wl.t1 1 4 (.pointer (some ⟨b, 0, none⟩)) hS ?_
 (try simp only [Act.put, sA, sB, sC])
 refine Wl.t1 2 5 (.pointer (some ⟨b, 10, none⟩)) hS ?_
 (try simp only [Act.put, sA, sB, sC])
 refine Wl.t2 3 6 (.slice p.ka p.kn p.kc) (fun w' hw' => ?_) hS ?_
 ·have hc0 := hw'.cell (hp.c10) (by simp); clear hw'; go_simp
 (try simp only [Act.put, sA, sB, sC])
 refine Wl.t2 4 7 (.slice a2 n2 c2) (fun w' hw' => ?_) hS ?_
 ·have hc0 := hw'.cell (h2) (by simp); clear hw'; go_simp
 (try simp only [Act.put, sA, sB, sC])
 refine Wl.cg (R := fun v _ => v = .bool (kts == ys)) 5 8 121 #[.slice p.ka p.kn p.kc, .slice a2 n2 c2] hS ((tequal_any _ p.ka a2 p.kn p.kc n2 c2 kts ys HN.out.1 HN.out.2 hm (hk.kept hS) (hy.kept hS)).mono (by rintro e w' ⟨rfl, hg⟩; exact ⟨_, rfl, rfl, hg⟩)) ?_
 rintro v w2 rfl - hS
 (try simp only [Act.put, sA, sB, sC])
 refine Wl.t1 6 2 (.bool (kts == ys)) hS ?_
 (try simp only [Act.put, sA, sB, sC])
 refine wpL_done (by kernel_rfl) ?_ _
 go_wp2
 go_ret
 exact ⟨rfl, hS⟩
theorem tare_any (w : World) (b : Nat) (p : Pv) (c : Int) (hp : Pt w b p c) (a2 : Option Addr) (n2 c2 : Nat) (kts ys : List Ty.T) (hkn : p.kn = kts.length) (hn2 : n2 = ys.length) (hm : p.kn ≤ 1000000) (hk : TyL w p.ka kts) (hy : TyL w a2 ys) :
  Calls Tryz.prog 87 #[.pointer (some ⟨b, 0, none⟩), .slice a2 n2 c2] w fun e w' => ∃ v, e = .returned v ∧ Dem w' v (kts == ys) ∧ w.grownBy w' none := by
 have hmf := makeFunc_run
 obtain ⟨c1, c2'⟩ := alloc2_cell w (.pointer (some ⟨b, 0, none⟩)) (.slice a2 n2 c2) 99 117
 have hga := galloc2 w (.cells #[.pointer (some ⟨b, 0, none⟩)] 99) (.cells #[.slice a2 n2 c2] 117)
 have hd : Dem ((w.alloc (.cells #[.pointer (some ⟨b, 0, none⟩)] 99)).alloc (.cells #[.slice a2 n2 c2] 117)) (.func (.func 120) #[] #[.pointer (some ⟨w.heap.size, 0, none⟩), .pointer (some ⟨w.heap.size + 1, 0, none⟩)]) (kts == ys) :=
  ⟨_, _, rfl, enters_of Tryz.func120 (by kernel_rfl) rfl, fun w' hg => tare1_any w' _ _ b p c (hp.kept (hga.trans hg)) a2 n2 c2 kts ys hkn hn2 hm (hk.kept (hga.trans hg)) (hy.kept (hga.trans hg)) (hg.cell c1 (by simp)) (hg.cell c2' (by simp))⟩
 have HD := ld (And.intro hd hga)
 clear hd c1 c2' hga hp hkn hn2 hm hk hy
 go_enter Tryz.func87, Tryz.ntmps87
 go_wp2
 go_ret
 exact ⟨_, rfl, HD.out.1, HD.out.2⟩
theorem tapplied1 (w : World) (pb tb b : Nat) (p : Pv) (c : Int) (hp : Pt w b p c) (a2 : Option Addr) (n2 c2 : Nat) (h1 : w.cell? ⟨pb, 0, none⟩ = some (.pointer (some ⟨b, 0, none⟩))) (h2 : w.cell? ⟨tb, 0, none⟩ = some (.slice a2 n2 c2)) :
  Dem w (.func (.func 118) #[] #[.pointer (some ⟨pb, 0, none⟩), .pointer (some ⟨tb, 0, none⟩)]) (p.kn == n2) := by
 refine ⟨_, _, rfl, enters_of Tryz.func118 (by kernel_rfl) rfl, fun w' hg => ?_⟩
 replace hp := hp.kept hg
 replace h1 := hg.cell h1 (by simp)
 replace h2 := hg.cell h2 (by simp)
 clear hg
 have he : ((p.kn : Int) == (n2 : Int)) = (p.kn == n2) := by rw [Bool.eq_iff_iff]; simp only [beq_iff_eq]; omega
 rw [← he]
 go_enter Tryz.func118, Tryz.ntmps118
 go_wp2
 refine wp_region_L (S := fun V => (w').grownBy V none) (Z := []) (by kernel_rfl) ?_
 have hS := gdrew (World.grownBy.refl (w') none)
 refine Wl.t2 0 3 (.pointer (some ⟨b, 0, none⟩)) (fun w8 hw' => ?_) hS ?_
 ·have hc0 := hw'.cell (h1) (by simp); clear hw'; go_simp
 (try simp only [Act.put, sA, sB, sC])
 refine Wl.t1 1 4 (.pointer (some ⟨b, 0, none⟩)) hS ?_
 (try simp only [Act.put, sA, sB, sC])
 refine Wl.t1 2 5 (.pointer (some ⟨b, 10, none⟩)) hS ?_
 (try simp only [Act.put, sA, sB, sC])
 refine Wl.t2 3 6 (.slice p.ka p.kn p.kc) (fun w8 hw' => ?_) hS ?_
 ·have hc0 := hw'.cell (hp.c10) (by simp); clear hw'; go_simp
 (try simp only [Act.put, sA, sB, sC])
 refine Wl.t2 4 7 (.int .i64 (p.kn : Int)) (fun w8 hw' => ?_) hS ?_
 ·clear hw'; go_simp
 (try simp only [Act.put, sA, sB, sC])
 refine Wl.t2 5 8 (.slice a2 n2 c2) (fun w8 hw' => ?_) hS ?_
 ·have hc0 := hw'.cell (h2) (by simp); clear hw'; go_simp
 (try simp only [Act.put, sA, sB, sC])
 refine Wl.t2 6 9 (.int .i64 (n2 : Int)) (fun w8 hw' => ?_) hS ?_
 ·clear hw'; go_simp
 (try simp only [Act.put, sA, sB, sC])
 refine Wl.t1 7 10 (.bool ((p.kn : Int) == (n2 : Int))) hS ?_
 (try simp only [Act.put, sA, sB, sC])
 refine Wl.t1 8 2 (.bool ((p.kn : Int) == (n2 : Int))) hS ?_
 (try simp only [Act.put, sA, sB, sC])
 refine wpL_done (by kernel_rfl) ?_ _
 go_wp2
 go_ret
 exact ⟨rfl, hS⟩
theorem ttick1 (w : World) (pb b : Nat) (p : Pv) (c : Int) (hp : Pt w b p c) (h1 : w.cell? ⟨pb, 0, none⟩ = some (.pointer (some ⟨b, 0, none⟩))) :
  Dem w (.func (.func 81) #[] #[.pointer (some ⟨pb, 0, none⟩)]) (decide (p.m < p.n)) := by
 refine ⟨_, _, rfl, enters_of Tryz.func81 (by kernel_rfl) rfl, fun w' hg => ?_⟩
 replace hp := hp.kept hg
 replace h1 := hg.cell h1 (by simp)
 clear hg
 go_enter Tryz.func81, Tryz.ntmps81
 go_wp2
 refine wp_region_L (S := fun V => (w').grownBy V none) (Z := []) (by kernel_rfl) ?_
 have hS := gdrew (World.grownBy.refl (w') none)
 refine Wl.t2 0 2 (.pointer (some ⟨b, 0, none⟩)) (fun w8 hw' => ?_) hS ?_
 ·have hc0 := hw'.cell (h1) (by simp); clear hw'; go_simp
 (try simp only [Act.put, sA, sB, sC])
 refine Wl.t1 1 3 (.pointer (some ⟨b, 0, none⟩)) hS ?_
 (try simp only [Act.put, sA, sB, sC])
 refine Wl.t1 2 4 (.pointer (some ⟨b, 1, none⟩)) hS ?_
 (try simp only [Act.put, sA, sB, sC])
 refine Wl.t1 3 5 (.pointer (some ⟨b, 7, none⟩)) hS ?_
 (try simp only [Act.put, sA, sB, sC])
 refine Wl.t2 4 6 (.int .i64 p.m) (fun w8 hw' => ?_) hS ?_
 ·have hc0 := hw'.cell (hp.c7) (by simp); clear hw'; go_simp
 (try simp only [Act.put, sA, sB, sC])
 refine Wl.t2 5 7 (.pointer (some ⟨b, 0, none⟩)) (fun w8 hw' => ?_) hS ?_
 ·have hc0 := hw'.cell (h1) (by simp); clear hw'; go_simp
 (try simp only [Act.put, sA, sB, sC])
 refine Wl.t1 6 8 (.pointer (some ⟨b, 0, none⟩)) hS ?_
 (try simp only [Act.put, sA, sB, sC])
 refine Wl.t1 7 9 (.pointer (some ⟨b, 1, none⟩)) hS ?_
 (try simp only [Act.put, sA, sB, sC])
 refine Wl.t1 8 10 (.pointer (some ⟨b, 6, none⟩)) hS ?_
 (try simp only [Act.put, sA, sB, sC])
 refine Wl.t2 9 11 (.int .i64 p.n) (fun w8 hw' => ?_) hS ?_
 ·have hc0 := hw'.cell (hp.c6) (by simp); clear hw'; go_simp
 (try simp only [Act.put, sA, sB, sC])
 refine Wl.t1 10 12 (.bool (decide (p.m < p.n))) hS ?_
 (try simp only [Act.put, sA, sB, sC])
 refine Wl.t1 11 1 (.bool (decide (p.m < p.n))) hS ?_
 (try simp only [Act.put, sA, sB, sC])
 refine wpL_done (by kernel_rfl) ?_ _
 go_wp2
 go_ret
 exact ⟨rfl, hS⟩
theorem TyL.at0 {w : World} {a : Option Addr} {x : Ty.T} {r : List Ty.T} (h : TyL w a (x :: r)) : ∃ g off, a = some ⟨g, off, none⟩ ∧ w.cell? ⟨g, off, none⟩ = some (.int .i64 x.1) ∧ w.cell? ⟨g, off + 1, none⟩ = some (.int .i64 x.2) := by
 obtain ⟨g, off, h1, h2, h3⟩ := h 0 x rfl
 exact ⟨g, off, h1, by simpa using h2, by simpa using h3⟩
theorem TyL.at1 {w : World} {a : Option Addr} {x y : Ty.T} {r : List Ty.T} (h : TyL w a (x :: y :: r)) : ∃ g off, a = some ⟨g, off, none⟩ ∧ w.cell? ⟨g, off, none⟩ = some (.int .i64 x.1) ∧ w.cell? ⟨g, off + 1, none⟩ = some (.int .i64 x.2) ∧ w.cell? ⟨g, off + 2, none⟩ = some (.int .i64 y.1) ∧ w.cell? ⟨g, off + 3, none⟩ = some (.int .i64 y.2) := by
 obtain ⟨g, off, h1, h2, h3⟩ := h.at0
 obtain ⟨g', off', h4, h5, h6⟩ := h 1 y rfl
 rw [h1] at h4
 cases h4
 exact ⟨g, off, h1, h2, h3, by simpa using h5, by simpa using h6⟩
theorem tfolded1 (w : World) (ib ob pb b : Nat) (p : Pv) (c : Int) (hp : Pt w b p c) (ia oa : Option Addr) (ni ci no co nk : Nat) (x y z : Ty.T) (xs ys zs : List Ty.T) (hx : TyL w ia (x :: xs)) (hy : TyL w oa (y :: ys)) (hz : TyL w p.ka (z :: zs)) (hnk : p.kn = nk + 1)
  (h1 : w.cell? ⟨ib, 0, none⟩ = some (.slice ia (ni + 1) ci)) (h2 : w.cell? ⟨ob, 0, none⟩ = some (.slice oa (no + 1) co)) (h3 : w.cell? ⟨pb, 0, none⟩ = some (.pointer (some ⟨b, 0, none⟩))) :
  Dem w (.func (.func 89) #[] #[.pointer (some ⟨ib, 0, none⟩), .pointer (some ⟨ob, 0, none⟩), .pointer (some ⟨pb, 0, none⟩)]) (x == y && x == z) := by
 refine ⟨_, _, rfl, enters_of Tryz.func89 (by kernel_rfl) rfl, fun w' hg => ?_⟩
 obtain ⟨gi, oi, rfl, x0, x1⟩ := (hx.kept hg).at0
 obtain ⟨go, oo, rfl, y0, y1⟩ := (hy.kept hg).at0
 obtain ⟨gk, ok, hka, z0, z1⟩ := (hz.kept hg).at0
 replace hp := hp.kept hg
 replace h1 := hg.cell h1 (by simp)
 replace h2 := hg.cell h2 (by simp)
 replace h3 := hg.cell h3 (by simp)
 have h4 := hp.c10
 rw [hka, hnk] at h4
 obtain ⟨ck, hck⟩ : ∃ ck, ck = p.kc := ⟨_, rfl⟩
 rw [← hck] at h4
 clear hg hka hnk hx hy hz hck
 obtain ⟨R, hR⟩ : ∃ R, R = (x == y && x == z) := ⟨_, rfl⟩
 rw [← hR]
 cases hq : ((x.1, x.2) == (y.1, y.2)) with
 | true =>
  have hv : R = ((x.1, x.2) == (z.1, z.2)) := by
   have h9 : (x == y) = true := hq
   rw [hR, h9]; rfl
  rw [hv]
  clear hR hv
  go_enter Tryz.func89, Tryz.ntmps89
  go_wp2
  refine wp_region_L (S := fun V => (w').grownBy V none) (Z := []) (by kernel_rfl) ?_
  have hS := gdrew (World.grownBy.refl (w') none)
  refine Wl.t2 0 4 (.slice (some ⟨gi, oi, none⟩) (ni + 1) ci) (fun w8 hw' => ?_) hS ?_
  ·have hc0 := hw'.cell (h1) (by simp); clear hw'; go_simp
  (try simp only [Act.put, sA, sB, sC])
  refine Wl.t2 1 5 (.pointer (some ⟨gi, oi, none⟩)) (fun w8 hw' => ?_) hS ?_
  ·clear hw'; go_simp
  (try simp only [Act.put, sA, sB, sC])
  refine Wl.t2 2 6 (.agg #[.int .i64 x.1, .int .i64 x.2]) (fun w8 hw' => ?_) hS ?_
  ·have hc0 := hw'.cell (x0) (by simp); have hc1 := hw'.cell (x1) (by simp); clear hw'; go_simp
  (try simp only [Act.put, sA, sB, sC])
  refine Wl.t2 3 7 (.slice (some ⟨go, oo, none⟩) (no + 1) co) (fun w8 hw' => ?_) hS ?_
  ·have hc0 := hw'.cell (h2) (by simp); clear hw'; go_simp
  (try simp only [Act.put, sA, sB, sC])
  refine Wl.t2 4 8 (.pointer (some ⟨go, oo, none⟩)) (fun w8 hw' => ?_) hS ?_
  ·clear hw'; go_simp
  (try simp only [Act.put, sA, sB, sC])
  refine Wl.t2 5 9 (.agg #[.int .i64 y.1, .int .i64 y.2]) (fun w8 hw' => ?_) hS ?_
  ·have hc0 := hw'.cell (y0) (by simp); have hc1 := hw'.cell (y1) (by simp); clear hw'; go_simp
  (try simp only [Act.put, sA, sB, sC])
  refine Wl.t2 6 10 (.bool true) (fun w8 hw' => hq ▸ run_eqT _ _ _ _ _ x.1 x.2 y.1 y.2 rfl rfl rfl) hS ?_
  (try simp only [Act.put, sA, sB, sC])
  refine Wl.t1 7 11 (.bool true) hS ?_
  (try simp only [Act.put, sA, sB, sC])
  refine Wl.t2 8 12 (.slice (some ⟨gi, oi, none⟩) (ni + 1) ci) (fun w8 hw' => ?_) hS ?_
  ·have hc0 := hw'.cell (h1) (by simp); clear hw'; go_simp
  (try simp only [Act.put, sA, sB, sC])
  refine Wl.t2 9 13 (.pointer (some ⟨gi, oi, none⟩)) (fun w8 hw' => ?_) hS ?_
  ·clear hw'; go_simp
  (try simp only [Act.put, sA, sB, sC])
  refine Wl.t2 10 14 (.agg #[.int .i64 x.1, .int .i64 x.2]) (fun w8 hw' => ?_) hS ?_
  ·have hc0 := hw'.cell (x0) (by simp); have hc1 := hw'.cell (x1) (by simp); clear hw'; go_simp
  (try simp only [Act.put, sA, sB, sC])
  refine Wl.t2 11 15 (.pointer (some ⟨b, 0, none⟩)) (fun w8 hw' => ?_) hS ?_
  ·have hc0 := hw'.cell (h3) (by simp); clear hw'; go_simp
  (try simp only [Act.put, sA, sB, sC])
  refine Wl.t1 12 16 (.pointer (some ⟨b, 0, none⟩)) hS ?_
  (try simp only [Act.put, sA, sB, sC])
  refine Wl.t1 13 17 (.pointer (some ⟨b, 10, none⟩)) hS ?_
  (try simp only [Act.put, sA, sB, sC])
  refine Wl.t2 14 18 (.slice (some ⟨gk, ok, none⟩) (nk + 1) ck) (fun w8 hw' => ?_) hS ?_
  ·have hc0 := hw'.cell (h4) (by simp); clear hw'; go_simp
  (try simp only [Act.put, sA, sB, sC])
  refine Wl.t2 15 19 (.pointer (some ⟨gk, ok, none⟩)) (fun w8 hw' => ?_) hS ?_
  ·clear hw'; go_simp
  (try simp only [Act.put, sA, sB, sC])
  refine Wl.t2 16 20 (.agg #[.int .i64 z.1, .int .i64 z.2]) (fun w8 hw' => ?_) hS ?_
  ·have hc0 := hw'.cell (z0) (by simp); have hc1 := hw'.cell (z1) (by simp); clear hw'; go_simp
  (try simp only [Act.put, sA, sB, sC])
  refine Wl.t2 17 21 (.bool ((x.1, x.2) == (z.1, z.2))) (fun w8 hw' => run_eqT _ _ _ _ _ _ _ _ _ rfl rfl rfl) hS ?_
  (try simp only [Act.put, sA, sB, sC])
  refine Wl.t1 18 22 (.bool ((x.1, x.2) == (z.1, z.2))) hS ?_
  (try simp only [Act.put, sA, sB, sC])
  refine Wl.t1 19 3 (.bool ((x.1, x.2) == (z.1, z.2))) hS ?_
  (try simp only [Act.put, sA, sB, sC])
  refine wpL_done (by kernel_rfl) ?_ _
  go_wp2
  go_ret
  exact ⟨rfl, hS⟩
 | false =>
  have hv : R = false := by
   have h9 : (x == y) = false := hq
   rw [hR, h9]; rfl
  rw [hv]
  clear hR hv
  go_enter Tryz.func89, Tryz.ntmps89
  go_wp2
  refine wp_region_L (S := fun V => (w').grownBy V none) (Z := []) (by kernel_rfl) ?_
  have hS := gdrew (World.grownBy.refl (w') none)
  refine Wl.t2 0 4 (.slice (some ⟨gi, oi, none⟩) (ni + 1) ci) (fun w8 hw' => ?_) hS ?_
  ·have hc0 := hw'.cell (h1) (by simp); clear hw'; go_simp
  (try simp only [Act.put, sA, sB, sC])
  refine Wl.t2 1 5 (.pointer (some ⟨gi, oi, none⟩)) (fun w8 hw' => ?_) hS ?_
  ·clear hw'; go_simp
  (try simp only [Act.put, sA, sB, sC])
  refine Wl.t2 2 6 (.agg #[.int .i64 x.1, .int .i64 x.2]) (fun w8 hw' => ?_) hS ?_
  ·have hc0 := hw'.cell (x0) (by simp); have hc1 := hw'.cell (x1) (by simp); clear hw'; go_simp
  (try simp only [Act.put, sA, sB, sC])
  refine Wl.t2 3 7 (.slice (some ⟨go, oo, none⟩) (no + 1) co) (fun w8 hw' => ?_) hS ?_
  ·have hc0 := hw'.cell (h2) (by simp); clear hw'; go_simp
  (try simp only [Act.put, sA, sB, sC])
  refine Wl.t2 4 8 (.pointer (some ⟨go, oo, none⟩)) (fun w8 hw' => ?_) hS ?_
  ·clear hw'; go_simp
  (try simp only [Act.put, sA, sB, sC])
  refine Wl.t2 5 9 (.agg #[.int .i64 y.1, .int .i64 y.2]) (fun w8 hw' => ?_) hS ?_
  ·have hc0 := hw'.cell (y0) (by simp); have hc1 := hw'.cell (y1) (by simp); clear hw'; go_simp
  (try simp only [Act.put, sA, sB, sC])
  refine Wl.t2 6 10 (.bool false) (fun w8 hw' => hq ▸ run_eqT _ _ _ _ _ x.1 x.2 y.1 y.2 rfl rfl rfl) hS ?_
  (try simp only [Act.put, sA, sB, sC])
  refine Wl.t1 7 11 (.bool false) hS ?_
  (try simp only [Act.put, sA, sB, sC])
  refine Wl.t3 8 12 hS ?_
  (try simp only [Act.put, sA, sB, sC])
  refine Wl.t3 9 13 hS ?_
  (try simp only [Act.put, sA, sB, sC])
  refine Wl.t3 10 14 hS ?_
  (try simp only [Act.put, sA, sB, sC])
  refine Wl.t3 11 15 hS ?_
  (try simp only [Act.put, sA, sB, sC])
  refine Wl.t3 12 16 hS ?_
  (try simp only [Act.put, sA, sB, sC])
  refine Wl.t3 13 17 hS ?_
  (try simp only [Act.put, sA, sB, sC])
  refine Wl.t3 14 18 hS ?_
  (try simp only [Act.put, sA, sB, sC])
  refine Wl.t3 15 19 hS ?_
  (try simp only [Act.put, sA, sB, sC])
  refine Wl.t3 16 20 hS ?_
  (try simp only [Act.put, sA, sB, sC])
  refine Wl.t3 17 21 hS ?_
  (try simp only [Act.put, sA, sB, sC])
  refine Wl.t1 18 22 (.bool false) hS ?_
  (try simp only [Act.put, sA, sB, sC])
  refine Wl.t1 19 3 (.bool false) hS ?_
  (try simp only [Act.put, sA, sB, sC])
  refine wpL_done (by kernel_rfl) ?_ _
  go_wp2
  go_ret
  exact ⟨rfl, hS⟩
theorem tfolded2 (w : World) (ib pb b : Nat) (p : Pv) (c : Int) (hp : Pt w b p c) (ia : Option Addr) (ni ci nk : Nat) (x x2 z z2 : Ty.T) (xs zs : List Ty.T) (hx : TyL w ia (x :: x2 :: xs)) (hz : TyL w p.ka (z :: z2 :: zs)) (hnk : p.kn = nk + 1 + 1)
  (h1 : w.cell? ⟨ib, 0, none⟩ = some (.slice ia (ni + 1 + 1) ci)) (h3 : w.cell? ⟨pb, 0, none⟩ = some (.pointer (some ⟨b, 0, none⟩))) :
  Dem w (.func (.func 90) #[] #[.pointer (some ⟨pb, 0, none⟩), .pointer (some ⟨ib, 0, none⟩)]) (!Ty.scal z2 && x2.1 == z2.1) := by
 refine ⟨_, _, rfl, enters_of Tryz.func90 (by kernel_rfl) rfl, fun w' hg => ?_⟩
 obtain ⟨gi, oi, rfl, x0, x1, x2a, x2b⟩ := (hx.kept hg).at1
 obtain ⟨gk, ok, hka, z0, z1, z2a, z2b⟩ := (hz.kept hg).at1
 replace hp := hp.kept hg
 replace h1 := hg.cell h1 (by simp)
 replace h3 := hg.cell h3 (by simp)
 have h4 := hp.c10
 rw [hka, hnk] at h4
 obtain ⟨ck, hck⟩ : ∃ ck, ck = p.kc := ⟨_, rfl⟩
 rw [← hck] at h4
 clear hg hka hnk hx hz hck
 obtain ⟨R, hR⟩ : ∃ R, R = (!Ty.scal z2 && x2.1 == z2.1) := ⟨_, rfl⟩
 rw [← hR]
 cases hq : (z2.2 != 0) with
 | true =>
  have hv : R = (x2.1 == z2.1) := by
   have h9 : (!Ty.scal z2) = true := hq
   rw [hR, h9]; rfl
  rw [hv]
  clear hR hv
  go_enter Tryz.func90, Tryz.ntmps90
  go_wp2
  refine wp_region_L (S := fun V => (w').grownBy V none) (Z := []) (by kernel_rfl) ?_
  have hS := gdrew (World.grownBy.refl (w') none)
  refine Wl.t2 0 3 (.pointer (some ⟨b, 0, none⟩)) (fun w8 hw' => ?_) hS ?_
  ·have hc0 := hw'.cell (h3) (by simp); clear hw'; go_simp
  (try simp only [Act.put, sA, sB, sC])
  refine Wl.t1 1 4 (.pointer (some ⟨b, 0, none⟩)) hS ?_
  (try simp only [Act.put, sA, sB, sC])
  refine Wl.t1 2 5 (.pointer (some ⟨b, 10, none⟩)) hS ?_
  (try simp only [Act.put, sA, sB, sC])
  refine Wl.t2 3 6 (.slice (some ⟨gk, ok, none⟩) (nk + 1 + 1) ck) (fun w8 hw' => ?_) hS ?_
  ·have hc0 := hw'.cell (h4) (by simp); clear hw'; go_simp
  (try simp only [Act.put, sA, sB, sC])
  refine Wl.t2 4 7 (.pointer (some ⟨gk, ok + 2, none⟩)) (fun w8 hw' => ?_) hS ?_
  ·clear hw'; go_simp; intro h9; exfalso; omega
  (try simp only [Act.put, sA, sB, sC])
  refine Wl.t2 5 8 (.agg #[.int .i64 z2.1, .int .i64 z2.2]) (fun w8 hw' => ?_) hS ?_
  ·have hc0 := hw'.cell (z2a) (by simp); have hc1 := hw'.cell (z2b) (by simp); clear hw'; go_simp
  (try simp only [Act.put, sA, sB, sC])
  refine Wl.cg (R := fun v _ => v = .bool true) 6 9 85 #[.agg #[.int .i64 z2.1, .int .i64 z2.2]] hS ((tisArray_any z2.1 z2.2 _).mono (by rintro e w9 ⟨rfl, hg⟩; exact ⟨_, rfl, by rw [hq], hg⟩)) ?_
  rintro v w2 rfl - hS
  (try simp only [Act.put, sA, sB, sC])
  refine Wl.t1 7 10 (.bool true) hS ?_
  (try simp only [Act.put, sA, sB, sC])
  refine Wl.t2 8 11 (.slice (some ⟨gi, oi, none⟩) (ni + 1 + 1) ci) (fun w8 hw' => ?_) hS ?_
  ·have hc0 := hw'.cell (h1) (by simp); clear hw'; go_simp
  (try simp only [Act.put, sA, sB, sC])
  refine Wl.t2 9 12 (.pointer (some ⟨gi, oi + 2, none⟩)) (fun w8 hw' => ?_) hS ?_
  ·clear hw'; go_simp; intro h9; exfalso; omega
  (try simp only [Act.put, sA, sB, sC])
  refine Wl.t1 10 13 (.pointer (some ⟨gi, oi + 2, none⟩)) hS ?_
  (try simp only [Act.put, sA, sB, sC])
  refine Wl.t2 11 14 (.int .i64 x2.1) (fun w8 hw' => ?_) hS ?_
  ·have hc0 := hw'.cell (x2a) (by simp); clear hw'; go_simp
  (try simp only [Act.put, sA, sB, sC])
  refine Wl.t2 12 15 (.pointer (some ⟨b, 0, none⟩)) (fun w8 hw' => ?_) hS ?_
  ·have hc0 := hw'.cell (h3) (by simp); clear hw'; go_simp
  (try simp only [Act.put, sA, sB, sC])
  refine Wl.t1 13 16 (.pointer (some ⟨b, 0, none⟩)) hS ?_
  (try simp only [Act.put, sA, sB, sC])
  refine Wl.t1 14 17 (.pointer (some ⟨b, 10, none⟩)) hS ?_
  (try simp only [Act.put, sA, sB, sC])
  refine Wl.t2 15 18 (.slice (some ⟨gk, ok, none⟩) (nk + 1 + 1) ck) (fun w8 hw' => ?_) hS ?_
  ·have hc0 := hw'.cell (h4) (by simp); clear hw'; go_simp
  (try simp only [Act.put, sA, sB, sC])
  refine Wl.t2 16 19 (.pointer (some ⟨gk, ok + 2, none⟩)) (fun w8 hw' => ?_) hS ?_
  ·clear hw'; go_simp; intro h9; exfalso; omega
  (try simp only [Act.put, sA, sB, sC])
  refine Wl.t1 17 20 (.pointer (some ⟨gk, ok + 2, none⟩)) hS ?_
  (try simp only [Act.put, sA, sB, sC])
  refine Wl.t2 18 21 (.int .i64 z2.1) (fun w8 hw' => ?_) hS ?_
  ·have hc0 := hw'.cell (z2a) (by simp); clear hw'; go_simp
  (try simp only [Act.put, sA, sB, sC])
  refine Wl.t1 19 22 (.bool (x2.1 == z2.1)) hS ?_
  (try simp only [Act.put, sA, sB, sC])
  refine Wl.t1 20 23 (.bool (x2.1 == z2.1)) hS ?_
  (try simp only [Act.put, sA, sB, sC])
  refine Wl.t1 21 2 (.bool (x2.1 == z2.1)) hS ?_
  (try simp only [Act.put, sA, sB, sC])
  refine wpL_done (by kernel_rfl) ?_ _
  go_wp2
  go_ret
  exact ⟨rfl, hS⟩
 | false =>
  have hv : R = false := by
   have h9 : (!Ty.scal z2) = false := hq
   rw [hR, h9]; rfl
  rw [hv]
  clear hR hv
  go_enter Tryz.func90, Tryz.ntmps90
  go_wp2
  refine wp_region_L (S := fun V => (w').grownBy V none) (Z := []) (by kernel_rfl) ?_
  have hS := gdrew (World.grownBy.refl (w') none)
  refine Wl.t2 0 3 (.pointer (some ⟨b, 0, none⟩)) (fun w8 hw' => ?_) hS ?_
  ·have hc0 := hw'.cell (h3) (by simp); clear hw'; go_simp
  (try simp only [Act.put, sA, sB, sC])
  refine Wl.t1 1 4 (.pointer (some ⟨b, 0, none⟩)) hS ?_
  (try simp only [Act.put, sA, sB, sC])
  refine Wl.t1 2 5 (.pointer (some ⟨b, 10, none⟩)) hS ?_
  (try simp only [Act.put, sA, sB, sC])
  refine Wl.t2 3 6 (.slice (some ⟨gk, ok, none⟩) (nk + 1 + 1) ck) (fun w8 hw' => ?_) hS ?_
  ·have hc0 := hw'.cell (h4) (by simp); clear hw'; go_simp
  (try simp only [Act.put, sA, sB, sC])
  refine Wl.t2 4 7 (.pointer (some ⟨gk, ok + 2, none⟩)) (fun w8 hw' => ?_) hS ?_
  ·clear hw'; go_simp; intro h9; exfalso; omega
  (try simp only [Act.put, sA, sB, sC])
  refine Wl.t2 5 8 (.agg #[.int .i64 z2.1, .int .i64 z2.2]) (fun w8 hw' => ?_) hS ?_
  ·have hc0 := hw'.cell (z2a) (by simp); have hc1 := hw'.cell (z2b) (by simp); clear hw'; go_simp
  (try simp only [Act.put, sA, sB, sC])
  refine Wl.cg (R := fun v _ => v = .bool false) 6 9 85 #[.agg #[.int .i64 z2.1, .int .i64 z2.2]] hS ((tisArray_any z2.1 z2.2 _).mono (by rintro e w9 ⟨rfl, hg⟩; exact ⟨_, rfl, by rw [hq], hg⟩)) ?_
  rintro v w2 rfl - hS
  (try simp only [Act.put, sA, sB, sC])
  refine Wl.t1 7 10 (.bool false) hS ?_
  (try simp only [Act.put, sA, sB, sC])
  refine Wl.t3 8 11 hS ?_
  (try simp only [Act.put, sA, sB, sC])
  refine Wl.t3 9 12 hS ?_
  (try simp only [Act.put, sA, sB, sC])
  refine Wl.t3 10 13 hS ?_
  (try simp only [Act.put, sA, sB, sC])
  refine Wl.t3 11 14 hS ?_
  (try simp only [Act.put, sA, sB, sC])
  refine Wl.t3 12 15 hS ?_
  (try simp only [Act.put, sA, sB, sC])
  refine Wl.t3 13 16 hS ?_
  (try simp only [Act.put, sA, sB, sC])
  refine Wl.t3 14 17 hS ?_
  (try simp only [Act.put, sA, sB, sC])
  refine Wl.t3 15 18 hS ?_
  (try simp only [Act.put, sA, sB, sC])
  refine Wl.t3 16 19 hS ?_
  (try simp only [Act.put, sA, sB, sC])
  refine Wl.t3 17 20 hS ?_
  (try simp only [Act.put, sA, sB, sC])
  refine Wl.t3 18 21 hS ?_
  (try simp only [Act.put, sA, sB, sC])
  refine Wl.t3 19 22 hS ?_
  (try simp only [Act.put, sA, sB, sC])
  refine Wl.t1 20 23 (.bool false) hS ?_
  (try simp only [Act.put, sA, sB, sC])
  refine Wl.t1 21 2 (.bool false) hS ?_
  (try simp only [Act.put, sA, sB, sC])
  refine wpL_done (by kernel_rfl) ?_ _
  go_wp2
  go_ret
  exact ⟨rfl, hS⟩
namespace Ty
def mst (c code : Int) (bs : List Bool) : Int := if c ≠ 0 then c else if bs.all id then 0 else code
theorem mst_nil (c code : Int) : mst c code [] = c := by
 unfold mst
 by_cases h : c = 0 <;> simp [h]
theorem mst_next (c code : Int) (bs : List Bool) (t : Nat) (q : Bool) (h : bs[t]? = some q) : mst c code (bs.take (t + 1)) = if mst c code (bs.take t) ≠ 0 then mst c code (bs.take t) else if q then 0 else code := by
 unfold mst
 rw [List.take_add_one, h]
 by_cases hc : c = 0
 ·subst hc
  by_cases ha : (bs.take t).all id = true
  ·simp [ha]
  ·have ha' : (bs.take t).all id = false := by simpa using ha
   have hn : ∀ z : Bool, ((bs.take t).all id && z) = false := fun z => by rw [ha']; rfl
   simp only [Option.toList, List.all_append, hn, ha', ne_eq, not_true, if_false]
   by_cases h0 : code = 0 <;> simp [h0]
 ·simp [hc]
end Ty
theorem tmust_any (w : World) (b : Nat) (p : Pv) (c code : Int) (hp : Pt w b p c) (hc0 : code ≠ 0) (g n : Nat) (vs : List Value) (bs : List Bool) (hn : vs.length = n) (hl : bs.length = n) (hm : n ≤ 100) (hg : w.heap[g]? = some (.cells vs.toArray 125 (0, 0))) (hgb : g ≠ b) (hd : c = 0 → ∀ (i : Nat) v q, vs[i]? = some v → bs[i]? = some q → Dem w v q) :
  Calls Tryz.prog 70 #[.pointer (some ⟨b, 0, none⟩), .int .i64 code, .slice (some ⟨g, 0, none⟩) n n] w fun e w' => e = .returned (.tuple #[]) ∧ Pt w' b p (Ty.mst c code bs) ∧ w.grownBy w' (some b) := by
 have HN := ld (And.intro hn hl)
 have HP := ld hp
 have HG := ld hg
 have HD := ld hd
 have HC := ld hc0
 have HGB := ld hgb
 clear hn hl hp hg hd hc0 hgb
 go_enter Tryz.func70, Tryz.ntmps70
 go_wp2
 go_loopw [10] (fun iv wr => ∃ t : Nat, t ≤ n ∧ iv = .int .i64 (t : Int) ∧ Hid (Pt wr b p (Ty.mst c code (bs.take t)) ∧ w.grownBy wr (some b) ∧ (Ty.mst c code (bs.take t) = 0 → w.grownBy wr none))) (fun i _ => n - (intOf i).toNat)
 case atStart => exact ⟨0, Nat.zero_le _, rfl, ld ⟨by rw [List.take_zero, Ty.mst_nil]; exact HP.out, World.grownBy.refl _ _, fun _ => World.grownBy.refl _ _⟩⟩
 case round =>
  obtain ⟨t, htn, rfl, HQ⟩ := hrel
  by_cases hlt : t < n
  ·obtain ⟨v, hv⟩ : ∃ v, vs[t]? = some v := ⟨_, List.getElem?_eq_getElem (by rw [HN.out.1]; exact hlt)⟩
   obtain ⟨q, hq⟩ : ∃ q, bs[t]? = some q := ⟨_, List.getElem?_eq_getElem (by rw [HN.out.2]; exact hlt)⟩
   have hnx := Ty.mst_next c code bs t q hq
   obtain ⟨z, hz⟩ : ∃ z, z = Ty.mst c code (bs.take t) := ⟨_, rfl⟩
   obtain ⟨q1, q2, q3⟩ := HQ.out
   rw [← hz] at hnx q1 q3
   have v0 : wr.cell? ⟨g, t, none⟩ = some v := by
    rw [cell_of_row wr g t _ _ _ ((q2.block g (gl HG.out) (by simp; exact HGB.out)).trans HG.out)]
    simp [hv]
   have p11 := q1.c11
   have f11 := frozen_of_row wr b 11 _ _ q1
   have HV := ld (And.intro hv hq)
   have HZ := ld hz
   have HNX := ld hnx
   clear HQ hv hq hz hnx
   by_cases h0 : z = 0
   ·have hc : c = 0 := by
     have e := HZ.out
     unfold Ty.mst at e
     by_cases hc : c = 0
     ·exact hc
     ·rw [if_pos hc] at e; omega
    obtain ⟨F, caps, rfl, hen, hdo⟩ := HD.out hc t v q HV.out.1 HV.out.2
    have hcl := hdo wr (q3 h0)
    have HQ := ld (And.intro q1 (And.intro q2 (q3 h0)))
    have hb0 : (z == 0) = true := by simp [h0]
    have H0 := ld h0
    clear hdo hc h0 q1 q2 q3
    cases q with
    | true =>
     have hnx := HNX.out
     rw [if_neg (by simp [H0.out]), if_pos rfl] at hnx
     have HNY := ld hnx
     clear hnx
     go_wp2
     refine hcl.mono ?_
     rintro e w2 ⟨rfl, hg2⟩
     go_wp2
     have e0 := H0.out
     exact ⟨⟨t + 1, by omega, by go_num, ld ⟨by rw [HNY.out]; rw [e0] at HQ; exact HQ.out.1.kept hg2, HQ.out.2.1.trans (grown_some hg2 b), fun _ => HQ.out.2.2.trans hg2⟩⟩, by simp [intOf]; omega⟩
    | false =>
     have hnx := HNX.out
     rw [if_neg (by simp [H0.out]), if_neg (by simp)] at hnx
     have HNY := ld hnx
     clear hnx
     go_wp2
     refine hcl.mono ?_
     rintro e w2 ⟨rfl, hg2⟩
     have hp2 := HQ.out.1.kept hg2
     have g11 := frozen_of_row w2 b 11 _ _ hp2
     have r11 := hp2.c11
     have HP2 := ld hp2
     have HG2 := ld hg2
     clear hp2 hg2
     go_wp2
     refine ⟨⟨t + 1, by omega, by go_num, ld ⟨?_, (HQ.out.2.1.trans (grown_some HG2.out b)).trans (grown_set w2 ⟨b, 11, none⟩ _), fun e => absurd (HNY.out.symm.trans e) HC.out⟩⟩, by simp [intOf]; omega⟩
     rw [HNY.out]
     have h9 := HP2.out
     unfold Pt Pv.cells at h9 ⊢
     simp [World.setCell, Array.getElem?_modify, h9]
   ·have hb0 : (z == 0) = false := by simp [h0]
    have hnx := HNX.out
    rw [if_pos h0] at hnx
    have HNY := ld hnx
    have HQ := ld (And.intro q1 (And.intro q2 h0))
    clear hnx q1 q2 q3 h0
    go_wp2
    exact ⟨⟨t + 1, by omega, by go_num, ld ⟨by rw [HNY.out]; exact HQ.out.1, HQ.out.2.1, fun e => absurd (HNY.out.symm.trans e) HQ.out.2.2⟩⟩, by simp [intOf]; omega⟩
  ·have e : t = n := by omega
   subst e
   go_wp2
   go_end0
   have h9 := HQ.out.1
   rw [List.take_of_length_le (by rw [HN.out.2]; exact Nat.le_refl _)] at h9
   exact ⟨rfl, h9, HQ.out.2.1⟩
def tyR (xs : List Ty.T) : List Value := (xs.map fun t => [Value.int .i64 t.1, Value.int .i64 t.2]).flatten
theorem tyR_len : ∀ xs : List Ty.T, (tyR xs).length = xs.length * 2
 | [] => rfl
 | x :: r => by have := tyR_len r; simp [tyR] at this ⊢; omega
theorem tyR_at : ∀ (xs : List Ty.T) (t : Nat) (x : Ty.T), xs[t]? = some x → (tyR xs)[t * 2]? = some (.int .i64 x.1) ∧ (tyR xs)[t * 2 + 1]? = some (.int .i64 x.2)
 | [], t, x, h => by simp at h
 | y :: r, 0, x, h => by simp at h; subst h; exact ⟨rfl, rfl⟩
 | y :: r, t + 1, x, h => by
  have := tyR_at r t x (by simpa using h)
  rw [show (t + 1) * 2 = t * 2 + 1 + 1 by omega]
  exact this
theorem tyR_snoc (xs : List Ty.T) (k l : Int) : tyR (xs ++ [(k, l)]) = tyR xs ++ [.int .i64 k, .int .i64 l] := by simp [tyR]
theorem rowFormT {w : World} {B n : Nat} {e : TypeId} {sz : Nat} {v : Value} {xs : List Value} (h : w.ownsRow B e sz v n xs) : ∃ a c, v = .slice a n c := by
 rcases h.2 with ⟨rfl, rfl⟩ | ⟨g, cap, cur, rfl, _⟩
 ·exact ⟨_, _, rfl⟩
 ·exact ⟨_, _, rfl⟩
theorem TyL.own {w : World} {B n : Nat} {xs : List Ty.T} {a : Option Addr} {c : Nat} (h : w.ownsRow B 57 2 (.slice a n c) n (tyR xs)) : TyL w a xs := fun t x hx => by
 obtain ⟨h1, h2⟩ := tyR_at xs t x hx
 have hl : t < xs.length := (List.getElem?_eq_some_iff.1 hx).1
 have hn : n = xs.length := by have := h.1; rw [tyR_len] at this; omega
 rcases h.2 with ⟨h0, h00⟩ | ⟨g, cap, cur, h0, hr⟩
 ·omega
 ·cases h0
  refine ⟨g, 0, rfl, ?_, ?_⟩
  ·rw [Nat.zero_add, ← h1]
   exact h.cellAt _ (by rw [← h.1, tyR_len]; omega)
  ·rw [Nat.zero_add, ← h2]
   exact h.cellAt _ (by rw [← h.1, tyR_len]; omega)
theorem grown_own {w w' : World} (h : w.grownBy w' none) (r : Option Nat) : w.grownBy w' r := ⟨h.os, h.tape, h.output, h.size, fun k hk _ => h.block k hk (by simp)⟩
theorem info_T : (Tryz.prog.info? 57).map (fun i => (i.zero, i.size, i.bytes)) = some (some (.agg #[.int .i64 0, .int .i64 0]), 2, 16) := by kernel_rfl
theorem growT (V : World) (ty : TypeId) (B : Nat) (v : Value) (n : Nat) (xs : List Ty.T) (k l : Int) (h : V.ownsRow B 57 2 v n (tyR xs)) (hB : B ≤ V.heap.size) (hm : n + 1 ≤ 1000000) :
  ∃ a' c' w', (Builtin.append_ #[117, 117] ty #[v, .slice (some ⟨V.heap.size, 0, none⟩) 1 1]).run Tryz.prog (V.alloc (.cells #[.int .i64 k, .int .i64 l] 57)) = .ok (.slice a' (n + 1) c') w' ∧ w'.ownsRow B 57 2 (.slice a' (n + 1) c') (n + 1) (tyR (xs ++ [(k, l)])) ∧ V.grownBy w' v.ownBlock := by
 obtain ⟨it, hit, hz, hsz, hby⟩ := infoP info_T
 have hm2 : n + 1 ≤ maxLen := by unfold maxLen; omega
 obtain ⟨v', w', q1, q2, q3, _⟩ := run_append_own (P := Tryz.prog) (V.alloc (.cells #[.int .i64 k, .int .i64 l] 57)) B 117 ty 57 it _ 2 16 Tryz.underlying117 hit hz hsz hby rfl (by decide) v n (tyR xs) (h.alloc _) ⟨V.heap.size, 0, none⟩ 1 1 [.int .i64 k, .int .i64 l] rfl (cell_row_new V [.int .i64 k, .int .i64 l] 57) (by simp [Value.oneCell']) hm2 (by omega) (by simp; omega)
 obtain ⟨a', c', rfl⟩ := rowFormT q2
 exact ⟨a', c', w', q1, by rw [tyR_snoc]; exact q2, (grown_own (ga V _ none) v.ownBlock).trans q3⟩
theorem wpList_ap {P : Program} {ops : Array Oper} {rest : List Oper} {o : Oper} {a : Act} {w : World} {Q : Exit → Act → World → Prop} {t : TypeId} {v v2 v' : Value} {w' : World} (hr : (Builtin.append_ #[t, t] o.type #[v, v2]).run P w = .ok v' w') (s x : Operand) (hgd : o.guard = none)
  (ho : o.op = .call { callee := .builtin .append, args := #[s, x], argTypes := #[t, t] }) (hs : a.eval s = v) (hx : a.eval x = v2) (h : wpList P ops Q rest (a.put o.dst v') w') : wpList P ops Q (o :: rest) a w := by
 refine wpList_plain hgd fun K hK => ?_
 unfold Oper.wp execOp
 simp only [ho, resolve, invoke, builtin, Sem.run_bind, Sem.run_pure, Result.andThen_ok, List.map_toArray, List.map_cons, List.map_nil, hs, hx, hr]
 exact hK _ _ h
theorem varsLen {w : World} {B : Nat} {E : List Nat} {L cap : Nat} {a : Option Addr} {l : List Gram.Var} (h : RepC w B E (.l 60 5 (l.map varD)) (.slice a L cap)) : L = l.length ∧ L ≤ maxLen := by
 have := nLen h
 rwa [List.length_map] at this
theorem ttypesOf_any (w0 w : World) (hb : w0.grownBy w none) (vs : List Gram.Var) (a : Option Addr) (n c : Nat) (h : RepC w0 0 [] (.l 60 5 (vs.map varD)) (.slice a n c)) (hm : n ≤ 100000) :
  Calls Tryz.prog 84 #[.slice a n c] w fun e w' => ∃ a' c', e = .returned (.slice a' n c') ∧ w'.ownsRow w.heap.size 57 2 (.slice a' n c') n (tyR (vs.map Ty.vT)) ∧ w.grownBy w' none := by
 obtain ⟨hL, hLm⟩ := varsLen h
 have HN := ld hL
 have HH := ld h
 have HB := ld hb
 clear hL hLm h hb
 go_enter Tryz.func84, Tryz.ntmps84
 go_wp2
 go_loopw [3, 8] (fun lv iv wr => ∃ (t : Nat) (a' : Option Addr) (c' : Nat), t ≤ n ∧ iv = .int .i64 (t : Int) ∧ lv = .slice a' t c' ∧ Hid (wr.ownsRow w.heap.size 57 2 (.slice a' t c') t (tyR ((vs.take t).map Ty.vT)) ∧ w.grownBy wr none)) (fun _ i _ => n - (intOf i).toNat)
 case atStart => exact ⟨0, none, 0, Nat.zero_le _, rfl, rfl, ld ⟨World.ownsRow_nil _ _ _ _, World.grownBy.refl _ _⟩⟩
 case round =>
  obtain ⟨t, a', c', htn, rfl, rfl, HQ⟩ := hrel
  by_cases hlt : t < n
  ·obtain ⟨v, hv⟩ : ∃ v, vs[t]? = some v := ⟨_, List.getElem?_eq_getElem (by rw [← HN.out]; exact hlt)⟩
   obtain ⟨g, ea, en, ec, rfl, u0, u1, u2, u3, u4, hed⟩ := varAt HH.out hv
   have hg := HB.out.trans HQ.out.2
   have v0 := hg.cell u0 (by simp)
   have v1 := hg.cell u1 (by simp)
   have v2 := hg.cell u2 (by simp)
   have v3 := hg.cell u3 (by simp)
   have v4 := hg.cell u4 (by simp)
   have hga := ga wr (.cells #[.string ⟨v.name.toArray⟩, .int .i64 v.tk, .int .i64 v.tl, .slice ea en ec, .int .i64 v.at_] 60 (0, 0)) none
   obtain ⟨a2, c2, w2, r2, o2, g2⟩ := growT (wr.alloc (.cells #[.string ⟨v.name.toArray⟩, .int .i64 v.tk, .int .i64 v.tl, .slice ea en ec, .int .i64 v.at_] 60)) 117 w.heap.size (.slice a' t c') t ((vs.take t).map Ty.vT) v.tk v.tl (HQ.out.1.alloc _) (by have := HQ.out.2.size; simp; omega) (by omega)
   have hlt2 := HQ.out.1.lt
   have HF : Hid (w2.ownsRow w.heap.size 57 2 (.slice a2 (t + 1) c2) (t + 1) (tyR ((vs.take (t + 1)).map Ty.vT)) ∧ w.grownBy w2 none) := ld ⟨by rw [List.take_add_one, hv, List.map_append]; exact o2, (HQ.out.2.trans hga).andThen g2 (fun j e => .inl (hlt2 j e).1)⟩
   rw [World.size_alloc] at r2
   generalize v.name = vn at *
   generalize v.tk = vk at *
   generalize v.tl = vl at *
   generalize v.at_ = va at *
   have HR2 := ld r2
   clear hlt2 o2 g2 hga hg hv hed u0 u1 u2 u3 u4 HQ r2
   go_wp2_with (at_builtin; refine wpList_ap HR2.out _ _ rfl rfl rfl rfl ?_)
   exact ⟨⟨t + 1, a2, c2, by omega, by go_num, rfl, HF⟩, by simp [intOf]; omega⟩
  ·have e : t = n := by omega
   subst e
   go_wp2
   go_ret
   have h9 := HQ.out.1
   rw [List.take_of_length_le (by rw [← HN.out]; exact Nat.le_refl _)] at h9
   exact ⟨a', c', rfl, h9, HQ.out.2⟩
theorem tarraysOf_any (w : World) (xs : List Ty.T) (z : Int) (a : Option Addr) (n c : Nat) (hn : n = xs.length) (h : TyL w a xs) (hm : n ≤ 100000) :
  Calls Tryz.prog 88 #[.slice a n c, .int .i64 z] w fun e w' => ∃ a' c', e = .returned (.slice a' n c') ∧ w'.ownsRow w.heap.size 57 2 (.slice a' n c') n (tyR (xs.map fun t => (t.1, z))) ∧ w.grownBy w' none := by
 have HN := ld hn
 have HH := ld h
 clear hn h
 go_enter Tryz.func88, Tryz.ntmps88
 go_wp2
 go_loopw [5, 10] (fun lv iv wr => ∃ (t : Nat) (a' : Option Addr) (c' : Nat), t ≤ n ∧ iv = .int .i64 (t : Int) ∧ lv = .slice a' t c' ∧ Hid (wr.ownsRow w.heap.size 57 2 (.slice a' t c') t (tyR ((xs.take t).map fun t => (t.1, z))) ∧ w.grownBy wr none)) (fun _ i _ => n - (intOf i).toNat)
 case atStart => exact ⟨0, none, 0, Nat.zero_le _, rfl, rfl, ld ⟨World.ownsRow_nil _ _ _ _, World.grownBy.refl _ _⟩⟩
 case round =>
  obtain ⟨t, a', c', htn, rfl, rfl, HQ⟩ := hrel
  by_cases hlt : t < n
  ·obtain ⟨v, hv⟩ : ∃ v, xs[t]? = some v := ⟨_, List.getElem?_eq_getElem (by rw [← HN.out]; exact hlt)⟩
   obtain ⟨g, off, rfl, u0, u1⟩ := HH.out t v hv
   have v0 := HQ.out.2.cell u0 (by simp)
   have v1 := HQ.out.2.cell u1 (by simp)
   have hga := ga wr (.cells #[.int .i64 v.1, .int .i64 v.2] 57 (0, 0)) none
   obtain ⟨a2, c2, w2, r2, o2, g2⟩ := growT (wr.alloc (.cells #[.int .i64 v.1, .int .i64 v.2] 57)) 117 w.heap.size (.slice a' t c') t ((xs.take t).map fun t => (t.1, z)) v.1 z (HQ.out.1.alloc _) (by have := HQ.out.2.size; simp; omega) (by omega)
   have hlt2 := HQ.out.1.lt
   have HF : Hid (w2.ownsRow w.heap.size 57 2 (.slice a2 (t + 1) c2) (t + 1) (tyR ((xs.take (t + 1)).map fun t => (t.1, z))) ∧ w.grownBy w2 none) := ld ⟨by rw [List.take_add_one, hv, List.map_append]; exact o2, (HQ.out.2.trans hga).andThen g2 (fun j e => .inl (hlt2 j e).1)⟩
   rw [World.size_alloc] at r2
   generalize v.1 = vk at *
   generalize v.2 = vl at *
   have HR2 := ld r2
   clear hlt2 o2 g2 hga hv u0 u1 HQ r2
   go_wp2_with (at_builtin; refine wpList_ap HR2.out _ _ rfl rfl rfl rfl ?_)
   exact ⟨⟨t + 1, a2, c2, by omega, by go_num, rfl, HF⟩, by simp [intOf]; omega⟩
  ·have e : t = n := by omega
   subst e
   go_wp2
   go_ret
   have h9 := HQ.out.1
   rw [List.take_of_length_le (by rw [← HN.out]; exact Nat.le_refl _)] at h9
   exact ⟨a', c', rfl, h9, HQ.out.2⟩
theorem sLaw : Keyed Tryz.prog 9 := string_keyed Tryz.underlying9
theorem sKey (s : List UInt8) (h : Nam.short s = true) : keyOf Tryz.prog 9 (.string ⟨s.toArray⟩) = some (.string s) := by
 have h1 : (⟨s.toArray⟩ : ByteArray).size ≤ maxLen := by
  have : (⟨s.toArray⟩ : ByteArray).size = s.length := by simp [ByteArray.size]
  rw [this]
  have h2 : s.length ≤ 100000 := by simpa [Nam.short] using h
  unfold maxLen; omega
 exact keyOf_string_mk Tryz.underlying9 h1
theorem isKeyS (s : List UInt8) : WideAt.IsKeyLit (.string s) := by first | exact trivial | simp [WideAt.IsKeyLit]
def heldE (v : Value) : Option (DataW Value × List MemPlace) := some (.held v, [])
def HMap (w : World) (b n : Nat) (L : List (List UInt8 × Value)) : Prop :=
 ∃ D : DataW Value, w.ownsMap Tryz.prog 9 heldE b n D ∧ ∀ s, Maps.has D (.string s) = (Ty.look L s).isSome ∧ ∀ z, D.atKey (.string s) z = match Ty.look L s with | some v => .held v | none => z
section
variable {w w' : World} {b n : Nat} {L : List (List UInt8 × Value)}
theorem HMap.lt (h : HMap w b n L) : b < w.heap.size := by
 obtain ⟨D, h1, _⟩ := h
 exact h1.lt
theorem HMap.kept {r : Option Nat} (h : HMap w b n L) (hg : w.grownBy w' r) (hr : some b ≠ r) : HMap w' b n L := by
 obtain ⟨D, h1, h2⟩ := h
 exact ⟨D, h1.kept hg hr, h2⟩
theorem HMap.new (w : World) : HMap (w.alloc (.map #[] 0)) w.heap.size 0 [] := ⟨_, World.ownsMap_made w _ _ _, fun s => ⟨by simp [Maps.has_eq, Ty.look], fun z => by simp [Ty.look, DataW.atKey]⟩⟩
theorem HMap.put {t e : TypeId} (h : HMap w b n L) (ht : Tryz.prog.underlying t = some (.map 9 e)) (hn : n < maxLen) (s : List UInt8) (hs : Nam.short s = true) (v : Value) :
  ∃ w', (Instr.mapUpdate t (.map (some b)) (.string ⟨s.toArray⟩) v).run Tryz.prog w = .ok () w' ∧ HMap w' b (n + 1) ((s, v) :: L) ∧ w.grownBy w' (some b) := by
 obtain ⟨D, h1, h2⟩ := h
 obtain ⟨w', r, m, t5⟩ := h1.store sLaw ht hn (sKey s hs) (show heldE v = some (.held v, []) from rfl)
 refine ⟨w', r, ⟨_, m, fun y => ?_⟩, t5.grown⟩
 by_cases e : y = s
 ·subst e
  refine ⟨by rw [Maps.has_put_same h1.isMap (isKeyS y)]; simp [Ty.look], fun z => ?_⟩
  rw [Maps.atKey_put_same h1.isMap (isKeyS y)]
  simp [Ty.look]
 ·have ne : (Lit.string y) ≠ Lit.string s := fun e2 => e (by injection e2)
  have e3 : Ty.look ((s, v) :: L) y = Ty.look L y := by simp [Ty.look, Ne.symm e]
  refine ⟨by rw [Maps.has_put_other ne, e3]; exact (h2 y).1, fun z => ?_⟩
  rw [Maps.atKey_put_other ne, e3]
  exact (h2 y).2 z
theorem look_filter : ∀ (L : List (List UInt8 × Value)) (s y : List UInt8), Ty.look (L.filter fun x => x.1 != s) y = if y = s then none else Ty.look L y
 | [], s, y => by simp [Ty.look]
 | x :: r, s, y => by
  have ih := look_filter r s y
  by_cases e : x.1 = s
  ·rw [List.filter_cons_of_neg (by simp [e]), ih]
   by_cases ey : y = s
   ·simp [ey]
   ·rw [if_neg ey, if_neg ey]
    simp [Ty.look, e, Ne.symm ey]
  ·rw [List.filter_cons_of_pos (by simp [e])]
   by_cases ey : y = s
   ·rw [if_pos ey] at ih ⊢
    subst ey
    simp [Ty.look, e, ih]
   ·rw [if_neg ey] at ih ⊢
    simp only [Ty.look, ih]
theorem HMap.del {t e : TypeId} (h : HMap w b n L) (ht : Tryz.prog.underlying t = some (.map 9 e)) (s : List UInt8) (hs : Nam.short s = true) (ty : TypeId) :
  ∃ w', (Builtin.delete_ #[t, 9] ty #[.map (some b), .string ⟨s.toArray⟩]).run Tryz.prog w = .ok (.tuple #[]) w' ∧ HMap w' b n (L.filter fun x => x.1 != s) ∧ w.grownBy w' (some b) := by
 obtain ⟨D, h1, h2⟩ := h
 obtain ⟨w', r, m, t5⟩ := h1.drop sLaw ht (sKey s hs) ty
 refine ⟨w', r, ⟨_, m, fun y => ?_⟩, t5.grown⟩
 rw [look_filter]
 by_cases e : y = s
 ·subst e
  exact ⟨by rw [Maps.has_del_same]; simp, fun z => by rw [Maps.atKey_del_same]; simp⟩
 ·have ne : (Lit.string y) ≠ Lit.string s := fun e2 => e (by injection e2)
  rw [if_neg e]
  exact ⟨by rw [Maps.has_del_other ne]; exact (h2 y).1, fun z => by rw [Maps.atKey_del_other ne]; exact (h2 y).2 z⟩
theorem heldE_inv {v u : Value} {ps : List MemPlace} (h : heldE v = some (.held u, ps)) : v = u := by
 unfold heldE at h
 cases h
 rfl
theorem HMap.look {t e : TypeId} (h : HMap w b n L) (ht : Tryz.prog.underlying t = some (.map 9 e)) {z : Value} (hz : (zeroValue e).run Tryz.prog w = .ok z w) (s : List UInt8) (hs : Nam.short s = true) :
  (Instr.lookup t (.map (some b)) (.string ⟨s.toArray⟩) false).run Tryz.prog w = .ok ((Ty.look L s).getD z) w := by
 obtain ⟨D, h1, h2⟩ := h
 obtain ⟨v, ps, hr, hv⟩ := h1.lookup sLaw ht hz (show heldE z = some (.held z, []) from rfl) (sKey s hs)
 rw [(h2 s).2] at hv
 cases hl : Ty.look L s with
 | none => rw [hl] at hv; rw [heldE_inv hv] at hr; exact hr
 | some u => rw [hl] at hv; rw [heldE_inv hv] at hr; exact hr
theorem HMap.lookOk {t e : TypeId} (h : HMap w b n L) (ht : Tryz.prog.underlying t = some (.map 9 e)) {z : Value} (hz : (zeroValue e).run Tryz.prog w = .ok z w) (s : List UInt8) (hs : Nam.short s = true) :
  (Instr.lookup t (.map (some b)) (.string ⟨s.toArray⟩) true).run Tryz.prog w = .ok (.tuple #[(Ty.look L s).getD z, .bool (Ty.look L s).isSome]) w := by
 obtain ⟨D, h1, h2⟩ := h
 obtain ⟨v, ps, hr, hv⟩ := h1.look_ok sLaw ht hz (show heldE z = some (.held z, []) from rfl) (sKey s hs)
 rw [(h2 s).2] at hv
 rw [(h2 s).1] at hr
 cases hl : Ty.look L s with
 | none => rw [hl] at hv hr; rw [heldE_inv hv] at hr; exact hr
 | some u => rw [hl] at hv hr; rw [heldE_inv hv] at hr; exact hr
end
theorem look_map {α β : Type} (f : α → β) : ∀ (L : List (List UInt8 × α)) (s : List UInt8), Ty.look (L.map fun x => (x.1, f x.2)) s = (Ty.look L s).map f
 | [], s => rfl
 | x :: r, s => by
  simp only [List.map_cons, Ty.look]
  by_cases e : (x.1 == s) = true
  ·rw [if_pos e, if_pos e]; rfl
  ·rw [if_neg e, if_neg e]; exact look_map f r s
theorem zeroT (w : World) : (zeroValue 57).run Tryz.prog w = .ok (.agg #[.int .i64 0, .int .i64 0]) w := by kernel_rfl
def nv0 : Nv := ⟨[], none, 0, 0, none, 0, 0, none, 0, 0, none, 0, 0, 0⟩
theorem zeroN (w : World) : (zeroValue 44).run Tryz.prog w = .ok (.agg nv0.cells) w := by kernel_rfl
structure Aa where
 c : Nat
 rb : Nat
 nb : Nat
 vb : Nat
structure NodeV (w0 : World) (d : Gram.Node) (v : Nv) : Prop where
 ins : RepC w0 0 [] (.l 60 5 (d.ins.map varD)) (.slice v.ua v.un v.uc)
 outs : RepC w0 0 [] (.l 60 5 (d.outs.map varD)) (.slice v.ta v.tn v.tc)
 wi : ∀ x ∈ d.ins.map Ty.vT, wfT x
 wo : ∀ x ∈ d.outs.map Ty.vT, wfT x
 bi : d.ins.length ≤ 10000
 bo : d.outs.length ≤ 10000
def ruleRow (least most : Int) (F : Nat) : List Value := [.int .i64 least, .int .i64 most, .func (.func F) #[] #[]]
def many : Int := 9223372036854775807
def rulesT : List Value := ruleRow 0 0 41 ++ ruleRow 0 0 42 ++ ruleRow 0 0 43 ++ ruleRow 1 1 44 ++ ruleRow 2 2 45 ++ ruleRow 3 3 46 ++ ruleRow 1 1 47 ++ ruleRow 2 2 47 ++ ruleRow 2 2 47 ++ ruleRow 1 1 48 ++ ruleRow 2 2 48 ++ ruleRow 1 1 49 ++ ruleRow 0 0 50 ++ ruleRow 0 many 51 ++ ruleRow 1 many 52 ++ ruleRow 1 many 53 ++ ruleRow 1 1 54 ++ ruleRow 1 1 55 ++ ruleRow 1 many 56 ++ ruleRow 2 2 57
structure Ak (w0 w : World) (A : Aa) (N : List (List UInt8 × (Gram.Node × Nv))) (V : List (List UInt8 × Ty.T)) (cnt : Nat) : Prop where
 base : w0.grownBy w none
 lo : w0.heap.size ≤ A.c ∧ w0.heap.size ≤ A.rb ∧ w0.heap.size ≤ A.nb ∧ w0.heap.size ≤ A.vb
 ne : A.vb ∉ [A.c, A.rb, A.nb]
 cc : w.heap[A.c]? = some (.cells #[.slice (some ⟨A.rb, 0, none⟩) 20 20, .map (some A.nb), .map (some A.vb)] 69 (0, 0))
 rr : w.heap[A.rb]? = some (.cells rulesT.toArray 101 (0, 0))
 nn : ∃ n, HMap w A.nb n (N.map fun x => (x.1, Value.agg x.2.2.cells))
 vv : HMap w A.vb cnt (V.map fun x => (x.1, tyv x.2))
 hN : ∀ x ∈ N, NodeV w0 x.2.1 x.2.2
 hV : ∀ x ∈ V, wfT x.2
section
variable {w0 w w' : World} {A : Aa} {N : List (List UInt8 × (Gram.Node × Nv))} {V : List (List UInt8 × Ty.T)} {cnt : Nat}
theorem Ak.lt (h : Ak w0 w A N V cnt) : A.c < w.heap.size ∧ A.rb < w.heap.size ∧ A.nb < w.heap.size ∧ A.vb < w.heap.size := by
 obtain ⟨n, hn⟩ := h.nn
 exact ⟨gl h.cc, gl h.rr, hn.lt, h.vv.lt⟩
theorem Ak.keptB {r : Option Nat} (h : Ak w0 w A N V cnt) (hg : w.grownBy w' r) (hr : ∀ k, r = some k → w0.heap.size ≤ k ∧ k ∉ [A.c, A.rb, A.nb, A.vb]) : Ak w0 w' A N V cnt := by
 have hx : ∀ k, k ∈ [A.c, A.rb, A.nb, A.vb] → some k ≠ r := fun k hk e => (hr k e.symm).2 hk
 obtain ⟨n, hn⟩ := h.nn
 exact ⟨h.base.andThen hg (fun j e => .inl (hr j e).1), h.lo, h.ne, (hg.block _ (gl h.cc) (hx _ (by simp))).trans h.cc, (hg.block _ (gl h.rr) (hx _ (by simp))).trans h.rr, ⟨n, hn.kept hg (hx _ (by simp))⟩, h.vv.kept hg (hx _ (by simp)), h.hN, h.hV⟩
theorem Ak.kept (h : Ak w0 w A N V cnt) (hg : w.grownBy w' none) : Ak w0 w' A N V cnt := h.keptB hg (fun k e => by cases e)
theorem Ak.varOk (h : Ak w0 w A N V cnt) (s : List UInt8) (hs : Nam.short s = true) : (Instr.lookup 67 (.map (some A.vb)) (.string ⟨s.toArray⟩) true).run Tryz.prog w = .ok (.tuple #[tyv ((Ty.look V s).getD (0, 0)), .bool (Ty.look V s).isSome]) w := by
 have := h.vv.lookOk Tryz.underlying67 (zeroT w) s hs
 rw [look_map] at this
 rw [this]
 cases Ty.look V s <;> rfl
theorem Ak.var (h : Ak w0 w A N V cnt) (s : List UInt8) (hs : Nam.short s = true) : (Instr.lookup 67 (.map (some A.vb)) (.string ⟨s.toArray⟩) false).run Tryz.prog w = .ok (tyv ((Ty.look V s).getD (0, 0))) w := by
 have := h.vv.look Tryz.underlying67 (zeroT w) s hs
 rw [look_map] at this
 rw [this]
 cases Ty.look V s <;> rfl
theorem look_mem {α : Type} : ∀ (L : List (List UInt8 × α)) (s : List UInt8) (v : α), Ty.look L s = some v → ∃ x ∈ L, x.2 = v
 | [], s, v, h => by simp [Ty.look] at h
 | x :: r, s, v, h => by
  simp only [Ty.look] at h
  by_cases e : (x.1 == s) = true
  ·rw [if_pos e] at h; cases h; exact ⟨x, by simp, rfl⟩
  ·rw [if_neg e] at h
   obtain ⟨y, hy, e2⟩ := look_mem r s v h
   exact ⟨y, by simp [hy], e2⟩
theorem Ak.wf (h : Ak w0 w A N V cnt) (s : List UInt8) : wfT ((Ty.look V s).getD (0, 0)) := by
 cases hl : Ty.look V s with
 | none => exact ⟨by decide, by decide, by decide⟩
 | some t => obtain ⟨x, hx, rfl⟩ := look_mem V s t hl; exact h.hV x hx
def nodeOf (N : List (List UInt8 × (Gram.Node × Nv))) (s : List UInt8) : Gram.Node × Nv := (Ty.look N s).getD (⟨[], [], [], [], [], 0⟩, nv0)
theorem Ak.node (h : Ak w0 w A N V cnt) (s : List UInt8) (hs : Nam.short s = true) : (Instr.lookup 66 (.map (some A.nb)) (.string ⟨s.toArray⟩) true).run Tryz.prog w = .ok (.tuple #[.agg (nodeOf N s).2.cells, .bool (Ty.look N s).isSome]) w ∧ NodeV w0 (nodeOf N s).1 (nodeOf N s).2 := by
 obtain ⟨n, hn⟩ := h.nn
 have := hn.lookOk Tryz.underlying66 (zeroN w) s hs
 rw [look_map (fun y : Gram.Node × Nv => Value.agg y.2.cells)] at this
 refine ⟨?_, ?_⟩
 ·rw [this]
  unfold nodeOf
  cases Ty.look N s <;> rfl
 ·unfold nodeOf
  cases hl : Ty.look N s with
  | none => exact ⟨RepC.nil _ _ _ _ _, RepC.nil _ _ _ _ _, by simp, by simp, by simp, by simp⟩
  | some t => obtain ⟨x, hx, rfl⟩ := look_mem N s t hl; exact h.hN x hx
end
end Go.Proofs.YtbbamgjdnibldaaGreat
namespace Go.Proofs.YtbbamgjdnibldaaGreat.Wl
open Go.RowKit Go.Maps Go.WideMaps
section
variable {P : Program} {ops : Array Oper} {Q : Exit → Act → World → Prop} {md : Region.Mode} {Z : List Nat}
theorem wpOp_skip {i : Nat} {oi : Oper} {a : Act} {w w' : World} {K : Act → World → Prop} (hi : ops[i]? = some oi) (hdst : oi.dst = none) (hw : Region.wanted oi (yielded ops a.tmps) = true) (hrun : (execOp a.eval oi).run P w = .ok .skip w') (h : K a w') : wpOp P ops Q i K a w := by
 refine wpOp_now hi hw (fun K' hK => ?_)
 unfold Oper.wp
 rw [hrun, Oper.upon_skip]
 refine hK _ _ ?_
 rw [hdst]
 exact h
theorem sk {S : World → Prop} (i : Nat) (w' : World) {oi : Oper} {f : Nat} {l : Array Bool} {a : Act} {w : World} (hrun : (execOp a.eval oi).run P w = .ok .skip w') (hS : S w') (h : wpL P md ops Q S Z f (l.setIfInBounds i true) a w') (hi : ops[i]? = some oi := by exact rfl)
  (hx : (Region.ready md ops l == [i] && oi.dst == none && Region.wanted oi (yielded ops a.tmps)) = true := by kernel_rfl) : wpL P md ops Q S Z (f + 1) l a w := by
 simp only [Bool.and_eq_true] at hx
 obtain ⟨⟨h1, h2⟩, h3⟩ := hx
 exact wpL_one (eq_of_beq h1) (wpOp_skip hi (eq_of_beq h2) h3 hrun ⟨fun _ => hS, h⟩)
theorem mid {S : World → Prop} {f n : Nat} {l : Array Bool} {a : Act} {w : World} (T : World → Nat → Prop) (l' : Array Bool) (a' : Nat → Act) (ht : ∀ V g, T V g → wpL P md ops Q S Z f l' (a' g) V) (h : (∀ V g, T V g → wpL P md ops Q S Z f l' (a' g) V) → wpL P md ops Q S Z (f + n) l a w) : wpL P md ops Q S Z (f + n) l a w := h ht
theorem mem_of_all {l : List Nat} {p : Nat → Bool} (h : l.all p = true) {q : Nat} (hq : q ∈ l) : p q = true := List.all_eq_true.1 h q hq
theorem heap_put {w w' : World} {g : Nat} {o : Obj} {r : Option Nat} (h : w.heap[g]? = some o) (hg : w.grownBy w' r) (hr : some g ≠ r) : w'.heap[g]? = some o := (hg.block g (Array.getElem?_eq_some_iff.1 h).1 hr).trans h
theorem as2 {S : World → Prop} (Fr : Value → Value → Act) (Lf : Bool → Bool → Bool → Bool → Array Bool) (k1 d1 m1 k2 d2 m2 : Nat) (z1 c1 z2 c2 : Obj) {ok1 om1 ok2 om2 : Oper} {f : Nat} {w : World} (hS : S w)
  (p1 : ∀ h V, (execOp (Fr undef h).eval ok1).run P V = .ok (.value (.pointer (some ⟨V.heap.size, 0, none⟩))) (V.alloc z1)) (p2 : ∀ g V, (execOp (Fr g undef).eval ok2).run P V = .ok (.value (.pointer (some ⟨V.heap.size, 0, none⟩))) (V.alloc z2))
  (s1 : ∀ g h V, V.heap[g]? = some z1 → ∃ V', (execOp (Fr (.pointer (some ⟨g, 0, none⟩)) h).eval om1).run P V = .ok .skip V' ∧ V'.heap[g]? = some c1 ∧ V.grownBy V' (some g)) (s2 : ∀ g h V, V.heap[h]? = some z2 → ∃ V', (execOp (Fr g (.pointer (some ⟨h, 0, none⟩))).eval om2).run P V = .ok .skip V' ∧ V'.heap[h]? = some c2 ∧ V.grownBy V' (some h))
  (f2 : ∀ g h v, (Fr g h).put (some d1) v = Fr v h) (f4 : ∀ g h v, (Fr g h).put (some d2) v = Fr g v)
  (t2 : ∀ a b c d, (Lf a b c d).setIfInBounds k1 true = Lf true b c d) (t3 : ∀ a b c d, (Lf a b c d).setIfInBounds m1 true = Lf a true c d) (t5 : ∀ a b c d, (Lf a b c d).setIfInBounds k2 true = Lf a b true d) (t6 : ∀ a b c d, (Lf a b c d).setIfInBounds m2 true = Lf a b c true)
  (h : ∀ g1 g2 V, V.heap[g1]? = some c1 → V.heap[g2]? = some c2 → w.heap.size ≤ g1 → w.heap.size ≤ g2 → g1 ≠ g2 → w.grownBy V none → S V → wpL P md ops Q S Z f (Lf true true true true) (Fr (.pointer (some ⟨g1, 0, none⟩)) (.pointer (some ⟨g2, 0, none⟩))) V)
  (hk1 : ops[k1]? = some ok1 := by exact rfl) (hm1 : ops[m1]? = some om1 := by exact rfl) (hk2 : ops[k2]? = some ok2 := by exact rfl) (hm2 : ops[m2]? = some om2 := by exact rfl)
  (hy : (ok1.dst == some d1 && om1.dst == none && ok2.dst == some d2 && om2.dst == none && ok1.guard.isNone && om1.guard.isNone && ok2.guard.isNone && om2.guard.isNone) = true := by kernel_rfl)
  (hx : ((!(Region.ready md ops (Lf false false false false)).isEmpty && (Region.ready md ops (Lf false false false false)).all (fun q => q == k1 || q == k2)) && (!(Region.ready md ops (Lf false false true false)).isEmpty && (Region.ready md ops (Lf false false true false)).all (fun q => q == k1 || q == m2)) && (!(Region.ready md ops (Lf false false true true)).isEmpty && (Region.ready md ops (Lf false false true true)).all (fun q => q == k1)) && (!(Region.ready md ops (Lf true false false false)).isEmpty && (Region.ready md ops (Lf true false false false)).all (fun q => q == m1 || q == k2)) && (!(Region.ready md ops (Lf true false true false)).isEmpty && (Region.ready md ops (Lf true false true false)).all (fun q => q == m1 || q == m2)) && (!(Region.ready md ops (Lf true false true true)).isEmpty && (Region.ready md ops (Lf true false true true)).all (fun q => q == m1)) && (!(Region.ready md ops (Lf true true false false)).isEmpty && (Region.ready md ops (Lf true true false false)).all (fun q => q == k2)) && (!(Region.ready md ops (Lf true true true false)).isEmpty && (Region.ready md ops (Lf true true true false)).all (fun q => q == m2))) = true := by kernel_rfl)
  (hSk : ∀ V V' r, S V → V.grownBy V' r → (∀ k, r = some k → w.heap.size ≤ k) → S V') :
  wpL P md ops Q S Z (f + 4) (Lf false false false false) (Fr undef undef) w := by
 simp only [Bool.and_eq_true, Bool.not_eq_true', beq_iff_eq, Option.isNone_iff_eq_none] at hx hy
 obtain ⟨⟨⟨⟨⟨⟨⟨h_0, h_1⟩, h_2⟩, h_3⟩, h_4⟩, h_5⟩, h_6⟩, h_7⟩ := hx
 obtain ⟨⟨⟨⟨⟨⟨⟨D2, D3⟩, D5⟩, D6⟩, U2⟩, U3⟩, U5⟩, U6⟩ := hy
 have W2 : ∀ t, Region.wanted ok1 t = true := fun t => by unfold Region.wanted; rw [U2]
 have W3 : ∀ t, Region.wanted om1 t = true := fun t => by unfold Region.wanted; rw [U3]
 have W5 : ∀ t, Region.wanted ok2 t = true := fun t => by unfold Region.wanted; rw [U5]
 have W6 : ∀ t, Region.wanted om2 t = true := fun t => by unfold Region.wanted; rw [U6]
 have ne : ∀ {l : List Nat}, l.isEmpty = false → l ≠ [] := fun h e => by rw [e] at h; cases h
 have LAD : ∀ (g1 : Nat) (g2 : Nat) V, V.heap[g1]? = some z1 → w.heap.size ≤ g1 → V.heap[g2]? = some c2 → w.heap.size ≤ g2 → g1 ≠ g2 → w.grownBy V none → S V → wpL P md ops Q S Z (f + 1) (Lf true false true true) (Fr (.pointer (some ⟨g1, 0, none⟩)) (.pointer (some ⟨g2, 0, none⟩))) V := by
  intro g1 g2 V b1 l1 b2 l2 nn hg hv
  refine ⟨fun h0 => absurd h0 (ne h_5.1), fun q hq => ?_⟩
  have hq2 := mem_of_all h_5.2 hq
  simp only [Bool.or_eq_true, beq_iff_eq] at hq2
  subst hq2
  ·
    obtain ⟨V', hrun, hB, hG⟩ := s1 g1 (.pointer (some ⟨g2, 0, none⟩)) V b1
    have hl : ∀ k, (some g1 : Option Nat) = some k → w.heap.size ≤ k := fun k e => by cases e; exact l1
    refine wpOp_skip hm1 D3 (W3 _) hrun ⟨fun _ => hSk _ _ _ hv hG hl, ?_⟩
    rw [t3]
    exact h g1 g2 V' hB (heap_put b2 hG (by simp; exact Ne.symm nn)) l1 l2 nn (hg.andThen hG (fun j e => .inl (hl j e))) (hSk _ _ _ hv hG hl)
 have LDA : ∀ (g1 : Nat) (g2 : Nat) V, V.heap[g1]? = some c1 → w.heap.size ≤ g1 → V.heap[g2]? = some z2 → w.heap.size ≤ g2 → g1 ≠ g2 → w.grownBy V none → S V → wpL P md ops Q S Z (f + 1) (Lf true true true false) (Fr (.pointer (some ⟨g1, 0, none⟩)) (.pointer (some ⟨g2, 0, none⟩))) V := by
  intro g1 g2 V b1 l1 b2 l2 nn hg hv
  refine ⟨fun h0 => absurd h0 (ne h_7.1), fun q hq => ?_⟩
  have hq2 := mem_of_all h_7.2 hq
  simp only [Bool.or_eq_true, beq_iff_eq] at hq2
  subst hq2
  ·
    obtain ⟨V', hrun, hB, hG⟩ := s2 (.pointer (some ⟨g1, 0, none⟩)) g2 V b2
    have hl : ∀ k, (some g2 : Option Nat) = some k → w.heap.size ≤ k := fun k e => by cases e; exact l2
    refine wpOp_skip hm2 D6 (W6 _) hrun ⟨fun _ => hSk _ _ _ hv hG hl, ?_⟩
    rw [t6]
    exact h g1 g2 V' (heap_put b1 hG (by simp; exact nn)) hB l1 l2 nn (hg.andThen hG (fun j e => .inl (hl j e))) (hSk _ _ _ hv hG hl)
 have LOD : ∀ (g2 : Nat) V, V.heap[g2]? = some c2 → w.heap.size ≤ g2 → w.grownBy V none → S V → wpL P md ops Q S Z (f + 2) (Lf false false true true) (Fr undef (.pointer (some ⟨g2, 0, none⟩))) V := by
  intro g2 V b2 l2 hg hv
  refine ⟨fun h0 => absurd h0 (ne h_2.1), fun q hq => ?_⟩
  have hq2 := mem_of_all h_2.2 hq
  simp only [Bool.or_eq_true, beq_iff_eq] at hq2
  subst hq2
  ·
    refine wpOp_val hk1 D2 (W2 _) (p1 (.pointer (some ⟨g2, 0, none⟩)) V) ⟨fun _ => hSk _ _ _ hv (ga V _ none) (fun k e => by cases e), ?_⟩
    rw [t2, f2]
    have hG := ga V (z1) none
    obtain ⟨V', hV'⟩ : ∃ V', V' = V.alloc (z1) := ⟨_, rfl⟩
    have hB := heap_alloc_new V (z1)
    rw [← hV'] at hG hB ⊢
    exact LAD V.heap.size g2 V' hB hg.size (heap_put b2 hG (by simp)) l2 (by have := (Array.getElem?_eq_some_iff.1 b2).1; omega) (hg.trans hG) (hSk _ _ _ hv hG (fun k e => by cases e))
 have LAA : ∀ (g1 : Nat) (g2 : Nat) V, V.heap[g1]? = some z1 → w.heap.size ≤ g1 → V.heap[g2]? = some z2 → w.heap.size ≤ g2 → g1 ≠ g2 → w.grownBy V none → S V → wpL P md ops Q S Z (f + 2) (Lf true false true false) (Fr (.pointer (some ⟨g1, 0, none⟩)) (.pointer (some ⟨g2, 0, none⟩))) V := by
  intro g1 g2 V b1 l1 b2 l2 nn hg hv
  refine ⟨fun h0 => absurd h0 (ne h_4.1), fun q hq => ?_⟩
  have hq2 := mem_of_all h_4.2 hq
  simp only [Bool.or_eq_true, beq_iff_eq] at hq2
  rcases hq2 with rfl | rfl
  ·
    obtain ⟨V', hrun, hB, hG⟩ := s1 g1 (.pointer (some ⟨g2, 0, none⟩)) V b1
    have hl : ∀ k, (some g1 : Option Nat) = some k → w.heap.size ≤ k := fun k e => by cases e; exact l1
    refine wpOp_skip hm1 D3 (W3 _) hrun ⟨fun _ => hSk _ _ _ hv hG hl, ?_⟩
    rw [t3]
    exact LDA g1 g2 V' hB l1 (heap_put b2 hG (by simp; exact Ne.symm nn)) l2 nn (hg.andThen hG (fun j e => .inl (hl j e))) (hSk _ _ _ hv hG hl)
  ·
    obtain ⟨V', hrun, hB, hG⟩ := s2 (.pointer (some ⟨g1, 0, none⟩)) g2 V b2
    have hl : ∀ k, (some g2 : Option Nat) = some k → w.heap.size ≤ k := fun k e => by cases e; exact l2
    refine wpOp_skip hm2 D6 (W6 _) hrun ⟨fun _ => hSk _ _ _ hv hG hl, ?_⟩
    rw [t6]
    exact LAD g1 g2 V' (heap_put b1 hG (by simp; exact nn)) l1 hB l2 nn (hg.andThen hG (fun j e => .inl (hl j e))) (hSk _ _ _ hv hG hl)
 have LDO : ∀ (g1 : Nat) V, V.heap[g1]? = some c1 → w.heap.size ≤ g1 → w.grownBy V none → S V → wpL P md ops Q S Z (f + 2) (Lf true true false false) (Fr (.pointer (some ⟨g1, 0, none⟩)) undef) V := by
  intro g1 V b1 l1 hg hv
  refine ⟨fun h0 => absurd h0 (ne h_6.1), fun q hq => ?_⟩
  have hq2 := mem_of_all h_6.2 hq
  simp only [Bool.or_eq_true, beq_iff_eq] at hq2
  subst hq2
  ·
    refine wpOp_val hk2 D5 (W5 _) (p2 (.pointer (some ⟨g1, 0, none⟩)) V) ⟨fun _ => hSk _ _ _ hv (ga V _ none) (fun k e => by cases e), ?_⟩
    rw [t5, f4]
    have hG := ga V (z2) none
    obtain ⟨V', hV'⟩ : ∃ V', V' = V.alloc (z2) := ⟨_, rfl⟩
    have hB := heap_alloc_new V (z2)
    rw [← hV'] at hG hB ⊢
    exact LDA g1 V.heap.size V' (heap_put b1 hG (by simp)) l1 hB hg.size (by have := (Array.getElem?_eq_some_iff.1 b1).1; omega) (hg.trans hG) (hSk _ _ _ hv hG (fun k e => by cases e))
 have LOA : ∀ (g2 : Nat) V, V.heap[g2]? = some z2 → w.heap.size ≤ g2 → w.grownBy V none → S V → wpL P md ops Q S Z (f + 3) (Lf false false true false) (Fr undef (.pointer (some ⟨g2, 0, none⟩))) V := by
  intro g2 V b2 l2 hg hv
  refine ⟨fun h0 => absurd h0 (ne h_1.1), fun q hq => ?_⟩
  have hq2 := mem_of_all h_1.2 hq
  simp only [Bool.or_eq_true, beq_iff_eq] at hq2
  rcases hq2 with rfl | rfl
  ·
    refine wpOp_val hk1 D2 (W2 _) (p1 (.pointer (some ⟨g2, 0, none⟩)) V) ⟨fun _ => hSk _ _ _ hv (ga V _ none) (fun k e => by cases e), ?_⟩
    rw [t2, f2]
    have hG := ga V (z1) none
    obtain ⟨V', hV'⟩ : ∃ V', V' = V.alloc (z1) := ⟨_, rfl⟩
    have hB := heap_alloc_new V (z1)
    rw [← hV'] at hG hB ⊢
    exact LAA V.heap.size g2 V' hB hg.size (heap_put b2 hG (by simp)) l2 (by have := (Array.getElem?_eq_some_iff.1 b2).1; omega) (hg.trans hG) (hSk _ _ _ hv hG (fun k e => by cases e))
  ·
    obtain ⟨V', hrun, hB, hG⟩ := s2 undef g2 V b2
    have hl : ∀ k, (some g2 : Option Nat) = some k → w.heap.size ≤ k := fun k e => by cases e; exact l2
    refine wpOp_skip hm2 D6 (W6 _) hrun ⟨fun _ => hSk _ _ _ hv hG hl, ?_⟩
    rw [t6]
    exact LOD g2 V' hB l2 (hg.andThen hG (fun j e => .inl (hl j e))) (hSk _ _ _ hv hG hl)
 have LAO : ∀ (g1 : Nat) V, V.heap[g1]? = some z1 → w.heap.size ≤ g1 → w.grownBy V none → S V → wpL P md ops Q S Z (f + 3) (Lf true false false false) (Fr (.pointer (some ⟨g1, 0, none⟩)) undef) V := by
  intro g1 V b1 l1 hg hv
  refine ⟨fun h0 => absurd h0 (ne h_3.1), fun q hq => ?_⟩
  have hq2 := mem_of_all h_3.2 hq
  simp only [Bool.or_eq_true, beq_iff_eq] at hq2
  rcases hq2 with rfl | rfl
  ·
    obtain ⟨V', hrun, hB, hG⟩ := s1 g1 undef V b1
    have hl : ∀ k, (some g1 : Option Nat) = some k → w.heap.size ≤ k := fun k e => by cases e; exact l1
    refine wpOp_skip hm1 D3 (W3 _) hrun ⟨fun _ => hSk _ _ _ hv hG hl, ?_⟩
    rw [t3]
    exact LDO g1 V' hB l1 (hg.andThen hG (fun j e => .inl (hl j e))) (hSk _ _ _ hv hG hl)
  ·
    refine wpOp_val hk2 D5 (W5 _) (p2 (.pointer (some ⟨g1, 0, none⟩)) V) ⟨fun _ => hSk _ _ _ hv (ga V _ none) (fun k e => by cases e), ?_⟩
    rw [t5, f4]
    have hG := ga V (z2) none
    obtain ⟨V', hV'⟩ : ∃ V', V' = V.alloc (z2) := ⟨_, rfl⟩
    have hB := heap_alloc_new V (z2)
    rw [← hV'] at hG hB ⊢
    exact LAA g1 V.heap.size V' (heap_put b1 hG (by simp)) l1 hB hg.size (by have := (Array.getElem?_eq_some_iff.1 b1).1; omega) (hg.trans hG) (hSk _ _ _ hv hG (fun k e => by cases e))
 have LOO : ∀  V, w.grownBy V none → S V → wpL P md ops Q S Z (f + 4) (Lf false false false false) (Fr undef undef) V := by
  intro V hg hv
  refine ⟨fun h0 => absurd h0 (ne h_0.1), fun q hq => ?_⟩
  have hq2 := mem_of_all h_0.2 hq
  simp only [Bool.or_eq_true, beq_iff_eq] at hq2
  rcases hq2 with rfl | rfl
  ·
    refine wpOp_val hk1 D2 (W2 _) (p1 undef V) ⟨fun _ => hSk _ _ _ hv (ga V _ none) (fun k e => by cases e), ?_⟩
    rw [t2, f2]
    have hG := ga V (z1) none
    obtain ⟨V', hV'⟩ : ∃ V', V' = V.alloc (z1) := ⟨_, rfl⟩
    have hB := heap_alloc_new V (z1)
    rw [← hV'] at hG hB ⊢
    exact LAO V.heap.size V' hB hg.size (hg.trans hG) (hSk _ _ _ hv hG (fun k e => by cases e))
  ·
    refine wpOp_val hk2 D5 (W5 _) (p2 undef V) ⟨fun _ => hSk _ _ _ hv (ga V _ none) (fun k e => by cases e), ?_⟩
    rw [t5, f4]
    have hG := ga V (z2) none
    obtain ⟨V', hV'⟩ : ∃ V', V' = V.alloc (z2) := ⟨_, rfl⟩
    have hB := heap_alloc_new V (z2)
    rw [← hV'] at hG hB ⊢
    exact LOA V.heap.size V' hB hg.size (hg.trans hG) (hSk _ _ _ hv hG (fun k e => by cases e))
 exact LOO w (World.grownBy.refl _ _) hS
theorem cas2 {S : World → Prop} {R1 R2 : Value → World → Prop} (Fr : Value → Value → Value → Value → Act) (Lf : Bool → Bool → Bool → Bool → Bool → Bool → Array Bool) (i1 e1 k1 d1 m1 i2 e2 k2 d2 m2 : Nat) (T1 T2 : TypeId) (y1 y2 : Value) {oi1 ok1 om1 oi2 ok2 om2 : Oper} {f : Nat} {w : World} (hS : S w)
  (q1 : ∀ g y h V, w.grownBy V none → Do P oi1 (Fr undef g y h) V R1) (q2 : ∀ x g h V, w.grownBy V none → Do P oi2 (Fr x g undef h) V R2)
  (p1 : ∀ x y h V, (execOp (Fr x undef y h).eval ok1).run P V = .ok (.value (.pointer (some ⟨V.heap.size, 0, none⟩))) (V.alloc (.cells #[y1] T1 (0, 0)))) (p2 : ∀ x g y V, (execOp (Fr x g y undef).eval ok2).run P V = .ok (.value (.pointer (some ⟨V.heap.size, 0, none⟩))) (V.alloc (.cells #[y2] T2 (0, 0))))
  (s1 : ∀ x g y h V, V.heap[g]? = some (.cells #[y1] T1 (0, 0)) → R1 x V → ∃ V', (execOp (Fr x (.pointer (some ⟨g, 0, none⟩)) y h).eval om1).run P V = .ok .skip V' ∧ V'.heap[g]? = some (.cells #[x] T1 (0, 0)) ∧ V.grownBy V' (some g)) (s2 : ∀ x g y h V, V.heap[h]? = some (.cells #[y2] T2 (0, 0)) → R2 y V → ∃ V', (execOp (Fr x g y (.pointer (some ⟨h, 0, none⟩))).eval om2).run P V = .ok .skip V' ∧ V'.heap[h]? = some (.cells #[y] T2 (0, 0)) ∧ V.grownBy V' (some h))
  (mr1 : ∀ x V V' r, R1 x V → V.grownBy V' r → (∀ k, r = some k → ∃ cs, V.heap[k]? = some (.cells cs T1 (0, 0)) ∨ V.heap[k]? = some (.cells cs T2 (0, 0))) → R1 x V') (mr2 : ∀ x V V' r, R2 x V → V.grownBy V' r → (∀ k, r = some k → ∃ cs, V.heap[k]? = some (.cells cs T1 (0, 0)) ∨ V.heap[k]? = some (.cells cs T2 (0, 0))) → R2 x V')
  (f1 : ∀ x g y h v, (Fr x g y h).put (some e1) v = Fr v g y h) (f2 : ∀ x g y h v, (Fr x g y h).put (some d1) v = Fr x v y h) (f3 : ∀ x g y h v, (Fr x g y h).put (some e2) v = Fr x g v h) (f4 : ∀ x g y h v, (Fr x g y h).put (some d2) v = Fr x g y v)
  (t1 : ∀ a b c d e g, (Lf a b c d e g).setIfInBounds i1 true = Lf true b c d e g) (t2 : ∀ a b c d e g, (Lf a b c d e g).setIfInBounds k1 true = Lf a true c d e g) (t3 : ∀ a b c d e g, (Lf a b c d e g).setIfInBounds m1 true = Lf a b true d e g) (t4 : ∀ a b c d e g, (Lf a b c d e g).setIfInBounds i2 true = Lf a b c true e g) (t5 : ∀ a b c d e g, (Lf a b c d e g).setIfInBounds k2 true = Lf a b c d true g) (t6 : ∀ a b c d e g, (Lf a b c d e g).setIfInBounds m2 true = Lf a b c d e true)
  (h : ∀ x1 g1 x2 g2 V, R1 x1 V → V.heap[g1]? = some (.cells #[x1] T1 (0, 0)) → R2 x2 V → V.heap[g2]? = some (.cells #[x2] T2 (0, 0)) → w.heap.size ≤ g1 → w.heap.size ≤ g2 → g1 ≠ g2 → w.grownBy V none → S V → wpL P md ops Q S Z f (Lf true true true true true true) (Fr x1 (.pointer (some ⟨g1, 0, none⟩)) x2 (.pointer (some ⟨g2, 0, none⟩))) V)
  (hi1 : ops[i1]? = some oi1 := by exact rfl) (hk1 : ops[k1]? = some ok1 := by exact rfl) (hm1 : ops[m1]? = some om1 := by exact rfl) (hi2 : ops[i2]? = some oi2 := by exact rfl) (hk2 : ops[k2]? = some ok2 := by exact rfl) (hm2 : ops[m2]? = some om2 := by exact rfl)
  (hy : (oi1.dst == some e1 && ok1.dst == some d1 && om1.dst == none && oi2.dst == some e2 && ok2.dst == some d2 && om2.dst == none && oi1.guard.isNone && ok1.guard.isNone && om1.guard.isNone && oi2.guard.isNone && ok2.guard.isNone && om2.guard.isNone) = true := by kernel_rfl)
  (hx : ((!(Region.ready md ops (Lf false false false false false false)).isEmpty && (Region.ready md ops (Lf false false false false false false)).all (fun q => q == i1 || q == k1 || q == i2 || q == k2)) && (!(Region.ready md ops (Lf false false false true false false)).isEmpty && (Region.ready md ops (Lf false false false true false false)).all (fun q => q == i1 || q == k1 || q == k2)) && (!(Region.ready md ops (Lf false false false false true false)).isEmpty && (Region.ready md ops (Lf false false false false true false)).all (fun q => q == i1 || q == k1 || q == i2)) && (!(Region.ready md ops (Lf false false false true true false)).isEmpty && (Region.ready md ops (Lf false false false true true false)).all (fun q => q == i1 || q == k1 || q == m2)) && (!(Region.ready md ops (Lf false false false true true true)).isEmpty && (Region.ready md ops (Lf false false false true true true)).all (fun q => q == i1 || q == k1)) && (!(Region.ready md ops (Lf true false false false false false)).isEmpty && (Region.ready md ops (Lf true false false false false false)).all (fun q => q == k1 || q == i2 || q == k2)) && (!(Region.ready md ops (Lf true false false true false false)).isEmpty && (Region.ready md ops (Lf true false false true false false)).all (fun q => q == k1 || q == k2)) && (!(Region.ready md ops (Lf true false false false true false)).isEmpty && (Region.ready md ops (Lf true false false false true false)).all (fun q => q == k1 || q == i2)) && (!(Region.ready md ops (Lf true false false true true false)).isEmpty && (Region.ready md ops (Lf true false false true true false)).all (fun q => q == k1 || q == m2)) && (!(Region.ready md ops (Lf true false false true true true)).isEmpty && (Region.ready md ops (Lf true false false true true true)).all (fun q => q == k1)) && (!(Region.ready md ops (Lf false true false false false false)).isEmpty && (Region.ready md ops (Lf false true false false false false)).all (fun q => q == i1 || q == i2 || q == k2)) && (!(Region.ready md ops (Lf false true false true false false)).isEmpty && (Region.ready md ops (Lf false true false true false false)).all (fun q => q == i1 || q == k2)) && (!(Region.ready md ops (Lf false true false false true false)).isEmpty && (Region.ready md ops (Lf false true false false true false)).all (fun q => q == i1 || q == i2)) && (!(Region.ready md ops (Lf false true false true true false)).isEmpty && (Region.ready md ops (Lf false true false true true false)).all (fun q => q == i1 || q == m2)) && (!(Region.ready md ops (Lf false true false true true true)).isEmpty && (Region.ready md ops (Lf false true false true true true)).all (fun q => q == i1)) && (!(Region.ready md ops (Lf true true false false false false)).isEmpty && (Region.ready md ops (Lf true true false false false false)).all (fun q => q == m1 || q == i2 || q == k2)) && (!(Region.ready md ops (Lf true true false true false false)).isEmpty && (Region.ready md ops (Lf true true false true false false)).all (fun q => q == m1 || q == k2)) && (!(Region.ready md ops (Lf true true false false true false)).isEmpty && (Region.ready md ops (Lf true true false false true false)).all (fun q => q == m1 || q == i2)) && (!(Region.ready md ops (Lf true true false true true false)).isEmpty && (Region.ready md ops (Lf true true false true true false)).all (fun q => q == m1 || q == m2)) && (!(Region.ready md ops (Lf true true false true true true)).isEmpty && (Region.ready md ops (Lf true true false true true true)).all (fun q => q == m1)) && (!(Region.ready md ops (Lf true true true false false false)).isEmpty && (Region.ready md ops (Lf true true true false false false)).all (fun q => q == i2 || q == k2)) && (!(Region.ready md ops (Lf true true true true false false)).isEmpty && (Region.ready md ops (Lf true true true true false false)).all (fun q => q == k2)) && (!(Region.ready md ops (Lf true true true false true false)).isEmpty && (Region.ready md ops (Lf true true true false true false)).all (fun q => q == i2)) && (!(Region.ready md ops (Lf true true true true true false)).isEmpty && (Region.ready md ops (Lf true true true true true false)).all (fun q => q == m2))) = true := by kernel_rfl)
  (hSk : ∀ V V' r, S V → V.grownBy V' r → (∀ k, r = some k → w.heap.size ≤ k) → S V') :
  wpL P md ops Q S Z (f + 6) (Lf false false false false false false) (Fr undef undef undef undef) w := by
 simp only [Bool.and_eq_true, Bool.not_eq_true', beq_iff_eq, Option.isNone_iff_eq_none] at hx hy
 obtain ⟨⟨⟨⟨⟨⟨⟨⟨⟨⟨⟨⟨⟨⟨⟨⟨⟨⟨⟨⟨⟨⟨⟨h_0, h_1⟩, h_2⟩, h_3⟩, h_4⟩, h_5⟩, h_6⟩, h_7⟩, h_8⟩, h_9⟩, h_10⟩, h_11⟩, h_12⟩, h_13⟩, h_14⟩, h_15⟩, h_16⟩, h_17⟩, h_18⟩, h_19⟩, h_20⟩, h_21⟩, h_22⟩, h_23⟩ := hx
 obtain ⟨⟨⟨⟨⟨⟨⟨⟨⟨⟨⟨D1, D2⟩, D3⟩, D4⟩, D5⟩, D6⟩, U1⟩, U2⟩, U3⟩, U4⟩, U5⟩, U6⟩ := hy
 have W1 : ∀ t, Region.wanted oi1 t = true := fun t => by unfold Region.wanted; rw [U1]
 have W2 : ∀ t, Region.wanted ok1 t = true := fun t => by unfold Region.wanted; rw [U2]
 have W3 : ∀ t, Region.wanted om1 t = true := fun t => by unfold Region.wanted; rw [U3]
 have W4 : ∀ t, Region.wanted oi2 t = true := fun t => by unfold Region.wanted; rw [U4]
 have W5 : ∀ t, Region.wanted ok2 t = true := fun t => by unfold Region.wanted; rw [U5]
 have W6 : ∀ t, Region.wanted om2 t = true := fun t => by unfold Region.wanted; rw [U6]
 have ne : ∀ {l : List Nat}, l.isEmpty = false → l ≠ [] := fun h e => by rw [e] at h; cases h
 have LBD : ∀ (x1 : Value) (g1 : Nat) (x2 : Value) (g2 : Nat) V, R1 x1 V → V.heap[g1]? = some (.cells #[y1] T1 (0, 0)) → w.heap.size ≤ g1 → R2 x2 V → V.heap[g2]? = some (.cells #[x2] T2 (0, 0)) → w.heap.size ≤ g2 → g1 ≠ g2 → w.grownBy V none → S V → wpL P md ops Q S Z (f + 1) (Lf true true false true true true) (Fr x1 (.pointer (some ⟨g1, 0, none⟩)) x2 (.pointer (some ⟨g2, 0, none⟩))) V := by
  intro x1 g1 x2 g2 V r1 b1 l1 r2 b2 l2 nn hg hv
  refine ⟨fun h0 => absurd h0 (ne h_19.1), fun q hq => ?_⟩
  have hq2 := mem_of_all h_19.2 hq
  simp only [Bool.or_eq_true, beq_iff_eq] at hq2
  subst hq2
  ·
    obtain ⟨V', hrun, hB, hG⟩ := s1 x1 g1 x2 (.pointer (some ⟨g2, 0, none⟩)) V b1 r1
    have hl : ∀ k, (some g1 : Option Nat) = some k → w.heap.size ≤ k := fun k e => by cases e; exact l1
    refine wpOp_skip hm1 D3 (W3 _) hrun ⟨fun _ => hSk _ _ _ hv hG hl, ?_⟩
    rw [t3]
    exact h x1 g1 x2 g2 V' (mr1 _ V V' _ r1 hG (fun k e => by cases e; exact ⟨_, .inl b1⟩)) hB (mr2 _ V V' _ r2 hG (fun k e => by cases e; exact ⟨_, .inl b1⟩)) (heap_put b2 hG (by simp; exact Ne.symm nn)) l1 l2 nn (hg.andThen hG (fun j e => .inl (hl j e))) (hSk _ _ _ hv hG hl)
 have LDB : ∀ (x1 : Value) (g1 : Nat) (x2 : Value) (g2 : Nat) V, R1 x1 V → V.heap[g1]? = some (.cells #[x1] T1 (0, 0)) → w.heap.size ≤ g1 → R2 x2 V → V.heap[g2]? = some (.cells #[y2] T2 (0, 0)) → w.heap.size ≤ g2 → g1 ≠ g2 → w.grownBy V none → S V → wpL P md ops Q S Z (f + 1) (Lf true true true true true false) (Fr x1 (.pointer (some ⟨g1, 0, none⟩)) x2 (.pointer (some ⟨g2, 0, none⟩))) V := by
  intro x1 g1 x2 g2 V r1 b1 l1 r2 b2 l2 nn hg hv
  refine ⟨fun h0 => absurd h0 (ne h_23.1), fun q hq => ?_⟩
  have hq2 := mem_of_all h_23.2 hq
  simp only [Bool.or_eq_true, beq_iff_eq] at hq2
  subst hq2
  ·
    obtain ⟨V', hrun, hB, hG⟩ := s2 x1 (.pointer (some ⟨g1, 0, none⟩)) x2 g2 V b2 r2
    have hl : ∀ k, (some g2 : Option Nat) = some k → w.heap.size ≤ k := fun k e => by cases e; exact l2
    refine wpOp_skip hm2 D6 (W6 _) hrun ⟨fun _ => hSk _ _ _ hv hG hl, ?_⟩
    rw [t6]
    exact h x1 g1 x2 g2 V' (mr1 _ V V' _ r1 hG (fun k e => by cases e; exact ⟨_, .inr b2⟩)) (heap_put b1 hG (by simp; exact nn)) (mr2 _ V V' _ r2 hG (fun k e => by cases e; exact ⟨_, .inr b2⟩)) hB l1 l2 nn (hg.andThen hG (fun j e => .inl (hl j e))) (hSk _ _ _ hv hG hl)
 have LCD : ∀ (x1 : Value) (x2 : Value) (g2 : Nat) V, R1 x1 V → R2 x2 V → V.heap[g2]? = some (.cells #[x2] T2 (0, 0)) → w.heap.size ≤ g2 → w.grownBy V none → S V → wpL P md ops Q S Z (f + 2) (Lf true false false true true true) (Fr x1 undef x2 (.pointer (some ⟨g2, 0, none⟩))) V := by
  intro x1 x2 g2 V r1 r2 b2 l2 hg hv
  refine ⟨fun h0 => absurd h0 (ne h_9.1), fun q hq => ?_⟩
  have hq2 := mem_of_all h_9.2 hq
  simp only [Bool.or_eq_true, beq_iff_eq] at hq2
  subst hq2
  ·
    refine wpOp_val hk1 D2 (W2 _) (p1 x1 x2 (.pointer (some ⟨g2, 0, none⟩)) V) ⟨fun _ => hSk _ _ _ hv (ga V _ none) (fun k e => by cases e), ?_⟩
    rw [t2, f2]
    have hG := ga V ((.cells #[y1] T1 (0, 0))) none
    obtain ⟨V', hV'⟩ : ∃ V', V' = V.alloc ((.cells #[y1] T1 (0, 0))) := ⟨_, rfl⟩
    have hB := heap_alloc_new V ((.cells #[y1] T1 (0, 0)))
    rw [← hV'] at hG hB ⊢
    exact LBD x1 V.heap.size x2 g2 V' (mr1 _ V V' none r1 hG (fun k e => by cases e)) hB hg.size (mr2 _ V V' none r2 hG (fun k e => by cases e)) (heap_put b2 hG (by simp)) l2 (by have := (Array.getElem?_eq_some_iff.1 b2).1; omega) (hg.trans hG) (hSk _ _ _ hv hG (fun k e => by cases e))
 have LAD : ∀ (g1 : Nat) (x2 : Value) (g2 : Nat) V, V.heap[g1]? = some (.cells #[y1] T1 (0, 0)) → w.heap.size ≤ g1 → R2 x2 V → V.heap[g2]? = some (.cells #[x2] T2 (0, 0)) → w.heap.size ≤ g2 → g1 ≠ g2 → w.grownBy V none → S V → wpL P md ops Q S Z (f + 2) (Lf false true false true true true) (Fr undef (.pointer (some ⟨g1, 0, none⟩)) x2 (.pointer (some ⟨g2, 0, none⟩))) V := by
  intro g1 x2 g2 V b1 l1 r2 b2 l2 nn hg hv
  refine ⟨fun h0 => absurd h0 (ne h_14.1), fun q hq => ?_⟩
  have hq2 := mem_of_all h_14.2 hq
  simp only [Bool.or_eq_true, beq_iff_eq] at hq2
  subst hq2
  ·
    refine (q1 (.pointer (some ⟨g1, 0, none⟩)) x2 (.pointer (some ⟨g2, 0, none⟩)) V hg).wpOp hi1 D1 (W1 _) fun x1 V' hR hG => ⟨fun _ => hSk _ _ _ hv hG (fun k e => by cases e), ?_⟩
    rw [t1, f1]
    exact LBD x1 g1 x2 g2 V' hR (heap_put b1 hG (by simp)) l1 (mr2 _ V V' none r2 hG (fun k e => by cases e)) (heap_put b2 hG (by simp)) l2 nn (hg.trans hG) (hSk _ _ _ hv hG (fun k e => by cases e))
 have LBB : ∀ (x1 : Value) (g1 : Nat) (x2 : Value) (g2 : Nat) V, R1 x1 V → V.heap[g1]? = some (.cells #[y1] T1 (0, 0)) → w.heap.size ≤ g1 → R2 x2 V → V.heap[g2]? = some (.cells #[y2] T2 (0, 0)) → w.heap.size ≤ g2 → g1 ≠ g2 → w.grownBy V none → S V → wpL P md ops Q S Z (f + 2) (Lf true true false true true false) (Fr x1 (.pointer (some ⟨g1, 0, none⟩)) x2 (.pointer (some ⟨g2, 0, none⟩))) V := by
  intro x1 g1 x2 g2 V r1 b1 l1 r2 b2 l2 nn hg hv
  refine ⟨fun h0 => absurd h0 (ne h_18.1), fun q hq => ?_⟩
  have hq2 := mem_of_all h_18.2 hq
  simp only [Bool.or_eq_true, beq_iff_eq] at hq2
  rcases hq2 with rfl | rfl
  ·
    obtain ⟨V', hrun, hB, hG⟩ := s1 x1 g1 x2 (.pointer (some ⟨g2, 0, none⟩)) V b1 r1
    have hl : ∀ k, (some g1 : Option Nat) = some k → w.heap.size ≤ k := fun k e => by cases e; exact l1
    refine wpOp_skip hm1 D3 (W3 _) hrun ⟨fun _ => hSk _ _ _ hv hG hl, ?_⟩
    rw [t3]
    exact LDB x1 g1 x2 g2 V' (mr1 _ V V' _ r1 hG (fun k e => by cases e; exact ⟨_, .inl b1⟩)) hB l1 (mr2 _ V V' _ r2 hG (fun k e => by cases e; exact ⟨_, .inl b1⟩)) (heap_put b2 hG (by simp; exact Ne.symm nn)) l2 nn (hg.andThen hG (fun j e => .inl (hl j e))) (hSk _ _ _ hv hG hl)
  ·
    obtain ⟨V', hrun, hB, hG⟩ := s2 x1 (.pointer (some ⟨g1, 0, none⟩)) x2 g2 V b2 r2
    have hl : ∀ k, (some g2 : Option Nat) = some k → w.heap.size ≤ k := fun k e => by cases e; exact l2
    refine wpOp_skip hm2 D6 (W6 _) hrun ⟨fun _ => hSk _ _ _ hv hG hl, ?_⟩
    rw [t6]
    exact LBD x1 g1 x2 g2 V' (mr1 _ V V' _ r1 hG (fun k e => by cases e; exact ⟨_, .inr b2⟩)) (heap_put b1 hG (by simp; exact nn)) l1 (mr2 _ V V' _ r2 hG (fun k e => by cases e; exact ⟨_, .inr b2⟩)) hB l2 nn (hg.andThen hG (fun j e => .inl (hl j e))) (hSk _ _ _ hv hG hl)
 have LDC : ∀ (x1 : Value) (g1 : Nat) (x2 : Value) V, R1 x1 V → V.heap[g1]? = some (.cells #[x1] T1 (0, 0)) → w.heap.size ≤ g1 → R2 x2 V → w.grownBy V none → S V → wpL P md ops Q S Z (f + 2) (Lf true true true true false false) (Fr x1 (.pointer (some ⟨g1, 0, none⟩)) x2 undef) V := by
  intro x1 g1 x2 V r1 b1 l1 r2 hg hv
  refine ⟨fun h0 => absurd h0 (ne h_21.1), fun q hq => ?_⟩
  have hq2 := mem_of_all h_21.2 hq
  simp only [Bool.or_eq_true, beq_iff_eq] at hq2
  subst hq2
  ·
    refine wpOp_val hk2 D5 (W5 _) (p2 x1 (.pointer (some ⟨g1, 0, none⟩)) x2 V) ⟨fun _ => hSk _ _ _ hv (ga V _ none) (fun k e => by cases e), ?_⟩
    rw [t5, f4]
    have hG := ga V ((.cells #[y2] T2 (0, 0))) none
    obtain ⟨V', hV'⟩ : ∃ V', V' = V.alloc ((.cells #[y2] T2 (0, 0))) := ⟨_, rfl⟩
    have hB := heap_alloc_new V ((.cells #[y2] T2 (0, 0)))
    rw [← hV'] at hG hB ⊢
    exact LDB x1 g1 x2 V.heap.size V' (mr1 _ V V' none r1 hG (fun k e => by cases e)) (heap_put b1 hG (by simp)) l1 (mr2 _ V V' none r2 hG (fun k e => by cases e)) hB hg.size (by have := (Array.getElem?_eq_some_iff.1 b1).1; omega) (hg.trans hG) (hSk _ _ _ hv hG (fun k e => by cases e))
 have LDA : ∀ (x1 : Value) (g1 : Nat) (g2 : Nat) V, R1 x1 V → V.heap[g1]? = some (.cells #[x1] T1 (0, 0)) → w.heap.size ≤ g1 → V.heap[g2]? = some (.cells #[y2] T2 (0, 0)) → w.heap.size ≤ g2 → g1 ≠ g2 → w.grownBy V none → S V → wpL P md ops Q S Z (f + 2) (Lf true true true false true false) (Fr x1 (.pointer (some ⟨g1, 0, none⟩)) undef (.pointer (some ⟨g2, 0, none⟩))) V := by
  intro x1 g1 g2 V r1 b1 l1 b2 l2 nn hg hv
  refine ⟨fun h0 => absurd h0 (ne h_22.1), fun q hq => ?_⟩
  have hq2 := mem_of_all h_22.2 hq
  simp only [Bool.or_eq_true, beq_iff_eq] at hq2
  subst hq2
  ·
    refine (q2 x1 (.pointer (some ⟨g1, 0, none⟩)) (.pointer (some ⟨g2, 0, none⟩)) V hg).wpOp hi2 D4 (W4 _) fun x2 V' hR hG => ⟨fun _ => hSk _ _ _ hv hG (fun k e => by cases e), ?_⟩
    rw [t4, f3]
    exact LDB x1 g1 x2 g2 V' (mr1 _ V V' none r1 hG (fun k e => by cases e)) (heap_put b1 hG (by simp)) l1 hR (heap_put b2 hG (by simp)) l2 nn (hg.trans hG) (hSk _ _ _ hv hG (fun k e => by cases e))
 have LOD : ∀ (x2 : Value) (g2 : Nat) V, R2 x2 V → V.heap[g2]? = some (.cells #[x2] T2 (0, 0)) → w.heap.size ≤ g2 → w.grownBy V none → S V → wpL P md ops Q S Z (f + 3) (Lf false false false true true true) (Fr undef undef x2 (.pointer (some ⟨g2, 0, none⟩))) V := by
  intro x2 g2 V r2 b2 l2 hg hv
  refine ⟨fun h0 => absurd h0 (ne h_4.1), fun q hq => ?_⟩
  have hq2 := mem_of_all h_4.2 hq
  simp only [Bool.or_eq_true, beq_iff_eq] at hq2
  rcases hq2 with rfl | rfl
  ·
    refine (q1 undef x2 (.pointer (some ⟨g2, 0, none⟩)) V hg).wpOp hi1 D1 (W1 _) fun x1 V' hR hG => ⟨fun _ => hSk _ _ _ hv hG (fun k e => by cases e), ?_⟩
    rw [t1, f1]
    exact LCD x1 x2 g2 V' hR (mr2 _ V V' none r2 hG (fun k e => by cases e)) (heap_put b2 hG (by simp)) l2 (hg.trans hG) (hSk _ _ _ hv hG (fun k e => by cases e))
  ·
    refine wpOp_val hk1 D2 (W2 _) (p1 undef x2 (.pointer (some ⟨g2, 0, none⟩)) V) ⟨fun _ => hSk _ _ _ hv (ga V _ none) (fun k e => by cases e), ?_⟩
    rw [t2, f2]
    have hG := ga V ((.cells #[y1] T1 (0, 0))) none
    obtain ⟨V', hV'⟩ : ∃ V', V' = V.alloc ((.cells #[y1] T1 (0, 0))) := ⟨_, rfl⟩
    have hB := heap_alloc_new V ((.cells #[y1] T1 (0, 0)))
    rw [← hV'] at hG hB ⊢
    exact LAD V.heap.size x2 g2 V' hB hg.size (mr2 _ V V' none r2 hG (fun k e => by cases e)) (heap_put b2 hG (by simp)) l2 (by have := (Array.getElem?_eq_some_iff.1 b2).1; omega) (hg.trans hG) (hSk _ _ _ hv hG (fun k e => by cases e))
 have LCB : ∀ (x1 : Value) (x2 : Value) (g2 : Nat) V, R1 x1 V → R2 x2 V → V.heap[g2]? = some (.cells #[y2] T2 (0, 0)) → w.heap.size ≤ g2 → w.grownBy V none → S V → wpL P md ops Q S Z (f + 3) (Lf true false false true true false) (Fr x1 undef x2 (.pointer (some ⟨g2, 0, none⟩))) V := by
  intro x1 x2 g2 V r1 r2 b2 l2 hg hv
  refine ⟨fun h0 => absurd h0 (ne h_8.1), fun q hq => ?_⟩
  have hq2 := mem_of_all h_8.2 hq
  simp only [Bool.or_eq_true, beq_iff_eq] at hq2
  rcases hq2 with rfl | rfl
  ·
    refine wpOp_val hk1 D2 (W2 _) (p1 x1 x2 (.pointer (some ⟨g2, 0, none⟩)) V) ⟨fun _ => hSk _ _ _ hv (ga V _ none) (fun k e => by cases e), ?_⟩
    rw [t2, f2]
    have hG := ga V ((.cells #[y1] T1 (0, 0))) none
    obtain ⟨V', hV'⟩ : ∃ V', V' = V.alloc ((.cells #[y1] T1 (0, 0))) := ⟨_, rfl⟩
    have hB := heap_alloc_new V ((.cells #[y1] T1 (0, 0)))
    rw [← hV'] at hG hB ⊢
    exact LBB x1 V.heap.size x2 g2 V' (mr1 _ V V' none r1 hG (fun k e => by cases e)) hB hg.size (mr2 _ V V' none r2 hG (fun k e => by cases e)) (heap_put b2 hG (by simp)) l2 (by have := (Array.getElem?_eq_some_iff.1 b2).1; omega) (hg.trans hG) (hSk _ _ _ hv hG (fun k e => by cases e))
  ·
    obtain ⟨V', hrun, hB, hG⟩ := s2 x1 undef x2 g2 V b2 r2
    have hl : ∀ k, (some g2 : Option Nat) = some k → w.heap.size ≤ k := fun k e => by cases e; exact l2
    refine wpOp_skip hm2 D6 (W6 _) hrun ⟨fun _ => hSk _ _ _ hv hG hl, ?_⟩
    rw [t6]
    exact LCD x1 x2 g2 V' (mr1 _ V V' _ r1 hG (fun k e => by cases e; exact ⟨_, .inr b2⟩)) (mr2 _ V V' _ r2 hG (fun k e => by cases e; exact ⟨_, .inr b2⟩)) hB l2 (hg.andThen hG (fun j e => .inl (hl j e))) (hSk _ _ _ hv hG hl)
 have LAB : ∀ (g1 : Nat) (x2 : Value) (g2 : Nat) V, V.heap[g1]? = some (.cells #[y1] T1 (0, 0)) → w.heap.size ≤ g1 → R2 x2 V → V.heap[g2]? = some (.cells #[y2] T2 (0, 0)) → w.heap.size ≤ g2 → g1 ≠ g2 → w.grownBy V none → S V → wpL P md ops Q S Z (f + 3) (Lf false true false true true false) (Fr undef (.pointer (some ⟨g1, 0, none⟩)) x2 (.pointer (some ⟨g2, 0, none⟩))) V := by
  intro g1 x2 g2 V b1 l1 r2 b2 l2 nn hg hv
  refine ⟨fun h0 => absurd h0 (ne h_13.1), fun q hq => ?_⟩
  have hq2 := mem_of_all h_13.2 hq
  simp only [Bool.or_eq_true, beq_iff_eq] at hq2
  rcases hq2 with rfl | rfl
  ·
    refine (q1 (.pointer (some ⟨g1, 0, none⟩)) x2 (.pointer (some ⟨g2, 0, none⟩)) V hg).wpOp hi1 D1 (W1 _) fun x1 V' hR hG => ⟨fun _ => hSk _ _ _ hv hG (fun k e => by cases e), ?_⟩
    rw [t1, f1]
    exact LBB x1 g1 x2 g2 V' hR (heap_put b1 hG (by simp)) l1 (mr2 _ V V' none r2 hG (fun k e => by cases e)) (heap_put b2 hG (by simp)) l2 nn (hg.trans hG) (hSk _ _ _ hv hG (fun k e => by cases e))
  ·
    obtain ⟨V', hrun, hB, hG⟩ := s2 undef (.pointer (some ⟨g1, 0, none⟩)) x2 g2 V b2 r2
    have hl : ∀ k, (some g2 : Option Nat) = some k → w.heap.size ≤ k := fun k e => by cases e; exact l2
    refine wpOp_skip hm2 D6 (W6 _) hrun ⟨fun _ => hSk _ _ _ hv hG hl, ?_⟩
    rw [t6]
    exact LAD g1 x2 g2 V' (heap_put b1 hG (by simp; exact nn)) l1 (mr2 _ V V' _ r2 hG (fun k e => by cases e; exact ⟨_, .inr b2⟩)) hB l2 nn (hg.andThen hG (fun j e => .inl (hl j e))) (hSk _ _ _ hv hG hl)
 have LBC : ∀ (x1 : Value) (g1 : Nat) (x2 : Value) V, R1 x1 V → V.heap[g1]? = some (.cells #[y1] T1 (0, 0)) → w.heap.size ≤ g1 → R2 x2 V → w.grownBy V none → S V → wpL P md ops Q S Z (f + 3) (Lf true true false true false false) (Fr x1 (.pointer (some ⟨g1, 0, none⟩)) x2 undef) V := by
  intro x1 g1 x2 V r1 b1 l1 r2 hg hv
  refine ⟨fun h0 => absurd h0 (ne h_16.1), fun q hq => ?_⟩
  have hq2 := mem_of_all h_16.2 hq
  simp only [Bool.or_eq_true, beq_iff_eq] at hq2
  rcases hq2 with rfl | rfl
  ·
    obtain ⟨V', hrun, hB, hG⟩ := s1 x1 g1 x2 undef V b1 r1
    have hl : ∀ k, (some g1 : Option Nat) = some k → w.heap.size ≤ k := fun k e => by cases e; exact l1
    refine wpOp_skip hm1 D3 (W3 _) hrun ⟨fun _ => hSk _ _ _ hv hG hl, ?_⟩
    rw [t3]
    exact LDC x1 g1 x2 V' (mr1 _ V V' _ r1 hG (fun k e => by cases e; exact ⟨_, .inl b1⟩)) hB l1 (mr2 _ V V' _ r2 hG (fun k e => by cases e; exact ⟨_, .inl b1⟩)) (hg.andThen hG (fun j e => .inl (hl j e))) (hSk _ _ _ hv hG hl)
  ·
    refine wpOp_val hk2 D5 (W5 _) (p2 x1 (.pointer (some ⟨g1, 0, none⟩)) x2 V) ⟨fun _ => hSk _ _ _ hv (ga V _ none) (fun k e => by cases e), ?_⟩
    rw [t5, f4]
    have hG := ga V ((.cells #[y2] T2 (0, 0))) none
    obtain ⟨V', hV'⟩ : ∃ V', V' = V.alloc ((.cells #[y2] T2 (0, 0))) := ⟨_, rfl⟩
    have hB := heap_alloc_new V ((.cells #[y2] T2 (0, 0)))
    rw [← hV'] at hG hB ⊢
    exact LBB x1 g1 x2 V.heap.size V' (mr1 _ V V' none r1 hG (fun k e => by cases e)) (heap_put b1 hG (by simp)) l1 (mr2 _ V V' none r2 hG (fun k e => by cases e)) hB hg.size (by have := (Array.getElem?_eq_some_iff.1 b1).1; omega) (hg.trans hG) (hSk _ _ _ hv hG (fun k e => by cases e))
 have LBA : ∀ (x1 : Value) (g1 : Nat) (g2 : Nat) V, R1 x1 V → V.heap[g1]? = some (.cells #[y1] T1 (0, 0)) → w.heap.size ≤ g1 → V.heap[g2]? = some (.cells #[y2] T2 (0, 0)) → w.heap.size ≤ g2 → g1 ≠ g2 → w.grownBy V none → S V → wpL P md ops Q S Z (f + 3) (Lf true true false false true false) (Fr x1 (.pointer (some ⟨g1, 0, none⟩)) undef (.pointer (some ⟨g2, 0, none⟩))) V := by
  intro x1 g1 g2 V r1 b1 l1 b2 l2 nn hg hv
  refine ⟨fun h0 => absurd h0 (ne h_17.1), fun q hq => ?_⟩
  have hq2 := mem_of_all h_17.2 hq
  simp only [Bool.or_eq_true, beq_iff_eq] at hq2
  rcases hq2 with rfl | rfl
  ·
    obtain ⟨V', hrun, hB, hG⟩ := s1 x1 g1 undef (.pointer (some ⟨g2, 0, none⟩)) V b1 r1
    have hl : ∀ k, (some g1 : Option Nat) = some k → w.heap.size ≤ k := fun k e => by cases e; exact l1
    refine wpOp_skip hm1 D3 (W3 _) hrun ⟨fun _ => hSk _ _ _ hv hG hl, ?_⟩
    rw [t3]
    exact LDA x1 g1 g2 V' (mr1 _ V V' _ r1 hG (fun k e => by cases e; exact ⟨_, .inl b1⟩)) hB l1 (heap_put b2 hG (by simp; exact Ne.symm nn)) l2 nn (hg.andThen hG (fun j e => .inl (hl j e))) (hSk _ _ _ hv hG hl)
  ·
    refine (q2 x1 (.pointer (some ⟨g1, 0, none⟩)) (.pointer (some ⟨g2, 0, none⟩)) V hg).wpOp hi2 D4 (W4 _) fun x2 V' hR hG => ⟨fun _ => hSk _ _ _ hv hG (fun k e => by cases e), ?_⟩
    rw [t4, f3]
    exact LBB x1 g1 x2 g2 V' (mr1 _ V V' none r1 hG (fun k e => by cases e)) (heap_put b1 hG (by simp)) l1 hR (heap_put b2 hG (by simp)) l2 nn (hg.trans hG) (hSk _ _ _ hv hG (fun k e => by cases e))
 have LDO : ∀ (x1 : Value) (g1 : Nat) V, R1 x1 V → V.heap[g1]? = some (.cells #[x1] T1 (0, 0)) → w.heap.size ≤ g1 → w.grownBy V none → S V → wpL P md ops Q S Z (f + 3) (Lf true true true false false false) (Fr x1 (.pointer (some ⟨g1, 0, none⟩)) undef undef) V := by
  intro x1 g1 V r1 b1 l1 hg hv
  refine ⟨fun h0 => absurd h0 (ne h_20.1), fun q hq => ?_⟩
  have hq2 := mem_of_all h_20.2 hq
  simp only [Bool.or_eq_true, beq_iff_eq] at hq2
  rcases hq2 with rfl | rfl
  ·
    refine (q2 x1 (.pointer (some ⟨g1, 0, none⟩)) undef V hg).wpOp hi2 D4 (W4 _) fun x2 V' hR hG => ⟨fun _ => hSk _ _ _ hv hG (fun k e => by cases e), ?_⟩
    rw [t4, f3]
    exact LDC x1 g1 x2 V' (mr1 _ V V' none r1 hG (fun k e => by cases e)) (heap_put b1 hG (by simp)) l1 hR (hg.trans hG) (hSk _ _ _ hv hG (fun k e => by cases e))
  ·
    refine wpOp_val hk2 D5 (W5 _) (p2 x1 (.pointer (some ⟨g1, 0, none⟩)) undef V) ⟨fun _ => hSk _ _ _ hv (ga V _ none) (fun k e => by cases e), ?_⟩
    rw [t5, f4]
    have hG := ga V ((.cells #[y2] T2 (0, 0))) none
    obtain ⟨V', hV'⟩ : ∃ V', V' = V.alloc ((.cells #[y2] T2 (0, 0))) := ⟨_, rfl⟩
    have hB := heap_alloc_new V ((.cells #[y2] T2 (0, 0)))
    rw [← hV'] at hG hB ⊢
    exact LDA x1 g1 V.heap.size V' (mr1 _ V V' none r1 hG (fun k e => by cases e)) (heap_put b1 hG (by simp)) l1 hB hg.size (by have := (Array.getElem?_eq_some_iff.1 b1).1; omega) (hg.trans hG) (hSk _ _ _ hv hG (fun k e => by cases e))
 have LOB : ∀ (x2 : Value) (g2 : Nat) V, R2 x2 V → V.heap[g2]? = some (.cells #[y2] T2 (0, 0)) → w.heap.size ≤ g2 → w.grownBy V none → S V → wpL P md ops Q S Z (f + 4) (Lf false false false true true false) (Fr undef undef x2 (.pointer (some ⟨g2, 0, none⟩))) V := by
  intro x2 g2 V r2 b2 l2 hg hv
  refine ⟨fun h0 => absurd h0 (ne h_3.1), fun q hq => ?_⟩
  have hq2 := mem_of_all h_3.2 hq
  simp only [Bool.or_eq_true, beq_iff_eq] at hq2
  rcases hq2 with (rfl | rfl) | rfl
  ·
    refine (q1 undef x2 (.pointer (some ⟨g2, 0, none⟩)) V hg).wpOp hi1 D1 (W1 _) fun x1 V' hR hG => ⟨fun _ => hSk _ _ _ hv hG (fun k e => by cases e), ?_⟩
    rw [t1, f1]
    exact LCB x1 x2 g2 V' hR (mr2 _ V V' none r2 hG (fun k e => by cases e)) (heap_put b2 hG (by simp)) l2 (hg.trans hG) (hSk _ _ _ hv hG (fun k e => by cases e))
  ·
    refine wpOp_val hk1 D2 (W2 _) (p1 undef x2 (.pointer (some ⟨g2, 0, none⟩)) V) ⟨fun _ => hSk _ _ _ hv (ga V _ none) (fun k e => by cases e), ?_⟩
    rw [t2, f2]
    have hG := ga V ((.cells #[y1] T1 (0, 0))) none
    obtain ⟨V', hV'⟩ : ∃ V', V' = V.alloc ((.cells #[y1] T1 (0, 0))) := ⟨_, rfl⟩
    have hB := heap_alloc_new V ((.cells #[y1] T1 (0, 0)))
    rw [← hV'] at hG hB ⊢
    exact LAB V.heap.size x2 g2 V' hB hg.size (mr2 _ V V' none r2 hG (fun k e => by cases e)) (heap_put b2 hG (by simp)) l2 (by have := (Array.getElem?_eq_some_iff.1 b2).1; omega) (hg.trans hG) (hSk _ _ _ hv hG (fun k e => by cases e))
  ·
    obtain ⟨V', hrun, hB, hG⟩ := s2 undef undef x2 g2 V b2 r2
    have hl : ∀ k, (some g2 : Option Nat) = some k → w.heap.size ≤ k := fun k e => by cases e; exact l2
    refine wpOp_skip hm2 D6 (W6 _) hrun ⟨fun _ => hSk _ _ _ hv hG hl, ?_⟩
    rw [t6]
    exact LOD x2 g2 V' (mr2 _ V V' _ r2 hG (fun k e => by cases e; exact ⟨_, .inr b2⟩)) hB l2 (hg.andThen hG (fun j e => .inl (hl j e))) (hSk _ _ _ hv hG hl)
 have LCC : ∀ (x1 : Value) (x2 : Value) V, R1 x1 V → R2 x2 V → w.grownBy V none → S V → wpL P md ops Q S Z (f + 4) (Lf true false false true false false) (Fr x1 undef x2 undef) V := by
  intro x1 x2 V r1 r2 hg hv
  refine ⟨fun h0 => absurd h0 (ne h_6.1), fun q hq => ?_⟩
  have hq2 := mem_of_all h_6.2 hq
  simp only [Bool.or_eq_true, beq_iff_eq] at hq2
  rcases hq2 with rfl | rfl
  ·
    refine wpOp_val hk1 D2 (W2 _) (p1 x1 x2 undef V) ⟨fun _ => hSk _ _ _ hv (ga V _ none) (fun k e => by cases e), ?_⟩
    rw [t2, f2]
    have hG := ga V ((.cells #[y1] T1 (0, 0))) none
    obtain ⟨V', hV'⟩ : ∃ V', V' = V.alloc ((.cells #[y1] T1 (0, 0))) := ⟨_, rfl⟩
    have hB := heap_alloc_new V ((.cells #[y1] T1 (0, 0)))
    rw [← hV'] at hG hB ⊢
    exact LBC x1 V.heap.size x2 V' (mr1 _ V V' none r1 hG (fun k e => by cases e)) hB hg.size (mr2 _ V V' none r2 hG (fun k e => by cases e)) (hg.trans hG) (hSk _ _ _ hv hG (fun k e => by cases e))
  ·
    refine wpOp_val hk2 D5 (W5 _) (p2 x1 undef x2 V) ⟨fun _ => hSk _ _ _ hv (ga V _ none) (fun k e => by cases e), ?_⟩
    rw [t5, f4]
    have hG := ga V ((.cells #[y2] T2 (0, 0))) none
    obtain ⟨V', hV'⟩ : ∃ V', V' = V.alloc ((.cells #[y2] T2 (0, 0))) := ⟨_, rfl⟩
    have hB := heap_alloc_new V ((.cells #[y2] T2 (0, 0)))
    rw [← hV'] at hG hB ⊢
    exact LCB x1 x2 V.heap.size V' (mr1 _ V V' none r1 hG (fun k e => by cases e)) (mr2 _ V V' none r2 hG (fun k e => by cases e)) hB hg.size (hg.trans hG) (hSk _ _ _ hv hG (fun k e => by cases e))
 have LCA : ∀ (x1 : Value) (g2 : Nat) V, R1 x1 V → V.heap[g2]? = some (.cells #[y2] T2 (0, 0)) → w.heap.size ≤ g2 → w.grownBy V none → S V → wpL P md ops Q S Z (f + 4) (Lf true false false false true false) (Fr x1 undef undef (.pointer (some ⟨g2, 0, none⟩))) V := by
  intro x1 g2 V r1 b2 l2 hg hv
  refine ⟨fun h0 => absurd h0 (ne h_7.1), fun q hq => ?_⟩
  have hq2 := mem_of_all h_7.2 hq
  simp only [Bool.or_eq_true, beq_iff_eq] at hq2
  rcases hq2 with rfl | rfl
  ·
    refine wpOp_val hk1 D2 (W2 _) (p1 x1 undef (.pointer (some ⟨g2, 0, none⟩)) V) ⟨fun _ => hSk _ _ _ hv (ga V _ none) (fun k e => by cases e), ?_⟩
    rw [t2, f2]
    have hG := ga V ((.cells #[y1] T1 (0, 0))) none
    obtain ⟨V', hV'⟩ : ∃ V', V' = V.alloc ((.cells #[y1] T1 (0, 0))) := ⟨_, rfl⟩
    have hB := heap_alloc_new V ((.cells #[y1] T1 (0, 0)))
    rw [← hV'] at hG hB ⊢
    exact LBA x1 V.heap.size g2 V' (mr1 _ V V' none r1 hG (fun k e => by cases e)) hB hg.size (heap_put b2 hG (by simp)) l2 (by have := (Array.getElem?_eq_some_iff.1 b2).1; omega) (hg.trans hG) (hSk _ _ _ hv hG (fun k e => by cases e))
  ·
    refine (q2 x1 undef (.pointer (some ⟨g2, 0, none⟩)) V hg).wpOp hi2 D4 (W4 _) fun x2 V' hR hG => ⟨fun _ => hSk _ _ _ hv hG (fun k e => by cases e), ?_⟩
    rw [t4, f3]
    exact LCB x1 x2 g2 V' (mr1 _ V V' none r1 hG (fun k e => by cases e)) hR (heap_put b2 hG (by simp)) l2 (hg.trans hG) (hSk _ _ _ hv hG (fun k e => by cases e))
 have LAC : ∀ (g1 : Nat) (x2 : Value) V, V.heap[g1]? = some (.cells #[y1] T1 (0, 0)) → w.heap.size ≤ g1 → R2 x2 V → w.grownBy V none → S V → wpL P md ops Q S Z (f + 4) (Lf false true false true false false) (Fr undef (.pointer (some ⟨g1, 0, none⟩)) x2 undef) V := by
  intro g1 x2 V b1 l1 r2 hg hv
  refine ⟨fun h0 => absurd h0 (ne h_11.1), fun q hq => ?_⟩
  have hq2 := mem_of_all h_11.2 hq
  simp only [Bool.or_eq_true, beq_iff_eq] at hq2
  rcases hq2 with rfl | rfl
  ·
    refine (q1 (.pointer (some ⟨g1, 0, none⟩)) x2 undef V hg).wpOp hi1 D1 (W1 _) fun x1 V' hR hG => ⟨fun _ => hSk _ _ _ hv hG (fun k e => by cases e), ?_⟩
    rw [t1, f1]
    exact LBC x1 g1 x2 V' hR (heap_put b1 hG (by simp)) l1 (mr2 _ V V' none r2 hG (fun k e => by cases e)) (hg.trans hG) (hSk _ _ _ hv hG (fun k e => by cases e))
  ·
    refine wpOp_val hk2 D5 (W5 _) (p2 undef (.pointer (some ⟨g1, 0, none⟩)) x2 V) ⟨fun _ => hSk _ _ _ hv (ga V _ none) (fun k e => by cases e), ?_⟩
    rw [t5, f4]
    have hG := ga V ((.cells #[y2] T2 (0, 0))) none
    obtain ⟨V', hV'⟩ : ∃ V', V' = V.alloc ((.cells #[y2] T2 (0, 0))) := ⟨_, rfl⟩
    have hB := heap_alloc_new V ((.cells #[y2] T2 (0, 0)))
    rw [← hV'] at hG hB ⊢
    exact LAB g1 x2 V.heap.size V' (heap_put b1 hG (by simp)) l1 (mr2 _ V V' none r2 hG (fun k e => by cases e)) hB hg.size (by have := (Array.getElem?_eq_some_iff.1 b1).1; omega) (hg.trans hG) (hSk _ _ _ hv hG (fun k e => by cases e))
 have LAA : ∀ (g1 : Nat) (g2 : Nat) V, V.heap[g1]? = some (.cells #[y1] T1 (0, 0)) → w.heap.size ≤ g1 → V.heap[g2]? = some (.cells #[y2] T2 (0, 0)) → w.heap.size ≤ g2 → g1 ≠ g2 → w.grownBy V none → S V → wpL P md ops Q S Z (f + 4) (Lf false true false false true false) (Fr undef (.pointer (some ⟨g1, 0, none⟩)) undef (.pointer (some ⟨g2, 0, none⟩))) V := by
  intro g1 g2 V b1 l1 b2 l2 nn hg hv
  refine ⟨fun h0 => absurd h0 (ne h_12.1), fun q hq => ?_⟩
  have hq2 := mem_of_all h_12.2 hq
  simp only [Bool.or_eq_true, beq_iff_eq] at hq2
  rcases hq2 with rfl | rfl
  ·
    refine (q1 (.pointer (some ⟨g1, 0, none⟩)) undef (.pointer (some ⟨g2, 0, none⟩)) V hg).wpOp hi1 D1 (W1 _) fun x1 V' hR hG => ⟨fun _ => hSk _ _ _ hv hG (fun k e => by cases e), ?_⟩
    rw [t1, f1]
    exact LBA x1 g1 g2 V' hR (heap_put b1 hG (by simp)) l1 (heap_put b2 hG (by simp)) l2 nn (hg.trans hG) (hSk _ _ _ hv hG (fun k e => by cases e))
  ·
    refine (q2 undef (.pointer (some ⟨g1, 0, none⟩)) (.pointer (some ⟨g2, 0, none⟩)) V hg).wpOp hi2 D4 (W4 _) fun x2 V' hR hG => ⟨fun _ => hSk _ _ _ hv hG (fun k e => by cases e), ?_⟩
    rw [t4, f3]
    exact LAB g1 x2 g2 V' (heap_put b1 hG (by simp)) l1 hR (heap_put b2 hG (by simp)) l2 nn (hg.trans hG) (hSk _ _ _ hv hG (fun k e => by cases e))
 have LBO : ∀ (x1 : Value) (g1 : Nat) V, R1 x1 V → V.heap[g1]? = some (.cells #[y1] T1 (0, 0)) → w.heap.size ≤ g1 → w.grownBy V none → S V → wpL P md ops Q S Z (f + 4) (Lf true true false false false false) (Fr x1 (.pointer (some ⟨g1, 0, none⟩)) undef undef) V := by
  intro x1 g1 V r1 b1 l1 hg hv
  refine ⟨fun h0 => absurd h0 (ne h_15.1), fun q hq => ?_⟩
  have hq2 := mem_of_all h_15.2 hq
  simp only [Bool.or_eq_true, beq_iff_eq] at hq2
  rcases hq2 with (rfl | rfl) | rfl
  ·
    obtain ⟨V', hrun, hB, hG⟩ := s1 x1 g1 undef undef V b1 r1
    have hl : ∀ k, (some g1 : Option Nat) = some k → w.heap.size ≤ k := fun k e => by cases e; exact l1
    refine wpOp_skip hm1 D3 (W3 _) hrun ⟨fun _ => hSk _ _ _ hv hG hl, ?_⟩
    rw [t3]
    exact LDO x1 g1 V' (mr1 _ V V' _ r1 hG (fun k e => by cases e; exact ⟨_, .inl b1⟩)) hB l1 (hg.andThen hG (fun j e => .inl (hl j e))) (hSk _ _ _ hv hG hl)
  ·
    refine (q2 x1 (.pointer (some ⟨g1, 0, none⟩)) undef V hg).wpOp hi2 D4 (W4 _) fun x2 V' hR hG => ⟨fun _ => hSk _ _ _ hv hG (fun k e => by cases e), ?_⟩
    rw [t4, f3]
    exact LBC x1 g1 x2 V' (mr1 _ V V' none r1 hG (fun k e => by cases e)) (heap_put b1 hG (by simp)) l1 hR (hg.trans hG) (hSk _ _ _ hv hG (fun k e => by cases e))
  ·
    refine wpOp_val hk2 D5 (W5 _) (p2 x1 (.pointer (some ⟨g1, 0, none⟩)) undef V) ⟨fun _ => hSk _ _ _ hv (ga V _ none) (fun k e => by cases e), ?_⟩
    rw [t5, f4]
    have hG := ga V ((.cells #[y2] T2 (0, 0))) none
    obtain ⟨V', hV'⟩ : ∃ V', V' = V.alloc ((.cells #[y2] T2 (0, 0))) := ⟨_, rfl⟩
    have hB := heap_alloc_new V ((.cells #[y2] T2 (0, 0)))
    rw [← hV'] at hG hB ⊢
    exact LBA x1 g1 V.heap.size V' (mr1 _ V V' none r1 hG (fun k e => by cases e)) (heap_put b1 hG (by simp)) l1 hB hg.size (by have := (Array.getElem?_eq_some_iff.1 b1).1; omega) (hg.trans hG) (hSk _ _ _ hv hG (fun k e => by cases e))
 have LOC : ∀ (x2 : Value) V, R2 x2 V → w.grownBy V none → S V → wpL P md ops Q S Z (f + 5) (Lf false false false true false false) (Fr undef undef x2 undef) V := by
  intro x2 V r2 hg hv
  refine ⟨fun h0 => absurd h0 (ne h_1.1), fun q hq => ?_⟩
  have hq2 := mem_of_all h_1.2 hq
  simp only [Bool.or_eq_true, beq_iff_eq] at hq2
  rcases hq2 with (rfl | rfl) | rfl
  ·
    refine (q1 undef x2 undef V hg).wpOp hi1 D1 (W1 _) fun x1 V' hR hG => ⟨fun _ => hSk _ _ _ hv hG (fun k e => by cases e), ?_⟩
    rw [t1, f1]
    exact LCC x1 x2 V' hR (mr2 _ V V' none r2 hG (fun k e => by cases e)) (hg.trans hG) (hSk _ _ _ hv hG (fun k e => by cases e))
  ·
    refine wpOp_val hk1 D2 (W2 _) (p1 undef x2 undef V) ⟨fun _ => hSk _ _ _ hv (ga V _ none) (fun k e => by cases e), ?_⟩
    rw [t2, f2]
    have hG := ga V ((.cells #[y1] T1 (0, 0))) none
    obtain ⟨V', hV'⟩ : ∃ V', V' = V.alloc ((.cells #[y1] T1 (0, 0))) := ⟨_, rfl⟩
    have hB := heap_alloc_new V ((.cells #[y1] T1 (0, 0)))
    rw [← hV'] at hG hB ⊢
    exact LAC V.heap.size x2 V' hB hg.size (mr2 _ V V' none r2 hG (fun k e => by cases e)) (hg.trans hG) (hSk _ _ _ hv hG (fun k e => by cases e))
  ·
    refine wpOp_val hk2 D5 (W5 _) (p2 undef undef x2 V) ⟨fun _ => hSk _ _ _ hv (ga V _ none) (fun k e => by cases e), ?_⟩
    rw [t5, f4]
    have hG := ga V ((.cells #[y2] T2 (0, 0))) none
    obtain ⟨V', hV'⟩ : ∃ V', V' = V.alloc ((.cells #[y2] T2 (0, 0))) := ⟨_, rfl⟩
    have hB := heap_alloc_new V ((.cells #[y2] T2 (0, 0)))
    rw [← hV'] at hG hB ⊢
    exact LOB x2 V.heap.size V' (mr2 _ V V' none r2 hG (fun k e => by cases e)) hB hg.size (hg.trans hG) (hSk _ _ _ hv hG (fun k e => by cases e))
 have LOA : ∀ (g2 : Nat) V, V.heap[g2]? = some (.cells #[y2] T2 (0, 0)) → w.heap.size ≤ g2 → w.grownBy V none → S V → wpL P md ops Q S Z (f + 5) (Lf false false false false true false) (Fr undef undef undef (.pointer (some ⟨g2, 0, none⟩))) V := by
  intro g2 V b2 l2 hg hv
  refine ⟨fun h0 => absurd h0 (ne h_2.1), fun q hq => ?_⟩
  have hq2 := mem_of_all h_2.2 hq
  simp only [Bool.or_eq_true, beq_iff_eq] at hq2
  rcases hq2 with (rfl | rfl) | rfl
  ·
    refine (q1 undef undef (.pointer (some ⟨g2, 0, none⟩)) V hg).wpOp hi1 D1 (W1 _) fun x1 V' hR hG => ⟨fun _ => hSk _ _ _ hv hG (fun k e => by cases e), ?_⟩
    rw [t1, f1]
    exact LCA x1 g2 V' hR (heap_put b2 hG (by simp)) l2 (hg.trans hG) (hSk _ _ _ hv hG (fun k e => by cases e))
  ·
    refine wpOp_val hk1 D2 (W2 _) (p1 undef undef (.pointer (some ⟨g2, 0, none⟩)) V) ⟨fun _ => hSk _ _ _ hv (ga V _ none) (fun k e => by cases e), ?_⟩
    rw [t2, f2]
    have hG := ga V ((.cells #[y1] T1 (0, 0))) none
    obtain ⟨V', hV'⟩ : ∃ V', V' = V.alloc ((.cells #[y1] T1 (0, 0))) := ⟨_, rfl⟩
    have hB := heap_alloc_new V ((.cells #[y1] T1 (0, 0)))
    rw [← hV'] at hG hB ⊢
    exact LAA V.heap.size g2 V' hB hg.size (heap_put b2 hG (by simp)) l2 (by have := (Array.getElem?_eq_some_iff.1 b2).1; omega) (hg.trans hG) (hSk _ _ _ hv hG (fun k e => by cases e))
  ·
    refine (q2 undef undef (.pointer (some ⟨g2, 0, none⟩)) V hg).wpOp hi2 D4 (W4 _) fun x2 V' hR hG => ⟨fun _ => hSk _ _ _ hv hG (fun k e => by cases e), ?_⟩
    rw [t4, f3]
    exact LOB x2 g2 V' hR (heap_put b2 hG (by simp)) l2 (hg.trans hG) (hSk _ _ _ hv hG (fun k e => by cases e))
 have LCO : ∀ (x1 : Value) V, R1 x1 V → w.grownBy V none → S V → wpL P md ops Q S Z (f + 5) (Lf true false false false false false) (Fr x1 undef undef undef) V := by
  intro x1 V r1 hg hv
  refine ⟨fun h0 => absurd h0 (ne h_5.1), fun q hq => ?_⟩
  have hq2 := mem_of_all h_5.2 hq
  simp only [Bool.or_eq_true, beq_iff_eq] at hq2
  rcases hq2 with (rfl | rfl) | rfl
  ·
    refine wpOp_val hk1 D2 (W2 _) (p1 x1 undef undef V) ⟨fun _ => hSk _ _ _ hv (ga V _ none) (fun k e => by cases e), ?_⟩
    rw [t2, f2]
    have hG := ga V ((.cells #[y1] T1 (0, 0))) none
    obtain ⟨V', hV'⟩ : ∃ V', V' = V.alloc ((.cells #[y1] T1 (0, 0))) := ⟨_, rfl⟩
    have hB := heap_alloc_new V ((.cells #[y1] T1 (0, 0)))
    rw [← hV'] at hG hB ⊢
    exact LBO x1 V.heap.size V' (mr1 _ V V' none r1 hG (fun k e => by cases e)) hB hg.size (hg.trans hG) (hSk _ _ _ hv hG (fun k e => by cases e))
  ·
    refine (q2 x1 undef undef V hg).wpOp hi2 D4 (W4 _) fun x2 V' hR hG => ⟨fun _ => hSk _ _ _ hv hG (fun k e => by cases e), ?_⟩
    rw [t4, f3]
    exact LCC x1 x2 V' (mr1 _ V V' none r1 hG (fun k e => by cases e)) hR (hg.trans hG) (hSk _ _ _ hv hG (fun k e => by cases e))
  ·
    refine wpOp_val hk2 D5 (W5 _) (p2 x1 undef undef V) ⟨fun _ => hSk _ _ _ hv (ga V _ none) (fun k e => by cases e), ?_⟩
    rw [t5, f4]
    have hG := ga V ((.cells #[y2] T2 (0, 0))) none
    obtain ⟨V', hV'⟩ : ∃ V', V' = V.alloc ((.cells #[y2] T2 (0, 0))) := ⟨_, rfl⟩
    have hB := heap_alloc_new V ((.cells #[y2] T2 (0, 0)))
    rw [← hV'] at hG hB ⊢
    exact LCA x1 V.heap.size V' (mr1 _ V V' none r1 hG (fun k e => by cases e)) hB hg.size (hg.trans hG) (hSk _ _ _ hv hG (fun k e => by cases e))
 have LAO : ∀ (g1 : Nat) V, V.heap[g1]? = some (.cells #[y1] T1 (0, 0)) → w.heap.size ≤ g1 → w.grownBy V none → S V → wpL P md ops Q S Z (f + 5) (Lf false true false false false false) (Fr undef (.pointer (some ⟨g1, 0, none⟩)) undef undef) V := by
  intro g1 V b1 l1 hg hv
  refine ⟨fun h0 => absurd h0 (ne h_10.1), fun q hq => ?_⟩
  have hq2 := mem_of_all h_10.2 hq
  simp only [Bool.or_eq_true, beq_iff_eq] at hq2
  rcases hq2 with (rfl | rfl) | rfl
  ·
    refine (q1 (.pointer (some ⟨g1, 0, none⟩)) undef undef V hg).wpOp hi1 D1 (W1 _) fun x1 V' hR hG => ⟨fun _ => hSk _ _ _ hv hG (fun k e => by cases e), ?_⟩
    rw [t1, f1]
    exact LBO x1 g1 V' hR (heap_put b1 hG (by simp)) l1 (hg.trans hG) (hSk _ _ _ hv hG (fun k e => by cases e))
  ·
    refine (q2 undef (.pointer (some ⟨g1, 0, none⟩)) undef V hg).wpOp hi2 D4 (W4 _) fun x2 V' hR hG => ⟨fun _ => hSk _ _ _ hv hG (fun k e => by cases e), ?_⟩
    rw [t4, f3]
    exact LAC g1 x2 V' (heap_put b1 hG (by simp)) l1 hR (hg.trans hG) (hSk _ _ _ hv hG (fun k e => by cases e))
  ·
    refine wpOp_val hk2 D5 (W5 _) (p2 undef (.pointer (some ⟨g1, 0, none⟩)) undef V) ⟨fun _ => hSk _ _ _ hv (ga V _ none) (fun k e => by cases e), ?_⟩
    rw [t5, f4]
    have hG := ga V ((.cells #[y2] T2 (0, 0))) none
    obtain ⟨V', hV'⟩ : ∃ V', V' = V.alloc ((.cells #[y2] T2 (0, 0))) := ⟨_, rfl⟩
    have hB := heap_alloc_new V ((.cells #[y2] T2 (0, 0)))
    rw [← hV'] at hG hB ⊢
    exact LAA g1 V.heap.size V' (heap_put b1 hG (by simp)) l1 hB hg.size (by have := (Array.getElem?_eq_some_iff.1 b1).1; omega) (hg.trans hG) (hSk _ _ _ hv hG (fun k e => by cases e))
 have LOO : ∀  V, w.grownBy V none → S V → wpL P md ops Q S Z (f + 6) (Lf false false false false false false) (Fr undef undef undef undef) V := by
  intro V hg hv
  refine ⟨fun h0 => absurd h0 (ne h_0.1), fun q hq => ?_⟩
  have hq2 := mem_of_all h_0.2 hq
  simp only [Bool.or_eq_true, beq_iff_eq] at hq2
  rcases hq2 with ((rfl | rfl) | rfl) | rfl
  ·
    refine (q1 undef undef undef V hg).wpOp hi1 D1 (W1 _) fun x1 V' hR hG => ⟨fun _ => hSk _ _ _ hv hG (fun k e => by cases e), ?_⟩
    rw [t1, f1]
    exact LCO x1 V' hR (hg.trans hG) (hSk _ _ _ hv hG (fun k e => by cases e))
  ·
    refine wpOp_val hk1 D2 (W2 _) (p1 undef undef undef V) ⟨fun _ => hSk _ _ _ hv (ga V _ none) (fun k e => by cases e), ?_⟩
    rw [t2, f2]
    have hG := ga V ((.cells #[y1] T1 (0, 0))) none
    obtain ⟨V', hV'⟩ : ∃ V', V' = V.alloc ((.cells #[y1] T1 (0, 0))) := ⟨_, rfl⟩
    have hB := heap_alloc_new V ((.cells #[y1] T1 (0, 0)))
    rw [← hV'] at hG hB ⊢
    exact LAO V.heap.size V' hB hg.size (hg.trans hG) (hSk _ _ _ hv hG (fun k e => by cases e))
  ·
    refine (q2 undef undef undef V hg).wpOp hi2 D4 (W4 _) fun x2 V' hR hG => ⟨fun _ => hSk _ _ _ hv hG (fun k e => by cases e), ?_⟩
    rw [t4, f3]
    exact LOC x2 V' hR (hg.trans hG) (hSk _ _ _ hv hG (fun k e => by cases e))
  ·
    refine wpOp_val hk2 D5 (W5 _) (p2 undef undef undef V) ⟨fun _ => hSk _ _ _ hv (ga V _ none) (fun k e => by cases e), ?_⟩
    rw [t5, f4]
    have hG := ga V ((.cells #[y2] T2 (0, 0))) none
    obtain ⟨V', hV'⟩ : ∃ V', V' = V.alloc ((.cells #[y2] T2 (0, 0))) := ⟨_, rfl⟩
    have hB := heap_alloc_new V ((.cells #[y2] T2 (0, 0)))
    rw [← hV'] at hG hB ⊢
    exact LOA V.heap.size V' hB hg.size (hg.trans hG) (hSk _ _ _ hv hG (fun k e => by cases e))
 exact LOO w (World.grownBy.refl _ _) hS
end
end Go.Proofs.YtbbamgjdnibldaaGreat.Wl
