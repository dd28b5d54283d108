/- GramLevels' walk. -/
import Derived.Test.YtjcdkgjfecnkgaaGreatDoorMgK
import Derived.Test.YtjcdkgjfecnkgaaGreatDoorGuN
namespace Go.Proofs.YtjcdkgjfecnkgaaGreatDoor
open Go.RowKit Go.Maps Go.WideMaps

theorem hold_not {P : Program} {ops : Array Oper} {Q : Exit → Act → World → Prop} {d : Option Tmp} {t ty : TypeId} {x : Operand} {ps : String} {af : Array Edge} {g : Option (Nat × Bool)} {rest : List Oper} {a : Act} {w : World}
    (h : Hid (wpList P ops Q ({ dst := d, op := Op.unOp UnOp.not t x, type := ty, pos := ps, after := af, guard := g } :: rest) a w)) : wpList P ops Q ({ dst := d, op := Op.unOp UnOp.not t x, type := ty, pos := ps, after := af, guard := g } :: rest) a w := h
theorem hold_gen {P : Program} {ops : Array Oper} {Q : Exit → Act → World → Prop} {l : List Oper} {a : Act} {W0 : World} (F : World → Prop) (hF : F W0) (h : ∀ W, F W → wpList P ops Q l a W) : Hid (wpList P ops Q l a W0) := h W0 hF
theorem row_strings (w : World) (l : List (List UInt8)) (t : TypeId) (j : Nat) (h : j < l.length) :
    (w.alloc (.cells (l.map (fun k => Value.string ⟨k.toArray⟩)).toArray t)).cell? ⟨w.heap.size, j, none⟩ = some (.string ⟨((l[j]?).getD []).toArray⟩) := by
  rw [cell_of_row _ _ j _ _ _ (heap_alloc_new w _)]
  simp [h]
theorem row_ints (w : World) (o : Obj) (l : List Nat) (t : TypeId) (j : Nat) (h : j < l.length) :
    ((w.alloc o).alloc (.cells (l.map (fun (k : Nat) => Value.int .i64 (k : Int))).toArray t)).cell? ⟨w.heap.size + 1, j, none⟩ = some (.int .i64 (((l[j]?).getD 0 : Nat) : Int)) := by
  have e : w.heap.size + 1 = (w.alloc o).heap.size := by simp
  rw [e, cell_of_row _ _ j _ _ _ (heap_alloc_new _ _)]
  simp [h]

/-- the cells of a program of one node with one equation, whose expression has two parts -/
theorem two_cells {w : World} {B : Nat} {v : Value} {nm : Gram.B} {ins outs ls : List Gram.Var} {ns : List Gram.B} {f s : Int} {en : Gram.B} {tk tl n m : Int} {x y : Gram.Exp} {at1 : Int} {ss : List Gram.State} {at2 at3 : Int}
    (h : RepC w B [] (.l 49 6 (([⟨nm, ins, outs, ls, [.mk ns (.mk f s en tk tl n m [x, y] at1) ss at2], at3⟩] : List Gram.Node).map nodeD)) v) :
    ∃ g1 c1 g2 c2 g3 c3 a1 n1 m1 a2 n2 m2 xa xc ya yc, v = .slice (some ⟨g1, 0, none⟩) 1 c1 ∧ w.cell? ⟨g1, 4, none⟩ = some (.slice (some ⟨g2, 0, none⟩) 1 c2) ∧
      (w.cell? ⟨g2, 0, none⟩ = some (.slice a1 n1 m1) ∧ w.cell? ⟨g2, 1, none⟩ = some (.int .i64 f) ∧ w.cell? ⟨g2, 2, none⟩ = some (.int .i64 s) ∧ w.cell? ⟨g2, 3, none⟩ = some (.string ⟨en.toArray⟩) ∧ w.cell? ⟨g2, 4, none⟩ = some (.int .i64 tk) ∧ w.cell? ⟨g2, 5, none⟩ = some (.int .i64 tl) ∧ w.cell? ⟨g2, 6, none⟩ = some (.int .i64 n) ∧ w.cell? ⟨g2, 7, none⟩ = some (.int .i64 m) ∧ w.cell? ⟨g2, 8, none⟩ = some (.slice (some ⟨g3, 0, none⟩) 2 c3) ∧ w.cell? ⟨g2, 9, none⟩ = some (.int .i64 at1) ∧ w.cell? ⟨g2, 10, none⟩ = some (.slice a2 n2 m2) ∧ w.cell? ⟨g2, 11, none⟩ = some (.int .i64 at2)) ∧
      w.cell? ⟨g3, 2, none⟩ = some (.string ⟨x.name.toArray⟩) ∧ w.cell? ⟨g3, 7, none⟩ = some (.slice xa x.kids.length xc) ∧ w.cell? ⟨g3, 11, none⟩ = some (.string ⟨y.name.toArray⟩) ∧ w.cell? ⟨g3, 16, none⟩ = some (.slice ya y.kids.length yc) := by
  obtain ⟨g1, c1, rfl⟩ := h.lies (by simp)
  obtain ⟨vs, hv, hc⟩ := h.rowAt (rows_map nodeD_len _) 0 rfl
  obtain ⟨u1, rfl, h_1⟩ := RepRow.cInv hv
  obtain ⟨b1, m1, k1, u2, rfl, _, h_2⟩ := h_1.lInv
  obtain ⟨b2, m2, k2, u3, rfl, _, h_3⟩ := h_2.lInv
  obtain ⟨b3, m3, k3, u4, rfl, _, h_4⟩ := h_3.lInv
  obtain ⟨b4, m4, k4, u5, rfl, hI, h_5⟩ := h_4.lInv
  have e4 := hc 4 _ rfl
  clear hc h_1 h_2 h_3 h_4 h_5 hv
  rw [itemsD_map] at hI
  obtain ⟨g2, c2, e⟩ := hI.lies (by simp)
  rw [e] at e4 hI
  obtain ⟨vs, hv, hc⟩ := hI.rowAt (rows_map itemD_len _) 0 rfl
  simp only [itemD] at hv
  obtain ⟨a1, n1, d1, u1, rfl, _, h_1⟩ := hv.lInv
  obtain ⟨u, t, rfl, h1, h_2⟩ := RepRow.appInv h_1
  obtain ⟨a2, n2, d2, rfl, hk⟩ := expInv h1
  obtain ⟨a3, n3, d3, u3, rfl, _, h_3⟩ := h_2.lInv
  obtain ⟨u4, rfl, h_4⟩ := h_3.cInv
  obtain rfl := h_4.nInv
  obtain ⟨g3, c3, e3⟩ := RepC.lies hk (by simp [Gram.Exp.kids, expsD])
  rw [e3] at hc hk
  obtain ⟨vx, hvx, hc3⟩ := RepC.rowAt hk (by rw [expsD_map]; exact rows_map expD_len _) 0 rfl
  obtain ⟨vy, hvy, hc4⟩ := RepC.rowAt hk (by rw [expsD_map]; exact rows_map expD_len _) 1 rfl
  obtain ⟨a4, n4, d4, rfl, hk4⟩ := expInv hvx
  obtain ⟨a5, n5, d5, rfl, hk5⟩ := expInv hvy
  obtain ⟨xa, xc, ex⟩ := RepC.len hk4
  obtain ⟨ya, yc, ey⟩ := RepC.len hk5
  rw [expsD_map, List.length_map] at ex ey
  rw [ex] at hc3
  rw [ey] at hc4
  cases x with
  | mk xf xs xn xtk xtl xn2 xm xks xat =>
    cases y with
    | mk yf ys yn ytk ytl yn2 ym yks yat =>
      exact ⟨g1, c1, g2, c2, g3, c3, a1, n1, d1, a3, n3, d3, xa, xc, ya, yc, rfl, e4, ⟨hc 0 _ rfl, hc 1 _ rfl, hc 2 _ rfl, hc 3 _ rfl, hc 4 _ rfl, hc 5 _ rfl, hc 6 _ rfl, hc 7 _ rfl, hc 8 _ rfl, hc 9 _ rfl, hc 10 _ rfl, hc 11 _ rfl⟩, hc3 2 _ rfl, hc3 7 _ rfl, hc4 2 _ rfl, hc4 7 _ rfl⟩

namespace Gram
theorem two_form {r : Res} {a b : Exp} (h : twoKids r = some (a, b)) : ∃ nm ins outs ls ns f s en tk tl n m at1 ss at2 at3, r = .ok [⟨nm, ins, outs, ls, [.mk ns (.mk f s en tk tl n m [a, b] at1) ss at2], at3⟩] := by
  unfold twoKids at h
  split at h
  · cases h; exact ⟨_, _, _, _, _, _, _, _, _, _, _, _, _, _, _, _, rfl⟩
  · cases h
end Gram

end Go.Proofs.YtjcdkgjfecnkgaaGreatDoor
