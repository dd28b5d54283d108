/- show: Print at the document's example. -/
import Derived.Test.YtachmiajldeakaaGreatDoorShR
namespace Go.Proofs.YtachmiajldeakaaGreatDoor
open Go.RowKit Go.Maps Go.WideMaps

namespace Gram
def alX : Exp := .mk 7 0 [] 0 0 0 0 [.mk 1 0 [] 2 0 0 0 [] 38, .mk 4 3 [] 0 0 0 0 [.mk 6 0 [] 0 0 0 0 [.mk 2 0 [121] 0 0 0 0 [] 49] 45, .mk 2 0 [120] 0 0 0 0 [] 53] 45] 38
end Gram
theorem varD_5 (x : Gram.Var) : (varD x).length = 5 := rfl

/-- the example's node in memory -/
theorem alive_one {w : World} {B0 : Nat} {v : Value} (h : RepC w B0 [] (.l 45 6 ([Gram.alN].map nodeD)) v) :
    ∃ g1 c1 gi ci gu cu gt ct gn cn ia oa iN iC oN oC la lc ka kn kc sa sc, v = .slice (some ⟨g1, 0, none⟩) 1 c1 ∧
      (w.cell? ⟨g1, 0, none⟩ = some (.string ⟨#[102]⟩) ∧ w.cell? ⟨g1, 1, none⟩ = some (.slice (some ⟨gi, 0, none⟩) 1 ci) ∧ w.cell? ⟨g1, 2, none⟩ = some (.slice (some ⟨gu, 0, none⟩) 1 cu) ∧ w.cell? ⟨g1, 3, none⟩ = some (.slice la 0 lc) ∧ w.cell? ⟨g1, 4, none⟩ = some (.slice (some ⟨gt, 0, none⟩) 1 ct) ∧ w.cell? ⟨g1, 5, none⟩ = some (.int .i64 0)) ∧
      OneNode w B0 120 121 Gram.alX gi gu gt gn cn ia oa iN iC oN oC ka kn kc sa sc 7 23 34 := by
  obtain ⟨g1, c1, rfl⟩ := h.lies (by simp)
  obtain ⟨vs, hv, hc⟩ := h.rowAt (rows_map nodeD_len _) 0 rfl
  obtain ⟨u1, rfl, h_1⟩ := RepRow.cInv hv
  obtain ⟨b1, m1, k1, u2, rfl, hI, h_2⟩ := h_1.lInv
  obtain ⟨b2, m2, k2, u3, rfl, hO, h_3⟩ := h_2.lInv
  obtain ⟨b3, m3, k3, u4, rfl, hL, h_4⟩ := h_3.lInv
  obtain ⟨b4, m4, k4, u5, rfl, hT, h_5⟩ := h_4.lInv
  obtain ⟨u6, rfl, h_6⟩ := h_5.cInv
  obtain rfl := h_6.nInv
  clear h_1 h_2 h_3 h_4 h_5 h_6 hv
  obtain ⟨gi, ci, e⟩ := hI.lies (by simp [Gram.alN])
  cases e
  obtain ⟨gu, cu, e⟩ := hO.lies (by simp [Gram.alN])
  cases e
  obtain ⟨_, lc, e⟩ := hL.len
  cases e
  obtain ⟨vi, hvi, ri⟩ := hI.rowAt (rows_map varD_5 _) 0 rfl
  obtain ⟨ia, iN, iC, rfl⟩ := varInv hvi
  obtain ⟨vo, hvo, ro⟩ := hO.rowAt (rows_map varD_5 _) 0 rfl
  obtain ⟨oa, oN, oC, rfl⟩ := varInv hvo
  have hI2 : RepC w B0 [] (.l 41 12 (Gram.alN.items.map itemD)) (.slice b4 m4 k4) := by rw [← itemsD_map]; exact hT
  obtain ⟨gt, ct, e⟩ := hI2.lies (by simp [Gram.alN])
  cases e
  obtain ⟨vt, hvt, rt⟩ := hI2.rowAt (rows_map itemD_len _) 0 rfl
  simp only [itemD] at hvt
  obtain ⟨a1, n1, d1, u1, rfl, hN, h_1⟩ := hvt.lInv
  obtain ⟨u, t, rfl, h1, h_2⟩ := RepRow.appInv h_1
  have h1' := h1
  obtain ⟨ka, kn, kc, rfl, hk⟩ := expInv h1
  obtain ⟨sa, sn, sc, u3, rfl, hS, h_3⟩ := h_2.lInv
  obtain ⟨u4, rfl, h_4⟩ := h_3.cInv
  obtain rfl := h_4.nInv
  obtain ⟨_, _, e⟩ := hS.len
  cases e
  obtain ⟨gn, cn, e⟩ := hN.lies (by simp)
  cases e
  obtain ⟨vn, hvn, rn⟩ := hN.rowAt (rows_map (k := 1) (fun _ => rfl) _) 0 rfl
  obtain rfl := nameInv hvn
  refine ⟨g1, c1, gi, _, gu, _, gt, _, gn, d1, ia, oa, iN, iC, oN, oC, b3, _, ka, kn, kc, sa, sc, rfl, ⟨hc 0 _ rfl, hc 1 _ rfl, hc 2 _ rfl, hc 3 _ rfl, hc 4 _ rfl, hc 5 _ rfl⟩, ?_⟩
  refine ⟨ri 0 _ rfl, ri 1 _ rfl, ri 2 _ rfl, ri 3 _ rfl, ri 4 _ rfl, ro 0 _ rfl, ro 1 _ rfl, ro 2 _ rfl, ro 3 _ rfl, ro 4 _ rfl, rn 0 _ rfl, h1', ?_⟩
  intro j u hj
  have := rt j u hj
  rw [Nat.zero_mul, Nat.zero_add] at this
  exact this

/-- the example's text -/
def alT : List UInt8 := [110, 111, 100, 101, 32, 102, 40, 120, 58, 32, 105, 56, 41, 32, 114, 101, 116, 117, 114, 110, 115, 32, 40, 121, 58, 32, 105, 56, 41, 10, 108, 101, 116].append [10, 32, 121, 32, 61, 32, 40, 48, 105, 56, 32, 45, 62, 32, 40, 40, 112, 114, 101, 32, 121, 41, 32, 43, 32, 120, 41, 41, 59, 10, 116, 101, 108, 10]
theorem prints_al (w0 : World) (B0 b : Nat) (ht : Tab w0) : Prints w0 B0 b Gram.alX (40 :: (Lex.litL 2 0 ++ [32, 45, 62, 32] ++ (40 :: (([40, 112, 114, 101, 32] ++ [121] ++ [41]) ++ [32, 43, 32] ++ [120] ++ [41])) ++ [41])) :=
  prints_arrow (prints_lit w0 B0 b 2 0 38 (.inr ⟨by decide, by decide⟩) (by decide) (by decide) ht) (prints_sum (prints_pre (prints_var w0 B0 b [121] 49) 45) (prints_var w0 B0 b [120] 53) 45) 38
theorem lit0 : Lex.litL 2 0 = [48, 105, 56] := by
  unfold Lex.litL
  rw [if_neg (by decide), if_neg (by decide), if_neg (by decide), Lib.decDigits, dif_pos (by decide)]
  rfl
theorem alT_eq : nodeT 102 120 121 (40 :: (Lex.litL 2 0 ++ [32, 45, 62, 32] ++ (40 :: (([40, 112, 114, 101, 32] ++ [121] ++ [41]) ++ [32, 43, 32] ++ [120] ++ [41])) ++ [41])) = alT := by rw [lit0]; rfl

set_option maxHeartbeats 4000000 in
theorem print_al (w : World) (B0 : Nat) (v : Value) (h : RepC w B0 [] (.l 45 6 ([Gram.alN].map nodeD)) v) (ht : Tab w) :
    Calls Tryz.prog 11 #[.agg #[v]] w fun e w' => e = .returned (.string ⟨alT.toArray⟩) ∧ w.grownBy w' none := by
  obtain ⟨g1, c1, _, _, _, _, _, _, _, _, _, _, _, _, _, _, _, _, _, _, _, _, _, rfl, -⟩ := alive_one h
  obtain ⟨W1, hW1⟩ : ∃ W1, W1 = w.alloc (.cells #[.slice (some ⟨g1, 0, none⟩) 1 c1] 32) := ⟨_, rfl⟩
  have hg1 : w.grownBy W1 none := by rw [hW1]; exact World.grownBy_alloc w _ none
  have hs1 : W1.heap.size = w.heap.size + 1 := by rw [hW1]; exact World.size_alloc _ _
  have h1 := RepC.kept hg1 (fun k e => by cases e) h
  have ht1 := ht.grown hg1
  obtain ⟨g1', c1', gi, ci, gu, cu, gt, ct, gn, cn, ia, oa, iN, iC, oN, oC, la, lc, ka, kn, kc, sa, sc, e, ⟨n0, n1, n2, n3, n4, n5⟩, HN⟩ := alive_one h1
  cases e
  have hnd := fun (W : World) (hp : Pr W1.heap.size (W1.heap.size + 1) [] W) (hg : W1.grownBy W none) => node_one W1 B0 (W1.heap.size + 1) 102 120 121 Gram.alX _ gi ci gu cu gt ct gn cn ia oa iN iC oN oC la lc ka kn kc sa sc 7 23 34 0 W hp hg HN (prints_al W1 B0 (W1.heap.size + 1) ht1) (by rw [lit0]; simp)
  rw [alT_eq] at hnd
  have hane : alT ≠ [] := by simp [alT]
  obtain ⟨A, hA⟩ : ∃ A, A = alT := ⟨_, rfl⟩
  rw [← hA] at hnd hane ⊢
  clear hA
  have hN := newPrinter_any W1
  rw [hs1] at hN hnd
  have c0 : W1.cell? ⟨w.heap.size, 0, none⟩ = some (.slice (some ⟨g1, 0, none⟩) 1 c1) := by rw [hW1]; simp
  have HND := Lib.hid hnd
  have HG1 := Lib.hid (And.intro hg1 hs1)
  clear hnd HN h h1 ht ht1 hg1 hs1
  go_enter Tryz.func11, Tryz.ntmps11
  go_wp2_with (go_at_call 12; rw [← hW1]; refine hN.mono ?_; rintro e w2 ⟨rfl, h2, hg2⟩; refine Hid.out ?_)
  have d0 := hg2.cell c0 (by simp)
  have v0 := hg2.cell n0 (by simp)
  have v1 := hg2.cell n1 (by simp)
  have v2 := hg2.cell n2 (by simp)
  have v3 := hg2.cell n3 (by simp)
  have v4 := hg2.cell n4 (by simp)
  have v5 := hg2.cell n5 (by simp)
  have H2 := Lib.hid (And.intro h2 hg2)
  clear h2 hg2 n0 n1 n2 n3 n4 n5 c0 hN hW1
  refine Lib.hid ?_
  go_wp2
  go_loopw [10] (fun iv wr => (iv = .int .i64 0 ∧ wr = w2) ∨ (iv = .int .i64 1 ∧ Hid (Pr (w.heap.size + 1) ((w.heap.size + 1) + 1) A wr ∧ Kb (w.heap.size + 1) ((w.heap.size + 1) + 1) w2 wr))) (fun i _ => 1 - (intOf i).toNat)
  case atStart => exact .inl ⟨rfl, rfl⟩
  case round =>
    rcases hrel with ⟨rfl, hwr⟩ | ⟨rfl, H⟩
    · obtain rfl := hwr.symm
      go_wp2_with (go_at_call 25; refine (HND.out _ (H2.out.1.alloc _) (H2.out.2.trans (World.grownBy_alloc _ _ none))).mono ?_; rintro e w3 ⟨rfl, h3, k3⟩; refine Hid.out ?_)
      have HF := Lib.hid (And.intro h3 (((Kb.refl _ ((w.heap.size + 1) + 1) w2).alloc (by have := H2.out.2.size; have := HG1.out.2; omega) _).trans k3))
      clear h3 k3 v0 v1 v2 v3 v4 v5 d0
      refine Lib.hid ?_
      go_wp2
      exact ⟨.inr ⟨rfl, Lib.hid HF.out⟩, by simp [intOf]⟩
    · have hst := bstring_any _ _ _ wr H.out.1 hane
      clear v0 v1 v2 v3 v4 v5 d0
      go_wp2_with (go_at_call 14; refine hst.mono ?_; rintro e w4 ⟨rfl, k4⟩)
      go_ret
      exact ⟨rfl, grown_of_kb (HG1.out.1.trans H2.out.2) (Nat.le_succ _) (H.out.2.trans k4)⟩

end Go.Proofs.YtachmiajldeakaaGreatDoor
