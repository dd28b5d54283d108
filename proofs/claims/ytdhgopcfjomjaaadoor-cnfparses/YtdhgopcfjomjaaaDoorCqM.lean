/- cnf.Parse of a text that is right. -/
import Derived.Test.YtdhgopcfjomjaaaDoorCqL
namespace Go.Proofs.YtdhgopcfjomjaaaDoor
open Go.RowKit Go.Maps Go.WideMaps
open Go.Lib hiding intOf run_convert_string_bytes
open Cn (I64)

set_option maxRecDepth 100000 in
set_option maxHeartbeats 4000000 in
theorem parse_ok (w : World) (s : List UInt8) (vs : Int) (L : List (List Int)) (hF : Cn.formP s = (vs, L, [], false)) (hck : Cn.check ⟨vs, L⟩ = 0) (hl : s.length ≤ 2000000) (he : Errs w) (hlt : 1 < w.heap.size ∧ 2 < w.heap.size) :
    Calls Tryd.prog 23 #[.string ⟨s.toArray⟩] w fun e w' => ∃ (va : Option Addr) (c : Nat), e = .returned (.tuple #[.agg #[.int .i64 vs, .slice va L.length c], .int .i64 0, .int .i64 0]) ∧ RowsAt w' va L ∧ w.grownBy w' none := by
  obtain ⟨W2, hW2⟩ : ∃ W2, W2 = (w.alloc (.cells #[.int .i64 0, .slice none 0 0] 24)).alloc (.cells #[.string ⟨s.toArray⟩, .bool false] 70) := ⟨_, rfl⟩
  have hg2 : w.grownBy W2 none := by rw [hW2]; exact (World.grownBy_alloc _ _ none).trans (World.grownBy_alloc _ _ none)
  have ha := al2 w (.cells #[.int .i64 0, .slice none 0 0] 24) (.cells #[.string ⟨s.toArray⟩, .bool false] 70)
  rw [← hW2] at ha
  have hs2 : W2.heap.size = w.heap.size + 2 := by rw [hW2]; simp
  have hfm := formula_any W2 (w.heap.size + 1) s ha.2 hl (he.kp (Kp.of0 hg2 []) (fun k hk => by cases hk)) (by omega)
  rw [hF] at hfm
  simp only at hfm
  have hok := Cn.check_ok.1 hck
  have hwl := Cn.wt_len L
  have hm : L.length ≤ 140737488351232 := by have := hok.2.1; simp only at this; omega
  have hch := fun V (va : Option Addr) (c : Nat) (hr : RowsAt V va L) => check_any V ⟨vs, L⟩ va c hr hm
  rw [hck] at hch
  simp only at hch
  have e1 : decide ((2000000 : Int) < (s.length : Int)) = false := xF (by omega)
  have hs64 : s.length ≤ 9223372036854775807 := by omega
  have HA := Lib.hid (And.intro ha (And.intro hg2 (And.intro hs2 (And.intro hfm hch))))
  clear ha hg2 hs2 hfm hch hok hwl hm he hlt hl hF hck
  go_enter Tryd.func23, Tryd.ntmps23
  go_upto_region 4 with fail
  rw [← hW2]
  clear hW2
  go_upto_region 5 with (go_at_call 37; refine HA.out.2.2.2.1.mono ?_; rintro e w3 ⟨va, c, rfl, hc3, hr3, hd3, hk3⟩; have H3 := Lib.hid (And.intro hr3 (And.intro hd3 (And.intro hk3 hc3))); clear hr3 hd3 hk3 hc3)
  obtain ⟨W4, hW4⟩ : ∃ W4, W4 = w3.alloc (.cells #[.int .i64 vs, .slice va L.length c] 24) := ⟨_, rfl⟩
  have hg4 : w3.grownBy W4 none := by rw [hW4]; exact World.grownBy_alloc _ _ _
  have f4 : W4.heap[w3.heap.size]? = some (.cells #[.int .i64 vs, .slice va L.length c] 24 (0, 0)) := by rw [hW4]; exact heap_alloc_new _ _
  have hsz3 := H3.out.2.2.1.size
  have rs : W4.heap[w.heap.size]? = some (.cells #[.int .i64 0, .slice none 0 0] 24 (0, 0)) := (hg4.block _ (by have := HA.out.2.2.1; omega) (by simp)).trans ((H3.out.2.2.1.block _ (by have := HA.out.2.2.1; omega) (by simp)).trans HA.out.1.1)
  have b1 : W4.cell? ⟨w.heap.size + 1, 1, none⟩ = some (.bool false) := (H3.out.2.1.on hg4).c1
  have c0 : W4.cell? ⟨w3.heap.size, 0, none⟩ = some (.int .i64 vs) := cell_of_row _ _ 0 _ _ _ f4
  have c1 : W4.cell? ⟨w3.heap.size, 1, none⟩ = some (.slice va L.length c) := cell_of_row _ _ 1 _ _ _ f4
  have hr4 : RowsAt W4 va L := H3.out.1.to.on hg4
  have HC := Lib.hid (HA.out.2.2.2.2 W4 va c hr4)
  have HG := Lib.hid (And.intro rs (And.intro f4 (And.intro hr4 (show w.grownBy W4 none from Kp.grown HA.out.2.1 (H3.out.2.2.1.trans (Kp.of0 hg4 _)) (fun k hk => by simp at hk; omega)))))
  rw [← hW4]
  have H34 := Lib.hid hg4
  clear hW4 hg4 rs f4 hr4 hsz3
  go_wp2_with (go_at_call 10; refine HC.out.mono ?_; rintro e w5 ⟨rfl, hg5⟩; have r5 := (hg5.block _ (gl HG.out.1) (by simp)).trans HG.out.1; have t0 := cell_of_row _ _ 0 _ _ _ r5; have t1 := cell_of_row _ _ 1 _ _ _ r5; have d0 := frozen_of_row _ _ 0 _ _ r5; have d1 := frozen_of_row _ _ 1 _ _ r5; have f5 := (hg5.block _ (gl HG.out.2.1) (by simp)).trans HG.out.2.1; have x0 := cell_of_row _ _ 0 _ _ _ f5; have x1 := cell_of_row _ _ 1 _ _ _ f5; have H5 := Lib.hid (And.intro hg5 r5); clear hg5 r5 f5)
  obtain ⟨Wf, hWf⟩ : ∃ Wf, Wf = (w5.setCell ⟨w.heap.size, 0, none⟩ (.int .i64 vs)).setCell ⟨w.heap.size, 1, none⟩ (.slice va L.length c) := ⟨_, rfl⟩
  have p1 : Wf.heap[w.heap.size]? = some (.cells #[.int .i64 vs, .slice va L.length c] 24 (0, 0)) := by
    rw [hWf]
    exact heap_setCell_same _ _ 1 _ _ _ (heap_setCell_same _ _ 0 _ _ _ H5.out.2)
  have y0 : Wf.cell? ⟨w.heap.size, 0, none⟩ = some (.int .i64 vs) := cell_of_row _ _ 0 _ _ _ p1
  have y1 : Wf.cell? ⟨w.heap.size, 1, none⟩ = some (.slice va L.length c) := cell_of_row _ _ 1 _ _ _ p1
  have hkf : Kp [w.heap.size] w5 Wf := by rw [hWf]; exact ((Kp.refl _ w5).set (by simp) _).set (by simp) _
  have hrf : RowsAt Wf va L := fun i l hi => by
    obtain ⟨b, o, ra, rc, e, hb, h1, _, h2, h3⟩ := H3.out.1 i l hi
    have hsz := HA.out.2.2.1
    have hg35 : w3.grownBy w5 none := H34.out.trans H5.out.1
    have hkp : ∀ k, W2.heap.size ≤ k → k < w3.heap.size → Wf.heap[k]? = w3.heap[k]? := fun k hk1 hk2 => (hkf.block k (Nat.lt_of_lt_of_le hk2 hg35.size) (by simp; omega)).trans (hg35.block k hk2 (by simp))
    refine ⟨b, o, ra, rc, e, (cell_of_block (hkp b hb (lt_of_some h1))).trans h1, fun j y hj => ?_, h3⟩
    obtain ⟨b2, o2, e2, hb2, h4, _⟩ := h2 j y hj
    exact ⟨b2, o2, e2, (cell_of_block (hkp b2 hb2 (lt_of_some h4))).trans h4⟩
  have HF : Hid (∃ (va' : Option Addr) (c' : Nat), Ending.returned (.tuple #[.agg #[.int .i64 vs, .slice va L.length c], .int .i64 0, .int .i64 0]) = .returned (.tuple #[.agg #[.int .i64 vs, .slice va' L.length c'], .int .i64 0, .int .i64 0]) ∧ RowsAt Wf va' L ∧ w.grownBy Wf none) := Lib.hid ⟨va, c, rfl, hrf, Kp.grown (HG.out.2.2.2.trans H5.out.1) hkf (fun k hk => by simp at hk; omega)⟩
  rw [← hWf]
  clear hWf p1 hkf hrf t0 t1 d0 d1 x0 x1 c0 c1 b1
  refine bodyPost_ret (v := .tuple #[.agg #[.int .i64 vs, .slice va L.length c], .int .i64 0, .int .i64 0]) ?_ rfl HF.out
  simp [results, Tryd.results23, go_sem, y0, y1]
end Go.Proofs.YtdhgopcfjomjaaaDoor
