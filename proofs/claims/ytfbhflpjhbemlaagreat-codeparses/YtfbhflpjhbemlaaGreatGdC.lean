/- Stage 19: bytes without the mark; code.Parse of bytes that are no code. -/
import Derived.Test.YtfbhflpjhbemlaaGreatGdB
namespace Go.Proofs.YtfbhflpjhbemlaaGreat
open Go.RowKit Go.Maps Go.WideMaps

theorem cvp (w : World) (g o cp : Nat) (p : List UInt8) (h : ∀ j b, p[j]? = some b → w.cell? ⟨g, o + j, none⟩ = some (.int .u8 b.toNat)) : (convert 22 9 (.slice (some ⟨g, o, none⟩) p.length cp)).run Tryz.prog w = .ok (.string ⟨p.toArray⟩) w :=
  run_convert_bytes_back (P := Tryz.prog) w 22 9 5 ⟨g, o, none⟩ cp p Tryz.underlying22 Tryz.underlying5 Tryz.underlying9 (fun j hj => by
    rw [Addr.add_mid]
    exact h j _ (List.getElem?_eq_getElem hj))
set_option maxHeartbeats 2000000 in
theorem cutPrefix_no (w : World) (a : Option Addr) (c G : Nat) (l : List UInt8) (hb : BytesAt w a l) (hc : l.length ≤ c) (hl : l.length ≤ 4000000) (hno : ¬ ∃ l1, l = Cd.magic ++ l1) (hG : ∀ j b, Cd.magic[j]? = some b → w.cell? ⟨G, 0 + j, none⟩ = some (.int .u8 b.toNat)) :
    Calls Tryz.prog 21 #[.slice a l.length c, .slice (some ⟨G, 0, none⟩) 4 4] w fun e w' => w' = w ∧ e = .returned (.tuple #[.slice a l.length c, .bool false]) := by
  have k2 := fun cp => cv4 w G 0 cp hG
  obtain ⟨L, hL⟩ : ∃ L, L = l.length := ⟨_, rfl⟩
  by_cases h4 : l.length < 4
  · rw [← hL] at hc hl h4 ⊢
    have q1 : ¬ (4 : Int) ≤ (L : Int) := by omega
    have d1 : decide ((4 : Int) ≤ (L : Int)) = false := by rw [decide_eq_false_iff_not]; exact q1
    clear hb hno hG hL
    go_enter Tryz.func21, Tryz.ntmps21
    go_wp2
    go_ret2
    exact ⟨rfl, rfl⟩
  · obtain ⟨p, hp⟩ : ∃ p, p = l.take 4 := ⟨_, rfl⟩
    have hpl : p.length = 4 := by rw [hp, List.length_take]; omega
    obtain ⟨x, t, hxt⟩ : ∃ x t, l = x :: t := by cases l with | nil => exact absurd (by simp) h4 | cons x t => exact ⟨x, t, rfl⟩
    obtain ⟨g, o, rfl, -⟩ := hb 0 x (by rw [hxt]; rfl)
    have k1 := fun cp => cvp w g o cp p (fun j b hj => by
      have hj4 : j < p.length := (List.getElem?_eq_some_iff.1 hj).1
      rw [hp, List.getElem?_take, if_pos (by omega)] at hj
      obtain ⟨g', o', e, h⟩ := hb j b hj
      cases e
      exact h)
    rw [hpl] at k1
    obtain ⟨z, hz⟩ : ∃ z : ByteArray, z = ⟨p.toArray⟩ := ⟨_, rfl⟩
    rw [← hz] at k1
    have e3 : (z.toList == [77, 84, 82, 49]) = false := by
      rw [hz, ByteArray.toList_mk, beq_eq_false_iff_ne]
      intro e
      exact hno ⟨l.drop 4, by rw [← List.take_append_drop 4 l, ← hp, e]; simp [Cd.magic]⟩
    rw [← hL] at hc hl h4 ⊢
    have q1 : (4 : Int) ≤ (L : Int) := by omega
    have d1 : decide ((4 : Int) ≤ (L : Int)) = true := by rw [decide_eq_true_iff]; exact q1
    clear hb hno hG hL hp hpl hz hxt
    go_enter Tryz.func21, Tryz.ntmps21
    go_wp2
    go_ret2
    exact ⟨rfl, rfl⟩
set_option maxHeartbeats 8000000 in
set_option maxRecDepth 100000 in
theorem codeOf_no (w : World) (l : List UInt8) (a : Option Addr) (cap : Nat) (hno : ¬ ∃ l1, l = Cd.magic ++ l1) (hb : BytesAt w a l) (hcap : l.length ≤ cap) (hl : l.length ≤ 4000000) :
    Calls Tryz.prog 12 #[.slice a l.length cap] w (BadP w) := by
  obtain ⟨W1, hW1⟩ : ∃ W1, W1 = w.alloc (.cells #[.slice none 0 0, .int .i64 0, .int .i64 0, .int .i64 0, .int .i64 0, .slice none 0 0, .slice none 0 0] 27) := ⟨_, rfl⟩
  have hz1 : W1.heap.size = w.heap.size + 1 := by rw [hW1, World.size_alloc]
  have hX1 : W1.heap[w.heap.size]? = some (.cells #[.slice none 0 0, .int .i64 0, .int .i64 0, .int .i64 0, .int .i64 0, .slice none 0 0, .slice none 0 0] 27 (0, 0)) := by rw [hW1]; exact heap_alloc_new w _
  obtain ⟨W2, hW2⟩ : ∃ W2, W2 = W1.alloc (.cells #[.int .u8 77, .int .u8 84, .int .u8 82, .int .u8 49] 5 (4, 5)) := ⟨_, rfl⟩
  have hg2 : w.grownBy W2 none := by rw [hW2, hW1]; exact (World.grownBy_alloc w _ none).trans (World.grownBy_alloc _ _ none)
  have hX2 : W2.heap[w.heap.size]? = some (.cells #[.slice none 0 0, .int .i64 0, .int .i64 0, .int .i64 0, .int .i64 0, .slice none 0 0, .slice none 0 0] 27 (0, 0)) := by rw [hW2]; exact row_alloc hX1 _
  have hcvt : (convert 22 22 (.slice (some ⟨w.heap.size + 1, 0, none⟩) 4 4)).run Tryz.prog (W1.alloc (.cells #[.int .u8 77, .int .u8 84, .int .u8 82, .int .u8 49] 5)) = .ok (.slice (some ⟨w.heap.size + 1, 0, none⟩) 4 4) W2 := by
    have := Lib.run_convert_bytes_const (P := Tryz.prog) W1 22 5 #[.int .u8 77, .int .u8 84, .int .u8 82, .int .u8 49] 4 4 Tryz.underlying22 Tryz.underlying5
    rw [hz1] at this
    rw [hW2]
    exact this
  have hG : ∀ j b, Cd.magic[j]? = some b → W2.cell? ⟨w.heap.size + 1, 0 + j, none⟩ = some (.int .u8 b.toNat) := fun j b hj => by
    have hr := heap_alloc_new W1 (.cells #[.int .u8 77, .int .u8 84, .int .u8 82, .int .u8 49] 5 (4, 5))
    rw [hz1, ← hW2] at hr
    unfold World.cell?
    rw [hr]
    have hi : j < 4 := (List.getElem?_eq_some_iff.1 hj).1
    rcases (show j = 0 ∨ j = 1 ∨ j = 2 ∨ j = 3 by omega) with rfl | rfl | rfl | rfl <;> (cases hj; rfl)
  have hb2 : BytesAt W2 a l := fun i b h => by
    obtain ⟨g, o, e, hc⟩ := hb i b h
    exact ⟨g, o, e, hg2.cell hc (by simp)⟩
  have hcut := cutPrefix_no W2 a cap (w.heap.size + 1) l hb2 hcap hl hno hG
  rw [hW1] at hcvt
  have HX2 := Lib.hid (And.intro hX2 hg2)
  have HZ2 : Hid (W2.heap.size = w.heap.size + 1 + 1) := Lib.hid (by rw [hW2, World.size_alloc, hz1])
  obtain ⟨LL, hLL⟩ : ∃ LL, LL = l.length := ⟨_, rfl⟩
  rw [← hLL] at hcut hcap hl ⊢
  clear hW1 hW2 hX1 hX2 hg2 hG hb2 hb hz1 hno hLL hcap hl
  go_enter Tryz.func12, Tryz.ntmps12
  go_wp2_with (first | (go_at_call 21; refine hcut.mono ?_; rintro e w' ⟨hw', rfl⟩; obtain rfl := hw'.symm; refine Hid.out ?_))
  refine Lib.hid ?_
  clear hcut hcvt
  have y0 := cell_of_row W2 _ 0 _ _ _ HX2.out.1
  have y1 := cell_of_row W2 _ 1 _ _ _ HX2.out.1
  have y2 := cell_of_row W2 _ 2 _ _ _ HX2.out.1
  have y3 := cell_of_row W2 _ 3 _ _ _ HX2.out.1
  have y4 := cell_of_row W2 _ 4 _ _ _ HX2.out.1
  have y5 := cell_of_row W2 _ 5 _ _ _ HX2.out.1
  have y6 := cell_of_row W2 _ 6 _ _ _ HX2.out.1
  go_wp2_with (with_reducible refine hold_st ?_)
  refine Lib.hid ?_
  refine store_rowL (t0 := 27) w.heap.size #[.slice none 0 0, .int .i64 0, .int .i64 0, .int .i64 0, .int .i64 0, .slice none 0 0, .slice none 0 0] #[.slice none 0 0, .int .i64 0, .int .i64 0, .int .i64 0, .int .i64 0, .slice none 0 0, .slice none 0 0] ?qhp1 ?qhv1 ?qhg1 ?qhi1 ?qho1 ?qh11 ?qhK1
  case qhp1 => rfl
  case qhv1 => rfl
  case qhg1 => exact HX2.out.1
  case qhi1 => kernel_rfl
  case qho1 => rfl
  case qh11 => simp [Value.oneCell']
  intro V' hV' hgV'
  have HE : Hid (BadP w (.returned (.tuple #[.agg #[.slice none 0 0, .int .i64 0, .int .i64 0, .int .i64 0, .int .i64 0, .slice none 0 0, .slice none 0 0], .bool false])) V') := Lib.hid ⟨Kp.grown HX2.out.2 (Kp.of hgV' [w.heap.size] (fun k e _ => by cases e; simp)) (fun k hk => by simp at hk; omega), none, 0, 0, 0, 0, 0, 0, none, 0, 0, none, 0, 0, rfl⟩
  have HB := Lib.hid hV'
  clear y0 y1 y2 y3 y4 y5 y6 hV' hgV'
  go_wp2
  exact bodyPost_ret (results_row_tmp rfl _ _ w.heap.size 27 _ (0, 0) _ (.bool false) rfl rfl HB.out Tryz.underlying27 rfl (by kernel_rfl)) rfl HE.out
end Go.Proofs.YtfbhflpjhbemlaaGreat
