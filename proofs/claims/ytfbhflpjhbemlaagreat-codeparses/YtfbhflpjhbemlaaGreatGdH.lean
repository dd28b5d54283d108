/- Stage 19: metronomeref19.Parse (written by mkgdh.py). -/
import Derived.Test.YtfbhflpjhbemlaaGreatGdI
namespace Go.Proofs.YtfbhflpjhbemlaaGreat
open Go.RowKit Go.Maps Go.WideMaps

/-- what the document's Parse answers -/
def RpP (w : World) (l : List UInt8) (e : Ending) (w' : World) : Prop := w.grownBy w' none ∧ ((NoC l ∧ e = .returned (.tuple #[.agg #[.slice none 0 0, .int .i64 0, .int .i64 0, .int .i64 0, .int .i64 0, .slice none 0 0, .slice none 0 0], .int .i64 50])) ∨ ∃ c ka kc ia ic ba bc, I64s c ∧ Cd.check c = 0 ∧ Cd.write c = l ∧ e = .returned (.tuple #[.agg (codeV c ka kc ia ic ba bc), .int .i64 0]) ∧ CodeAt w' c ka ia ba)
theorem noC_magic {l : List UInt8} (h : l.take 4 ≠ Cd.magic) : NoC l := fun c _ _ e => h (by rw [← e]; rfl)
theorem noC_short {l : List UInt8} (h : l.length < 4) : NoC l := noC_magic (fun e => by have := congrArg List.length e; rw [List.length_take] at this; simp [Cd.magic] at this; omega)
theorem noC_head {l : List UInt8} (h : (Cd.rl 5 (l.drop 4)).2.2 = true) : NoC l := fun c h1 h2 e => by
  obtain ⟨R1, R2, R3, R4, e0, e1, -⟩ := Cd.read_write h1 h2
  rw [e] at e1
  rw [e1] at h
  cases h
theorem own5 {w : World} {B : Nat} {v : Value} {n : Nat} {xs : List Int} (h : w.ownsRow B 3 1 v n (xs.map (Value.int .i64))) (hn : 0 < n) : ∃ g c, v = .slice (some ⟨g, 0, none⟩) n c ∧ B ≤ g ∧ g < w.heap.size ∧ ∀ i x, xs[i]? = some x → w.cell? ⟨g, i, none⟩ = some (.int .i64 x) := by
  rcases h.2 with ⟨_, h0⟩ | ⟨g, cp, cur, e, hb, hg, _⟩
  · omega
  · refine ⟨g, cp, e, hb, gl hg, fun i x hx => ?_⟩
    have := h.cells (g := g) (by rw [e]; rfl) i (.int .i64 x) (by rw [List.getElem?_map, hx]; rfl)
    rwa [addr_at, Nat.zero_add] at this
set_option maxHeartbeats 16000000 in
set_option maxRecDepth 100000 in
theorem rparse_any (w : World) (l : List UInt8) (a : Option Addr) (cap : Nat) (hb : BytesAt w a l) (hcap : l.length ≤ cap) (hl : l.length ≤ 4000000) :
    Calls Tryz.prog 6 #[.slice a l.length cap] w (RpP w l) := by
  obtain ⟨W1, hW1⟩ : ∃ W1, W1 = w.alloc (.cells #[.slice none 0 0, .int .i64 0, .int .i64 0, .int .i64 0, .int .i64 0, .slice none 0 0, .slice none 0 0] 27) := ⟨_, rfl⟩
  have hz1 : W1.heap.size = w.heap.size + 1 := by rw [hW1, World.size_alloc]
  have hX1 : W1.heap[w.heap.size]? = some (.cells #[.slice none 0 0, .int .i64 0, .int .i64 0, .int .i64 0, .int .i64 0, .slice none 0 0, .slice none 0 0] 27 (0, 0)) := by rw [hW1]; exact heap_alloc_new w _
  have hg1 : w.grownBy W1 none := by rw [hW1]; exact World.grownBy_alloc w _ none
  have hb1 : BytesAt W1 a l := fun i b h => by
    obtain ⟨g, o, e, hc⟩ := hb i b h
    exact ⟨g, o, e, hg1.cell hc (by simp)⟩
  have hga : ∀ g o, a = some ⟨g, o, none⟩ → l ≠ [] → g < w.heap.size := fun g o e hne => by
    obtain ⟨x, t, hxt⟩ : ∃ x t, l = x :: t := by cases l with | nil => exact absurd rfl hne | cons x t => exact ⟨x, t, rfl⟩
    obtain ⟨g2, o2, e2, hc⟩ := hb 0 x (by rw [hxt]; rfl)
    rw [e] at e2
    cases e2
    exact lt_of_cell? hc
  obtain ⟨L, hL⟩ : ∃ L, L = l.length := ⟨_, rfl⟩
  have e1 : decide ((4000000 : Int) < (L : Int)) = false := by rw [decide_eq_false_iff_not]; omega
  by_cases h4 : l.length < 4
  · have HNO := Lib.hid (noC_short h4)
    rw [← hL] at h4 ⊢
    have q1 : (L : Int) < 4 := by omega
    have e2 : decide ((L : Int) < 4) = true := by rw [decide_eq_true_iff]; exact q1
    have HX := Lib.hid (And.intro hX1 hg1)
    have HW1 := Lib.hid hW1
    clear hX1 hg1 hb1 hga hL hb hcap hl h4 hz1
    go_enter Tryz.func6, Tryz.ntmps6
    go_upto_region 3 with fail
    rw [← HW1.out]
    clear hW1
    go_wp2_with (with_reducible refine hold_st ?_)
    refine Lib.hid ?_
    refine store_rowL (t0 := 27) w.heap.size #[.slice none 0 0, .int .i64 0, .int .i64 0, .int .i64 0, .int .i64 0, .slice none 0 0, .slice none 0 0] #[.slice none 0 0, .int .i64 0, .int .i64 0, .int .i64 0, .int .i64 0, .slice none 0 0, .slice none 0 0] ?qhp1 ?qhv1 ?qhg1 ?qhi1 ?qho1 ?qh11 ?qhK1
    case qhp1 => rfl
    case qhv1 => rfl
    case qhg1 => exact HX.out.1
    case qhi1 => kernel_rfl
    case qho1 => rfl
    case qh11 => simp [Value.oneCell']
    intro V hV hgV
    have HE : Hid (w.grownBy V none) := Lib.hid (Kp.grown HX.out.2 (Kp.of hgV [w.heap.size] (fun k e _ => by cases e; simp)) (fun k hk => by simp at hk; omega))
    have HB := Lib.hid hV
    clear hV hgV
    go_wp2
    exact bodyPost_ret (results_row_tmp rfl _ _ w.heap.size 27 _ (0, 0) _ (.int .i64 50) rfl rfl HB.out Tryz.underlying27 rfl (by kernel_rfl)) rfl ⟨HE.out, .inl ⟨HNO.out, rfl⟩⟩
  obtain ⟨p, hp⟩ : ∃ p, p = l.take 4 := ⟨_, rfl⟩
  have hpl : p.length = 4 := by rw [hp, List.length_take]; omega
  obtain ⟨x0, t0, hxt⟩ : ∃ x t, l = x :: t := by cases l with | nil => exact absurd (by simp) h4 | cons x t => exact ⟨x, t, rfl⟩
  obtain ⟨g0, o0, rfl, -⟩ := hb1 0 x0 (by rw [hxt]; rfl)
  have k1 := fun cp => cvp W1 g0 o0 cp p (fun j b hj => by
    have hj4 : j < p.length := (List.getElem?_eq_some_iff.1 hj).1
    rw [hp, List.getElem?_take, if_pos (by omega)] at hj
    obtain ⟨g', o', e, h⟩ := hb1 j b hj
    cases e
    exact h)
  rw [hpl] at k1
  obtain ⟨z, hz⟩ : ∃ z : ByteArray, z = ⟨p.toArray⟩ := ⟨_, rfl⟩
  rw [← hz] at k1
  have hzl : z.toList = p := by rw [hz, ByteArray.toList_mk]
  have q1 : ¬ (L : Int) < 4 := by omega
  have e2 : decide ((L : Int) < 4) = false := by rw [decide_eq_false_iff_not]; exact q1
  have q2 : (4 : Int) ≤ (cap : Int) := by omega
  by_cases hmag : p = Cd.magic
  · have e3 : (z.toList == [77, 84, 82, 49]) = true := by rw [hzl, hmag]; rfl
    have hlne : l ≠ [] := by rw [hxt]; simp
    have hg0w := hga g0 o0 rfl hlne
    obtain ⟨W2, hW2⟩ : ∃ W2, W2 = W1.alloc (.cells #[.slice (some ⟨g0, o0, none⟩) L cap, .int .i64 4, .bool false] 46) := ⟨_, rfl⟩
    have hg2 : W1.grownBy W2 none := by rw [hW2]; exact World.grownBy_alloc _ _ none
    have hrx : Rx W2 (w.heap.size + 1) (some ⟨g0, o0, none⟩) cap l 4 false := ⟨by rw [hW2, ← hL, ← hz1]; exact heap_alloc_new _ _, by omega, fun i b h => by
      obtain ⟨g, o, e, hc⟩ := hb1 i b h
      exact ⟨g, o, e, hg2.cell hc (by simp)⟩, fun g o e => by cases e; omega⟩
    have hz2 : W2.heap.size = w.heap.size + 2 := by rw [hW2, World.size_alloc, hz1]
    have hlist := rlist_any W2 (w.heap.size + 1) (some ⟨g0, o0, none⟩) cap l 4 5 ⟨by omega, by omega⟩ hrx hl
    obtain ⟨T1, hT1⟩ : ∃ T1, T1 = Cd.rl 5 (l.drop 4) := ⟨_, rfl⟩
    have hT1' : Cd.rl (5 : Int).toNat (l.drop 4) = T1 := hT1.symm
    rw [hT1'] at hlist
    have HX2 := Lib.hid (And.intro ((hg2.block _ (gl hX1) (by simp)).trans hX1) (And.intro (hg1.trans hg2) hz2))
    have HW1 := Lib.hid hW1
    have HW2 := Lib.hid hW2
    have HLL := Lib.hid (And.intro hL (And.intro hl (And.intro hT1 (And.intro hg0w hlne))))
    clear hz hX1 hg1 hb1 hga hb hl h4 hp hpl hxt hzl hmag hg2 hrx hT1 hT1' hg0w hlne
    rw [← hL]
    clear hL
    unfold RlP at hlist
    have HLI := Lib.hid hlist
    go_enter Tryz.func6, Tryz.ntmps6
    go_upto_region 3 with fail
    rw [← HW1.out]
    clear hW1 hW2
    go_upto_region 6 with fail
    rw [← HW2.out]
    clear hz1 k1 hlist
    have hlist := HLI.out
    go_upto_region 7 with (go_at_call 13; refine hlist.mono ?_; rintro e w3 ⟨hk3, v3, rfl, ho3, q3, hr3, hd3⟩; have H3 := Lib.hid (And.intro hk3 (And.intro ho3 (And.intro hr3 hd3))); clear hk3 ho3 hr3 hd3)
    clear hlist HLI
    have hr3 := H3.out.2.2.1
    have c2 := hr3.c2
    have hx3 := (H3.out.1.block _ (gl HX2.out.1) (by simp)).trans HX2.out.1
    have hg3 := Kp.grown HX2.out.2.1 H3.out.1 (fun k hk => by simp at hk; omega)
    have HX3 := Lib.hid (And.intro hx3 hg3)
    cases hb1 : T1.2.2 with
    | true =>
      have HNO := Lib.hid (noC_head (l := l) (by rw [← HLL.out.2.2.1]; exact hb1))
      rw [hb1] at c2
      clear hr3 hx3 hg3 hb1
      go_wp2_with (with_reducible refine hold_st ?_)
      refine Lib.hid ?_
      refine store_rowL (t0 := 27) w.heap.size #[.slice none 0 0, .int .i64 0, .int .i64 0, .int .i64 0, .int .i64 0, .slice none 0 0, .slice none 0 0] #[.slice none 0 0, .int .i64 0, .int .i64 0, .int .i64 0, .int .i64 0, .slice none 0 0, .slice none 0 0] ?qhp2 ?qhv2 ?qhg2 ?qhi2 ?qho2 ?qh12 ?qhK2
      case qhp2 => rfl
      case qhv2 => rfl
      case qhg2 => exact HX3.out.1
      case qhi2 => kernel_rfl
      case qho2 => rfl
      case qh12 => simp [Value.oneCell']
      intro V hV hgV
      have HE : Hid (w.grownBy V none) := Lib.hid (Kp.grown HX3.out.2 (Kp.of hgV [w.heap.size] (fun k e _ => by cases e; simp)) (fun k hk => by simp at hk; omega))
      have HB := Lib.hid hV
      clear hV hgV
      go_wp2
      exact bodyPost_ret (results_row_tmp rfl _ _ w.heap.size 27 _ (0, 0) _ (.int .i64 50) rfl rfl HB.out Tryz.underlying27 rfl (by kernel_rfl)) rfl ⟨HE.out, .inl ⟨HNO.out, rfl⟩⟩
    | false =>
      rw [hb1] at c2
      have hfull := Cd.rl_full 5 (l.drop 4) (by rw [← HLL.out.2.2.1]; exact hb1)
      rw [← HLL.out.2.2.1] at hfull
      obtain ⟨h0, x1, x2, x3, x4, hT⟩ : ∃ h0 x1 x2 x3 x4, T1.1 = [h0, x1, x2, x3, x4] := by
        match hq : T1.1, hfull with
        | [h0, x1, x2, x3, x4], _ => exact ⟨h0, x1, x2, x3, x4, rfl⟩
      have ho3 := H3.out.2.1
      rw [hT] at ho3
      obtain ⟨g, c5, rfl, hgB, hgl, hgc⟩ := own5 ho3 (by simp)
      have hx64 : ∀ n ∈ [h0, x1, x2, x3, x4], Cd.I64 n := fun n hn => Cd.rl_64 5 (l.drop 4) n (by rw [← HLL.out.2.2.1, hT]; exact hn)
      rw [hb1] at hr3
      have HH := Lib.hid (And.intro hgB (And.intro hgl (And.intro hgc (And.intro hx64 (And.intro hr3 (And.intro hT hb1))))))
      clear hfull hT ho3 hgB hgl hgc hx64 hr3 hb1 hx3 hg3
      go_upto_region 9 with fail
      clear c2
      refine wp_region_L (S := fun V => w3.grownBy V none) (Z := []) (by kernel_rfl) ?_
      refine wpL_as fun W hW => ?_
      have hS : w3.grownBy W none := by rw [hW]; exact gdrewK w3 1 none
      have hWs : W.heap.size = w3.heap.size := by rw [hW]; rfl
      clear hW
      (try simp only [Act.put, sA, sB, sC])
      refine t1 0 35 (.slice (some ⟨g, 0, none⟩) 5 c5) hS ?_
      (try simp only [Act.put, sA, sB, sC])
      refine t2 1 36 (.pointer (some ⟨g, 1, none⟩)) (fun w' hw' => ?_) hS ?_
      · clear hw' hS
        go_simp
      (try simp only [Act.put, sA, sB, sC])
      refine t2 2 37 (.int .i64 x1) (fun w' hw' => ?_) hS ?_
      · have cc := World.grownBy.cell hw' (HH.out.2.2.1 1 x1 rfl) (by simp)
        clear hw' hS
        go_simp
      (try simp only [Act.put, sA, sB, sC])
      refine t1 3 38 (.slice (some ⟨g, 0, none⟩) 5 c5) hS ?_
      (try simp only [Act.put, sA, sB, sC])
      refine t2 4 39 (.pointer (some ⟨g, 2, none⟩)) (fun w' hw' => ?_) hS ?_
      · clear hw' hS
        go_simp
      (try simp only [Act.put, sA, sB, sC])
      refine t2 5 40 (.int .i64 x2) (fun w' hw' => ?_) hS ?_
      · have cc := World.grownBy.cell hw' (HH.out.2.2.1 2 x2 rfl) (by simp)
        clear hw' hS
        go_simp
      (try simp only [Act.put, sA, sB, sC])
      refine t1 6 41 (.slice (some ⟨g, 0, none⟩) 5 c5) hS ?_
      (try simp only [Act.put, sA, sB, sC])
      refine t2 7 42 (.pointer (some ⟨g, 3, none⟩)) (fun w' hw' => ?_) hS ?_
      · clear hw' hS
        go_simp
      (try simp only [Act.put, sA, sB, sC])
      refine t2 8 43 (.int .i64 x3) (fun w' hw' => ?_) hS ?_
      · have cc := World.grownBy.cell hw' (HH.out.2.2.1 3 x3 rfl) (by simp)
        clear hw' hS
        go_simp
      (try simp only [Act.put, sA, sB, sC])
      refine t1 9 44 (.slice (some ⟨g, 0, none⟩) 5 c5) hS ?_
      (try simp only [Act.put, sA, sB, sC])
      refine t2 10 45 (.pointer (some ⟨g, 4, none⟩)) (fun w' hw' => ?_) hS ?_
      · clear hw' hS
        go_simp
      (try simp only [Act.put, sA, sB, sC])
      refine t2 11 46 (.int .i64 x4) (fun w' hw' => ?_) hS ?_
      · have cc := World.grownBy.cell hw' (HH.out.2.2.1 4 x4 rfl) (by simp)
        clear hw' hS
        go_simp
      (try simp only [Act.put, sA, sB, sC])
      refine t1 12 47 (.agg #[.slice none 0 0, .int .i64 x1, .int .i64 x2, .int .i64 x3, .int .i64 x4, .slice none 0 0, .slice none 0 0]) hS ?_
      (try simp only [Act.put, sA, sB, sC])
      refine wpL_val (i := 13) (d := 6) (v := .pointer (some ⟨W.heap.size, 0, none⟩)) (w' := W.alloc (.cells #[.slice none 0 0, .int .i64 0, .int .i64 0, .int .i64 0, .int .i64 0, .slice none 0 0, .slice none 0 0] 27)) (by kernel_rfl) rfl rfl (by kernel_rfl) (by kernel_rfl) (hS.trans (World.grownBy_alloc _ _ none)) ?_
      (try simp only [Act.put, sA, sB, sC])
      rw [hWs]
      have hnr := heap_alloc_new W (.cells #[.slice none 0 0, .int .i64 0, .int .i64 0, .int .i64 0, .int .i64 0, .slice none 0 0, .slice none 0 0] 27)
      rw [hWs] at hnr
      refine wpL_store (i := 14) w3.heap.size #[.slice none 0 0, .int .i64 x1, .int .i64 x2, .int .i64 x3, .int .i64 x4, .slice none 0 0, .slice none 0 0] #[.slice none 0 0, .int .i64 0, .int .i64 0, .int .i64 0, .int .i64 0, .slice none 0 0, .slice none 0 0] 27 27 (.tmp 6) (.tmp 47) (by kernel_rfl) rfl (by kernel_rfl) rfl rfl rfl rfl hnr (by kernel_rfl) rfl (by simp [Value.oneCell']) (fun V hbV hgV => and2 ?_ (fun hSV => ?_))
      · exact Kp.grown (hS.trans (World.grownBy_alloc _ _ none)) (Kp.of hgV [w3.heap.size] (fun k e _ => by cases e; simp)) (fun k hk => by simp at hk; omega)
      refine wpL_done (by kernel_rfl) ?_ _
      have H4 := Lib.hid (And.intro hSV hbV)
      obtain ⟨C, hC⟩ : ∃ C, C = w3.heap.size := ⟨_, rfl⟩
      have hP4 : Ps w V (w.heap.size + 1) C g (some ⟨g0, o0, none⟩) cap l q3 false [h0, x1, x2, x3, x4] #[.slice none 0 0, .int .i64 x1, .int .i64 x2, .int .i64 x3, .int .i64 x4, .slice none 0 0, .slice none 0 0] := by
        rw [hC]
        have hs := H4.out.1
        exact ⟨HX3.out.2.trans hs, (hs.block _ (gl HX3.out.1) (by simp)).trans HX3.out.1, HH.out.2.2.2.2.1.on hs, fun i x hx => hs.cell (HH.out.2.2.1 i x hx) (by simp), H4.out.2, by have := HH.out.1; have := HX2.out.2.2; have := HH.out.2.1; omega, fun g' o' e _ => by cases e; exact HLL.out.2.2.2.1⟩
      rw [← hC]
      have HP4 := Lib.hid hP4
      have c0 := hP4.hc 0 h0 rfl
      obtain ⟨T2, hT2⟩ : ∃ T2, T2 = Cd.rlB false h0.toNat (l.drop q3) := ⟨_, rfl⟩
      have hl2 := rlistB_any V (w.heap.size + 1) (some ⟨g0, o0, none⟩) cap l q3 false h0 (HH.out.2.2.2.1 h0 (by simp)) hP4.rx HLL.out.2.1
      rw [← hT2] at hl2
      unfold RlP at hl2
      have HT2 := Lib.hid hT2
      have HCC := Lib.hid hC
      clear hS hWs hnr hbV hgV hSV hC hP4 hT2
      go_upto_region 11 with (go_at_call 13; refine hl2.mono ?_; rintro e w5 ⟨hk5, v5, rfl, ho5, q5, hr5, hd5⟩; obtain ⟨ka, kc, hv5⟩ := own_form ho5; subst hv5; have hP5 := HP4.out.rd hk5 hr5; have y0 := cell_of_row w5 C 0 _ _ _ hP5.cr; have f0 : w5.frozen? ⟨C, 0, none⟩ = false := (by simp [World.frozen?, hP5.cr]); have H5 := Lib.hid (And.intro hP5 (And.intro ho5 hd5)); clear hk5 hr5 hP5 ho5 hd5)
      obtain ⟨K, hK⟩ : ∃ K, K = T2.1.length := ⟨_, rfl⟩
      rw [← hK]
      obtain ⟨W5, hW5⟩ : ∃ W5, W5 = w5.setCell ⟨C, 0, none⟩ (.slice ka K kc) := ⟨_, rfl⟩
      have hP5 : Ps w W5 (w.heap.size + 1) C g (some ⟨g0, o0, none⟩) cap l q5 T2.2.2 [h0, x1, x2, x3, x4] #[.slice ka K kc, .int .i64 x1, .int .i64 x2, .int .i64 x3, .int .i64 x4, .slice none 0 0, .slice none 0 0] := by rw [hW5]; exact H5.out.1.set 0 (.slice ka K kc)
      have hkv : W5.ownsRow (C + 1) 3 1 (.slice ka K kc) K (T2.1.map (Value.int .i64)) := by
        have h1 := H5.out.2.1
        rw [← hK] at h1
        have h2 : C + 1 ≤ V.heap.size := gl HP4.out.cr
        rw [hW5]
        exact own_kp (owns_base h1 h2) ((Kp.refl [C] w5).set (by simp) _) (fun x hx => by simp at hx; omega)
      have HP5 := Lib.hid hP5
      have HKV := Lib.hid (And.intro hkv (And.intro hK H5.out.2.2))
      have c3 := hP5.hc 3 x3 rfl
      obtain ⟨T3, hT3⟩ : ∃ T3, T3 = Cd.rlB T2.2.2 x3.toNat (l.drop q5) := ⟨_, rfl⟩
      have hl3 := rlistB_any W5 (w.heap.size + 1) (some ⟨g0, o0, none⟩) cap l q5 T2.2.2 x3 (HH.out.2.2.2.1 x3 (by simp)) hP5.rx HLL.out.2.1
      rw [← hT3] at hl3
      unfold RlP at hl3
      have HT3 := Lib.hid hT3
      rw [← hW5]
      clear hl2 c0 y0 f0 hP5 hkv hT3 hW5 hK
      go_upto_region 12 with (go_at_call 13; refine hl3.mono ?_; rintro e w6 ⟨hk6, v6, rfl, ho6, q6, hr6, hd6⟩; obtain ⟨ia, ic, hv6⟩ := own_form ho6; subst hv6; have hP6 := HP5.out.rd hk6 hr6; have y5 := cell_of_row w6 C 5 _ _ _ hP6.cr; have f5 : w6.frozen? ⟨C, 5, none⟩ = false := (by simp [World.frozen?, hP6.cr]); have H6 := Lib.hid (And.intro hP6 (And.intro ho6 (And.intro hd6 hk6))); clear hk6 hr6 hP6 ho6 hd6)
      obtain ⟨I, hI⟩ : ∃ I, I = T3.1.length := ⟨_, rfl⟩
      rw [← hI]
      obtain ⟨W6, hW6⟩ : ∃ W6, W6 = w6.setCell ⟨C, 5, none⟩ (.slice ia I ic) := ⟨_, rfl⟩
      have hP6 : Ps w W6 (w.heap.size + 1) C g (some ⟨g0, o0, none⟩) cap l q6 T3.2.2 [h0, x1, x2, x3, x4] #[.slice ka K kc, .int .i64 x1, .int .i64 x2, .int .i64 x3, .int .i64 x4, .slice ia I ic, .slice none 0 0] := by rw [hW6]; exact H6.out.1.set 5 (.slice ia I ic)
      have hlt := HP5.out.lt
      have hkset : Kp [C] w6 W6 := by rw [hW6]; exact (Kp.refl [C] w6).set (by simp) _
      have hiv : W6.ownsRow (C + 1) 3 1 (.slice ia I ic) I (T3.1.map (Value.int .i64)) := by
        have h1 := H6.out.2.1
        rw [← hI] at h1
        have h2 : C + 1 ≤ W5.heap.size := gl HP5.out.cr
        exact own_kp (owns_base h1 h2) hkset (fun x hx => by simp at hx; omega)
      have hkv6 : W6.ownsRow (C + 1) 3 1 (.slice ka K kc) K (T2.1.map (Value.int .i64)) := own_kp (own_kp HKV.out.1 H6.out.2.2.2 (fun x hx => by simp at hx; omega)) hkset (fun x hx => by simp at hx; omega)
      have HP6 := Lib.hid hP6
      have HIV := Lib.hid (And.intro hiv (And.intro hkv6 (And.intro hI H6.out.2.2.1)))
      have hnm := rnum_any W6 (w.heap.size + 1) (some ⟨g0, o0, none⟩) cap l q6 T3.2.2 hP6.rx HLL.out.2.1
      obtain ⟨N, hN⟩ : ∃ N, N = Cd.rn 10 0 0 (l.drop q6) := ⟨_, rfl⟩
      unfold RnP at hnm
      rw [← hN] at hnm
      have HN := Lib.hid hN
      rw [← hW6]
      clear hl3 c3 y5 f5 hP6 hiv hkv6 hkset hW6 hI hN hlt
      go_upto_region 14 with (go_at_call 14; refine hnm.mono ?_; rintro e w7 ⟨rfl, hk7, q7, hr7, hd7⟩; have H7 := Lib.hid (And.intro (HP6.out.rd hk7 hr7) (And.intro hd7 hk7)); clear hk7 hr7 hd7)
      obtain ⟨b4, hb4⟩ : ∃ b4, b4 = (T3.2.2 || N.2.2) := ⟨_, rfl⟩
      obtain ⟨T5, hT5⟩ : ∃ T5, T5 = Cd.riB b4 N.1.toNat (l.drop q7) := ⟨_, rfl⟩
      have hN64 : Cd.I64 N.1 := by rw [HN.out]; exact Cd.rn_64 10 0 0 _
      have hN2 := hN64.2
      obtain ⟨row0, hrow0⟩ : ∃ row0 : Value → Array Value, row0 = fun v => #[.slice ka K kc, .int .i64 x1, .int .i64 x2, .int .i64 x3, .int .i64 x4, .slice ia I ic, v] := ⟨_, rfl⟩
      have hL0 : LpI w w7 (w.heap.size + 1) C g (some ⟨g0, o0, none⟩) cap l q7 b4 [h0, x1, x2, x3, x4] row0 (.slice ka K kc) (.slice ia I ic) (.slice none 0 0) T2.1 T3.1 [] T5 N.1.toNat := by
        have hlt := HP6.out.lt
        refine ⟨?_, ?_, ?_, World.ownsRow_nil _ _ _ _, fun k e => (by cases e), ?_, Nat.zero_le _, Nat.zero_le _, fun _ => Nat.zero_le _⟩
        · rw [hrow0, hb4]; exact H7.out.1
        · have h1 := HIV.out.2.1
          rw [HKV.out.2.1] at h1 ⊢
          exact own_kp h1 H7.out.2.2 (fun x hx => by simp at hx; omega)
        · have h1 := HIV.out.1
          rw [HIV.out.2.2.1] at h1 ⊢
          exact own_kp h1 H7.out.2.2 (fun x hx => by simp at hx; omega)
        · rw [hT5]
          unfold Cd.riB
          cases b4 with
          | true => rfl
          | false => rfl
      have HL0 := Lib.hid hL0
      have HB4 := Lib.hid (And.intro hb4 (And.intro hT5 hN64))
      have HRW := Lib.hid hrow0
      have HA : Hid (Cd.rdA l = (T2.1, T3.1, T5.1, T5.2.2)) := Lib.hid (by
        have z1 := HLL.out.2.2.1
        have z2 := HH.out.2.2.2.2.2.1
        have z3 := H3.out.2.2.2
        have z4 := HT2.out
        have z5 := HKV.out.2.2
        have z6 := HT3.out
        have z7 := HIV.out.2.2.2
        have z8 := HN.out
        have z9 := H7.out.2.1
        simp only [Cd.rdA]
        rw [← z1, z2]
        simp only [List.getD_cons_zero, List.getD_cons_succ]
        rw [← z3]
        have z4' : T2 = Cd.rl h0.toNat (l.drop q3) := by rw [z4]; rfl
        rw [← z4', ← z5, ← z6, ← z7, ← z8, ← z9, ← hb4, ← hT5])
      clear hnm hL0 hb4 hT5 hN64 hrow0
      go_loopw [8] (fun ix wr => ∃ (bs : List Cd.Ins) (q : Nat) (bad : Bool) (bv : Value), ix = .int .i64 (bs.length : Int) ∧ Hid (LpI w wr (w.heap.size + 1) C g (some ⟨g0, o0, none⟩) cap l q bad [h0, x1, x2, x3, x4] row0 (.slice ka K kc) (.slice ia I ic) bv T2.1 T3.1 bs T5 N.1.toNat)) (fun ix _ => l.length + 2 - (intOf ix).toNat)
      case atStart => exact ⟨[], q7, b4, _, rfl, HL0⟩
      case round =>
        obtain ⟨bs, q, bad, bv, rfl, HT⟩ := hrel
        have hP := HT.out.P
        have c2 := hP.rx.c2
        have hq := hP.rx.2.1
        obtain ⟨M, hM⟩ : ∃ M, M = bs.length := ⟨_, rfl⟩
        rw [← hM]
        have hMq : M ≤ q + 1 := by rw [hM]; exact HT.out.ln.2.1
        have hl0 := HLL.out.2.1
        by_cases hlt : (M : Int) < N.1
        · have e7 : decide ((M : Int) < N.1) = true := by simpa using hlt
          cases bad with
          | true =>
            have hgo := HT.out.go
            rw [if_pos rfl] at hgo
            have HNO := Lib.hid (noC_rdbad (l := l) (by rw [HA.out, hgo]))
            have HXX := Lib.hid (And.intro hP.xr hP.gr)
            clear hP hgo hq hMq hlt hM
            go_wp2_with (with_reducible refine hold_st ?_)
            refine Lib.hid ?_
            refine store_rowL (t0 := 27) w.heap.size #[.slice none 0 0, .int .i64 0, .int .i64 0, .int .i64 0, .int .i64 0, .slice none 0 0, .slice none 0 0] #[.slice none 0 0, .int .i64 0, .int .i64 0, .int .i64 0, .int .i64 0, .slice none 0 0, .slice none 0 0] ?qhp3 ?qhv3 ?qhg3 ?qhi3 ?qho3 ?qh13 ?qhK3
            case qhp3 => rfl
            case qhv3 => rfl
            case qhg3 => exact HXX.out.1
            case qhi3 => kernel_rfl
            case qho3 => rfl
            case qh13 => simp [Value.oneCell']
            intro V hV hgV
            have HE : Hid (w.grownBy V none) := Lib.hid (Kp.grown HXX.out.2 (Kp.of hgV [w.heap.size] (fun k e _ => by cases e; simp)) (fun k hk => by simp at hk; omega))
            have HB := Lib.hid hV
            clear hV hgV
            go_wp2
            exact bodyPost_ret (results_row_tmp rfl _ _ w.heap.size 27 _ (0, 0) _ (.int .i64 50) rfl rfl HB.out Tryz.underlying27 rfl (by kernel_rfl)) rfl ⟨HE.out, .inl ⟨HNO.out, rfl⟩⟩
          | false =>
            obtain ⟨ba, bc, hbv⟩ := own_form HT.out.bO
            have hcr := hP.cr
            rw [HRW.out] at hcr
            have y6 := cell_of_row wr C 6 _ _ _ hcr
            have f6 : wr.frozen? ⟨C, 6, none⟩ = false := by simp [World.frozen?, hcr]
            have HPW := Lib.hid (And.intro hP (And.intro hM (And.intro hbv hlt)))
            go_upto_region 16 with fail
            refine wp_region_L (S := fun V => V.heap[C]? = some (.cells #[.slice ka K kc, .int .i64 x1, .int .i64 x2, .int .i64 x3, .int .i64 x4, .slice ia I ic, bv] 27 (0, 0))) (Z := [12]) (by kernel_rfl) ?_
            refine wpL_as fun W hW => ?_
            have hS : W.heap[C]? = some (.cells #[.slice ka K kc, .int .i64 x1, .int .i64 x2, .int .i64 x3, .int .i64 x4, .slice ia I ic, bv] 27 (0, 0)) := by rw [hW]; exact hcr
            have hgW : wr.grownBy W none := by rw [hW]; exact gdrewK wr 1 none
            have HLW : Hid (LpI w W (w.heap.size + 1) C g (some ⟨g0, o0, none⟩) cap l q false [h0, x1, x2, x3, x4] row0 (.slice ka K kc) (.slice ia I ic) bv T2.1 T3.1 bs T5 N.1.toNat) := Lib.hid (by
              have hh := HT.out
              have hk := Kp.of0 hgW []
              exact ⟨hh.P.on hgW, own_kp hh.kO hk (fun x hx => by cases hx), own_kp hh.iO hk (fun x hx => by cases hx), own_kp hh.bO hk (fun x hx => by cases hx), hh.ap, hh.go, hh.ln⟩)
            clear hW hgW y6 f6 hcr hP c2 hq hMq hlt hM
            (try simp only [Act.put, sA, sB, sC])
            refine t1 0 74 (.pointer (some ⟨C, 6, none⟩)) hS ?_
            (try simp only [Act.put, sA, sB, sC])
            refine t1 2 76 (.pointer (some ⟨w.heap.size + 1, 0, none⟩)) hS ?_
            (try simp only [Act.put, sA, sB, sC])
            refine t1 4 78 (.pointer (some ⟨w.heap.size + 1, 0, none⟩)) hS ?_
            (try simp only [Act.put, sA, sB, sC])
            refine t1 6 80 (.pointer (some ⟨w.heap.size + 1, 0, none⟩)) hS ?_
            (try simp only [Act.put, sA, sB, sC])
            refine t2 1 75 bv (fun w' hw' => ?_) hS ?_
            · have y6 := cell_of_row w' C 6 _ _ _ hw'
              clear hw' hS
              go_simp
            obtain ⟨N1, hN1⟩ : ∃ N, N = Cd.rn 10 0 0 (l.drop q) := ⟨_, rfl⟩
            have hc1 := rnum_any W (w.heap.size + 1) (some ⟨g0, o0, none⟩) cap l q false HLW.out.P.rx hl0
            unfold RnP at hc1
            rw [← hN1] at hc1
            (try simp only [Act.put, sA, sB, sC])
            refine wpL_call (i := 3) (d := 77) (R := fun v w' => v = .int .i64 N1.1 ∧ Kp [w.heap.size + 1] W w' ∧ ∃ q', Rx w' (w.heap.size + 1) (some ⟨g0, o0, none⟩) cap l q' (false || N1.2.2) ∧ l.drop q' = N1.2.1) (by kernel_rfl) rfl rfl (by kernel_rfl) (by kernel_rfl) (hc1.mono fun e w' he => ⟨_, he.1, rfl, he.2⟩) (fun v w' hR => (hR.2.1.block C (gl hS) (by have := HLW.out.P.lt; simp; omega)).trans hS) (fun v V1 hR1 => ?_)
            obtain ⟨rfl, hk1, q1', hr1, hd1⟩ := hR1
            have hS1 := (hk1.block C (gl hS) (by have := HLW.out.P.lt; simp; omega)).trans hS
            obtain ⟨N2, hN2⟩ : ∃ N, N = Cd.rn 10 0 0 (l.drop q1') := ⟨_, rfl⟩
            have hc2 := rnum_any V1 (w.heap.size + 1) (some ⟨g0, o0, none⟩) cap l q1' (false || N1.2.2) hr1 hl0
            unfold RnP at hc2
            rw [← hN2] at hc2
            (try simp only [Act.put, sA, sB, sC])
            refine wpL_call (i := 5) (d := 79) (R := fun v w' => v = .int .i64 N2.1 ∧ Kp [w.heap.size + 1] V1 w' ∧ ∃ q', Rx w' (w.heap.size + 1) (some ⟨g0, o0, none⟩) cap l q' ((false || N1.2.2) || N2.2.2) ∧ l.drop q' = N2.2.1) (by kernel_rfl) rfl rfl (by kernel_rfl) (by kernel_rfl) (hc2.mono fun e w' he => ⟨_, he.1, rfl, he.2⟩) (fun v w' hR => (hR.2.1.block C (gl hS1) (by have := HLW.out.P.lt; simp; omega)).trans hS1) (fun v V2 hR2 => ?_)
            obtain ⟨rfl, hk2, q2', hr2, hd2⟩ := hR2
            have hS2 := (hk2.block C (gl hS1) (by have := HLW.out.P.lt; simp; omega)).trans hS1
            obtain ⟨N3, hN3⟩ : ∃ N, N = Cd.rn 10 0 0 (l.drop q2') := ⟨_, rfl⟩
            have hc3 := rnum_any V2 (w.heap.size + 1) (some ⟨g0, o0, none⟩) cap l q2' ((false || N1.2.2) || N2.2.2) hr2 hl0
            unfold RnP at hc3
            rw [← hN3] at hc3
            (try simp only [Act.put, sA, sB, sC])
            refine wpL_call (i := 7) (d := 81) (R := fun v w' => v = .int .i64 N3.1 ∧ Kp [w.heap.size + 1] V2 w' ∧ ∃ q', Rx w' (w.heap.size + 1) (some ⟨g0, o0, none⟩) cap l q' (((false || N1.2.2) || N2.2.2) || N3.2.2) ∧ l.drop q' = N3.2.1) (by kernel_rfl) rfl rfl (by kernel_rfl) (by kernel_rfl) (hc3.mono fun e w' he => ⟨_, he.1, rfl, he.2⟩) (fun v w' hR => (hR.2.1.block C (gl hS2) (by have := HLW.out.P.lt; simp; omega)).trans hS2) (fun v V3 hR3 => ?_)
            obtain ⟨rfl, hk3, q3', hr3, hd3⟩ := hR3
            have hS3 := (hk3.block C (gl hS2) (by have := HLW.out.P.lt; simp; omega)).trans hS2
            (try simp only [Act.put, sA, sB, sC])
            refine t1 8 82 (.agg #[.int .i64 N1.1, .int .i64 N2.1, .int .i64 N3.1]) hS3 ?_
            (try simp only [Act.put, sA, sB, sC])
            have hS4 : (V3.alloc (.cells #[.int .i64 N1.1, .int .i64 N2.1, .int .i64 N3.1] 32)).heap[C]? = _ := row_alloc hS3 _
            refine wpL_val (i := 9) (d := 83) (v := .slice (some ⟨V3.heap.size, 0, none⟩) 1 1) (w' := V3.alloc (.cells #[.int .i64 N1.1, .int .i64 N2.1, .int .i64 N3.1] 32)) (by kernel_rfl) rfl rfl (by kernel_rfl) (by kernel_rfl) hS4 ?_
            (try simp only [Act.put, sA, sB, sC])
            have hk0 := (hk1.trans hk2).trans hk3
            have hlt5 := HLW.out.P.lt
            have hbo3 : (V3.alloc (.cells #[.int .i64 N1.1, .int .i64 N2.1, .int .i64 N3.1] 32)).ownsRow (C + 1) 32 3 bv bs.length (insC bs) := (own_kp HLW.out.bO hk0 (fun x hx => by simp at hx; omega)).alloc _
            have hnr := heap_alloc_new V3 (.cells #[.int .i64 N1.1, .int .i64 N2.1, .int .i64 N3.1] 32)
            obtain ⟨it, hit, hz, hsz, hby⟩ := info_parts info_ins
            have hbq := HLW.out.ln.2.1
            have hqq := HLW.out.P.rx.2.1
            obtain ⟨v', V5, hr5, ho5, hg5, _, hat5⟩ := run_append_own_at (P := Tryz.prog) (V3.alloc (.cells #[.int .i64 N1.1, .int .i64 N2.1, .int .i64 N3.1] 32)) (C + 1) 25 25 32 it _ 3 24 Tryz.underlying25 hit hz hsz hby rfl (by decide) bv bs.length (insC bs) hbo3 ⟨V3.heap.size, 0, none⟩ 1 1 (insC [(⟨N1.1, N2.1, N3.1⟩ : Cd.Ins)]) rfl (fun j u hu => by rw [addr_at, Nat.zero_add, row_cell hnr]; simpa [insC] using hu) (ginsC_one _) (by unfold maxLen; omega) (by omega) (by have h1 := gl hS4; omega)
            obtain ⟨va, vc, hv'⟩ := own_form ho5
            have hx : Cd.rn3 (l.drop q) = ((⟨N1.1, N2.1, N3.1⟩ : Cd.Ins), l.drop q3', (((false || N1.2.2) || N2.2.2) || N3.2.2)) := by
              unfold Cd.rn3
              rw [← hN1, ← hd1, ← hN2, ← hd2, ← hN3, hd3, Bool.false_or]
            have hfin := HLW.out.next (by have := HPW.out.2.2.2; have := HPW.out.2.1; omega) hk0 hr3 hx ho5 hg5 hat5 (by rw [HRW.out]; rfl)
            have hS5 : V5.heap[C]? = _ := (hg5.block C (gl hS4) (fun e => by have := (hbo3.lt C e.symm).1; omega)).trans hS4
            refine wpL_val (i := 10) (d := 84) (v := v') (w' := V5) (by kernel_rfl) rfl rfl (by kernel_rfl) (gexec_app rfl rfl rfl hr5) hS5 ?_
            (try simp only [Act.put, sA, sB, sC])
            refine t1 11 85 (.pointer (some ⟨C, 6, none⟩)) hS5 ?_
            (try simp only [Act.put, sA, sB, sC])
            have HF := Lib.hid hfin
            have y6 := cell_of_row V5 C 6 _ _ _ hS5
            have f6 : V5.frozen? ⟨C, 6, none⟩ = false := by simp [World.frozen?, hS5]
            subst hv'
            clear hfin hr5 ho5 hg5 hat5 hbo3 hnr hx hk0 hS hS1 hS2 hS3 hS4 hS5 hc1 hc2 hc3 hk1 hk2 hk3 hr1 hr2 hr3 hd1 hd2 hd3 hN1 hN2 hN3 hlt5
            refine gwpL_skip (i := 12) (w' := V5.setCell ⟨C, 6, none⟩ (.slice va (bs.length + 1) vc)) (by kernel_rfl) rfl rfl (by kernel_rfl) (by go_simp) (fun hz => absurd (by simp) hz) ?_
            refine wpL_done (by kernel_rfl) ?_ _
            clear y6 f6
            go_wp2
            have hbl : (bs ++ [(⟨N1.1, N2.1, N3.1⟩ : Cd.Ins)]).length = bs.length + 1 := by simp
            have hM9 := HPW.out.2.1
            refine ⟨⟨bs ++ [(⟨N1.1, N2.1, N3.1⟩ : Cd.Ins)], _, _, _, by rw [hbl, ← hM9]; go_num, HF⟩, ?_⟩
            have e9 : (intOf (Value.int .i64 ((M : Int) + 1))).toNat = M + 1 := by simp only [intOf]; omega
            have e10 : (intOf (Value.int .i64 (M : Int))).toNat = M := by simp [intOf]
            rw [← hM9]
            show _ - (intOf (Value.int .i64 ((M : Int) + 1))).toNat < _ - (intOf (Value.int .i64 (M : Int))).toNat
            rw [e9, e10]
            omega
        · have e7 : decide ((M : Int) < N.1) = false := by simpa using hlt
          have hT5b : T5 = (bs, l.drop q, bad) := by
            have hgo := HT.out.go
            have e0 : N.1.toNat - bs.length = 0 := by omega
            rw [e0, Cd.ri] at hgo
            cases bad with
            | true => simpa using hgo
            | false => simpa using hgo
          have HA2 := Lib.hid (show Cd.rdA l = (T2.1, T3.1, bs, bad) by rw [HA.out, hT5b])
          cases bad with
          | true =>
            have HNO := Lib.hid (noC_rdbad (l := l) (by rw [HA2.out]))
            have HXX := Lib.hid (And.intro hP.xr hP.gr)
            clear hP hq hMq hlt hM hT5b
            go_wp2_with (with_reducible refine hold_st ?_)
            refine Lib.hid ?_
            refine store_rowL (t0 := 27) w.heap.size #[.slice none 0 0, .int .i64 0, .int .i64 0, .int .i64 0, .int .i64 0, .slice none 0 0, .slice none 0 0] #[.slice none 0 0, .int .i64 0, .int .i64 0, .int .i64 0, .int .i64 0, .slice none 0 0, .slice none 0 0] ?qhp4 ?qhv4 ?qhg4 ?qhi4 ?qho4 ?qh14 ?qhK4
            case qhp4 => rfl
            case qhv4 => rfl
            case qhg4 => exact HXX.out.1
            case qhi4 => kernel_rfl
            case qho4 => rfl
            case qh14 => simp [Value.oneCell']
            intro V hV hgV
            have HE : Hid (w.grownBy V none) := Lib.hid (Kp.grown HXX.out.2 (Kp.of hgV [w.heap.size] (fun k e _ => by cases e; simp)) (fun k hk => by simp at hk; omega))
            have HB := Lib.hid hV
            clear hV hgV
            go_wp2
            exact bodyPost_ret (results_row_tmp rfl _ _ w.heap.size 27 _ (0, 0) _ (.int .i64 50) rfl rfl HB.out Tryz.underlying27 rfl (by kernel_rfl)) rfl ⟨HE.out, .inl ⟨HNO.out, rfl⟩⟩
          | false =>
            obtain ⟨a1, cc1, ek, hNk⟩ := NumsAt.own HT.out.kO
            obtain ⟨a2, cc2, ei, hNi⟩ := NumsAt.own HT.out.iO
            obtain ⟨a3, cc3, eb, hNb⟩ := InssAt.own HT.out.bO
            injection ek with ek1 ek2 ek3
            injection ei with ei1 ei2 ei3
            obtain ⟨cX, hcX⟩ : ∃ c, c = ({ kinds := T2.1, ins := x1, outs := x2, cells := x3, stack := x4, init := T3.1, body := bs } : Cd.Code) := ⟨_, rfl⟩
            have hat : CodeAt wr cX ka ia a3 := by rw [hcX, ek1, ei1]; exact ⟨hNk, hNi, hNb⟩
            have h64 : I64s cX := by
              have hx := HH.out.2.2.2.1
              have hb64 : ∀ x ∈ bs, Cd.I64 x.op ∧ Cd.I64 x.n ∧ Cd.I64 x.k := by
                have h1 := Cd.riB_64 b4 N.1.toNat (l.drop q7)
                rw [← HB4.out.2.1, hT5b] at h1
                exact h1
              have z1 : T2.1.length ≤ l.length + 1 := by rw [HT2.out]; exact Nat.le_trans (Cd.rlB_le _ _ _) (by rw [List.length_drop]; omega)
              have z2 : T3.1.length ≤ l.length + 1 := by rw [HT3.out]; exact Nat.le_trans (Cd.rlB_le _ _ _) (by rw [List.length_drop]; omega)
              rw [hcX]
              refine ⟨hx x1 (by simp), hx x2 (by simp), hx x3 (by simp), hx x4 (by simp), ?_, ?_, hb64, ?_, ?_, ?_⟩
              · show ∀ n ∈ T2.1, _
                rw [HT2.out]; exact Cd.rlB_64 _ _ _
              · show ∀ n ∈ T3.1, _
                rw [HT3.out]; exact Cd.rlB_64 _ _ _
              · show T2.1.length ≤ maxLen
                unfold maxLen; omega
              · show T3.1.length ≤ maxLen
                unfold maxLen; omega
              · show bs.length ≤ maxLen
                unfold maxLen; omega
            have ecv : codeV cX ka kc ia ic a3 cc3 = #[.slice ka K kc, .int .i64 x1, .int .i64 x2, .int .i64 x3, .int .i64 x4, .slice ia I ic, .slice a3 M cc3] := by rw [hcX, ek2, ei2, hM]; rfl
            have hrow : wr.heap[C]? = some (.cells #[.slice ka K kc, .int .i64 x1, .int .i64 x2, .int .i64 x3, .int .i64 x4, .slice ia I ic, .slice a3 M cc3] 27 (0, 0)) := by
              rw [hP.cr, HRW.out, eb, hM]
            have hba : BytesAt wr (some ⟨g0, o0, none⟩) l := hP.rx.2.2.1
            have HNC := Lib.hid (fun (hne : Cd.check cX ≠ 0 ∨ Cd.write cX ≠ l) => noC_rd (l := l) HA2.out (by rw [← HLL.out.2.2.1]; exact HH.out.2.2.2.2.2.1) (by rw [← hcX]; exact hne))
            have hatV : ∀ V, Kp [w.heap.size] wr V → CodeAt V cX ka ia a3 := fun V hk => by
              have hlt5 := hP.lt
              obtain ⟨b1, d1, ek', g1⟩ := NumsAt.own (own_kp HT.out.kO hk (fun x hx => by simp at hx; omega))
              obtain ⟨b2, d2, ei', g2⟩ := NumsAt.own (own_kp HT.out.iO hk (fun x hx => by simp at hx; omega))
              obtain ⟨b3, d3, eb', g3⟩ := InssAt.own (own_kp HT.out.bO hk (fun x hx => by simp at hx; omega))
              injection ek' with ek1' ek2' ek3'
              injection ei' with ei1' ei2' ei3'
              rw [eb] at eb'
              injection eb' with eb1' eb2' eb3'
              rw [hcX, ek1', ei1', eb1']
              exact ⟨g1, g2, g3⟩
            have HXX := Lib.hid (And.intro hP.xr (And.intro hP.gr (And.intro hrow (And.intro hatV (And.intro hba (And.intro h64 ecv))))))
            have hlt5 := hP.lt
            have HCL := Lib.hid (show w.heap.size < C by omega)
            have hgood := fun hz => rwrite_good wr cX ka kc ia ic a3 cc3 hat h64 hz
            have hwrong := fun hz => rwrite_bad wr cX ka kc ia ic a3 cc3 hat h64 hz
            rw [ecv] at hgood hwrong
            have y0 := cell_of_row wr C 0 _ _ _ hrow
            have y1 := cell_of_row wr C 1 _ _ _ hrow
            have y2 := cell_of_row wr C 2 _ _ _ hrow
            have y3 := cell_of_row wr C 3 _ _ _ hrow
            have y4 := cell_of_row wr C 4 _ _ _ hrow
            have y5 := cell_of_row wr C 5 _ _ _ hrow
            have y6 := cell_of_row wr C 6 _ _ _ hrow
            clear hlt5 hat hatV h64 hba hrow hP hq hMq hlt hT5b hNk hNi hNb ek1 ek2 ek3 ei1 ei2 ei3 eb hcX hM
            by_cases hz : Cd.check cX = 0
            · have hwr := hgood hz
              have HZ := Lib.hid hz
              have hwn : Cd.write cX ≠ [] := fun e => by have := congrArg List.length e; simp [Cd.write, Cd.magic] at this
              have hl0' := HLL.out.2.2.2.2
              clear hz hgood hwrong ecv
              go_wp2_with (first | (go_at_call 15; refine hwr.mono ?_; rintro e w9 ⟨v9, rfl, hg9, ho9⟩; refine Hid.out ?_))
              refine Lib.hid ?_
              obtain ⟨a9, c9, rfl, hb9⟩ := BytesAt.own ho9
              have k9 := gstr_of (cap := c9) hb9 hwn
              have kl := gstr_of (cap := cap) (show BytesAt w9 (some ⟨g0, o0, none⟩) l from fun i b h => by
                obtain ⟨g', o', e', hc'⟩ := HXX.out.2.2.2.2.1 i b h
                exact ⟨g', o', e', hg9.cell hc' (by simp)⟩) hl0'
              obtain ⟨y, hy⟩ : ∃ y : ByteArray, y = ⟨(Cd.write cX).toArray⟩ := ⟨_, rfl⟩
              obtain ⟨z9, hz9⟩ : ∃ z : ByteArray, z = ⟨l.toArray⟩ := ⟨_, rfl⟩
              rw [← hy] at k9
              rw [← hz9, ← HLL.out.1] at kl
              have hyl : y.toList = Cd.write cX := by rw [hy, ByteArray.toList_mk]
              have hzl9 : z9.toList = l := by rw [hz9, ByteArray.toList_mk]
              have hrow9 := (hg9.block C (gl HXX.out.2.2.1) (by simp)).trans HXX.out.2.2.1
              have HG9 := Lib.hid (And.intro hg9 hrow9)
              have HYL := Lib.hid (And.intro hyl hzl9)
              clear y0 y1 y2 y3 y4 y5 y6 hwr hb9 ho9 hwn hl0' hy hz9
              generalize (Cd.write cX).length = n9 at *
              by_cases hw : Cd.write cX = l
              · have e11 : (y.toList == z9.toList) = true := by rw [hyl, hzl9, hw, beq_self_eq_true]
                have HW := Lib.hid hw
                clear hw hyl hzl9
                have y0 := cell_of_row w9 C 0 _ _ _ hrow9
                have y1 := cell_of_row w9 C 1 _ _ _ hrow9
                have y2 := cell_of_row w9 C 2 _ _ _ hrow9
                have y3 := cell_of_row w9 C 3 _ _ _ hrow9
                have y4 := cell_of_row w9 C 4 _ _ _ hrow9
                have y5 := cell_of_row w9 C 5 _ _ _ hrow9
                have y6 := cell_of_row w9 C 6 _ _ _ hrow9
                clear hg9 hrow9
                go_wp2_with (with_reducible refine hold_st ?_)
                refine Lib.hid ?_
                refine store_rowL (t0 := 27) w.heap.size #[.slice ka K kc, .int .i64 x1, .int .i64 x2, .int .i64 x3, .int .i64 x4, .slice ia I ic, .slice a3 M cc3] #[.slice none 0 0, .int .i64 0, .int .i64 0, .int .i64 0, .int .i64 0, .slice none 0 0, .slice none 0 0] ?qhpz ?qhvz ?qhgz ?qhiz ?qhoz ?qh1z ?qhKz
                case qhpz => rfl
                case qhvz => rfl
                case qhgz => exact (HG9.out.1.block _ (gl HXX.out.1) (by simp)).trans HXX.out.1
                case qhiz => kernel_rfl
                case qhoz => rfl
                case qh1z => simp [Value.oneCell']
                intro V hV hgV
                have hk : Kp [w.heap.size] wr V := (Kp.of0 HG9.out.1 _).trans (Kp.of hgV _ (fun k e _ => by cases e; simp))
                have HE : Hid (RpP w l (.returned (.tuple #[.agg #[.slice ka K kc, .int .i64 x1, .int .i64 x2, .int .i64 x3, .int .i64 x4, .slice ia I ic, .slice a3 M cc3], .int .i64 0])) V) := Lib.hid ⟨Kp.grown HXX.out.2.1 hk (fun k hk => by simp at hk; omega), .inr ⟨cX, ka, kc, ia, ic, a3, cc3, HXX.out.2.2.2.2.2.1, HZ.out, HW.out, by rw [HXX.out.2.2.2.2.2.2], HXX.out.2.2.2.1 V hk⟩⟩
                have HB := Lib.hid hV
                clear hk hV hgV y0 y1 y2 y3 y4 y5 y6
                go_wp2
                exact bodyPost_ret (results_row_tmp rfl _ _ w.heap.size 27 _ (0, 0) _ (.int .i64 0) rfl rfl HB.out Tryz.underlying27 rfl (by kernel_rfl)) rfl HE.out
              · have e11 : (y.toList == z9.toList) = false := by rw [hyl, hzl9, beq_eq_false_iff_ne]; exact hw
                have HNO := Lib.hid (HNC.out (.inr hw))
                have HX9 := Lib.hid (And.intro ((HG9.out.1.block _ (gl HXX.out.1) (by simp)).trans HXX.out.1) (HXX.out.2.1.trans HG9.out.1))
                clear hw hyl hzl9 hg9 hrow9
                go_wp2_with (with_reducible refine hold_st ?_)
                refine Lib.hid ?_
                refine store_rowL (t0 := 27) w.heap.size #[.slice none 0 0, .int .i64 0, .int .i64 0, .int .i64 0, .int .i64 0, .slice none 0 0, .slice none 0 0] #[.slice none 0 0, .int .i64 0, .int .i64 0, .int .i64 0, .int .i64 0, .slice none 0 0, .slice none 0 0] ?qhp5 ?qhv5 ?qhg5 ?qhi5 ?qho5 ?qh15 ?qhK5
                case qhp5 => rfl
                case qhv5 => rfl
                case qhg5 => exact HX9.out.1
                case qhi5 => kernel_rfl
                case qho5 => rfl
                case qh15 => simp [Value.oneCell']
                intro V hV hgV
                have HE : Hid (w.grownBy V none) := Lib.hid (Kp.grown HX9.out.2 (Kp.of hgV [w.heap.size] (fun k e _ => by cases e; simp)) (fun k hk => by simp at hk; omega))
                have HB := Lib.hid hV
                clear hV hgV
                go_wp2
                exact bodyPost_ret (results_row_tmp rfl _ _ w.heap.size 27 _ (0, 0) _ (.int .i64 50) rfl rfl HB.out Tryz.underlying27 rfl (by kernel_rfl)) rfl ⟨HE.out, .inl ⟨HNO.out, rfl⟩⟩
            · have hwr := hwrong hz
              have HNO := Lib.hid (HNC.out (.inl hz))
              have e12 : (Cd.check cX != 0) = true := by simpa using hz
              generalize Cd.check cX = R at *
              have e12' : (R == 0) = false := by simpa using hz
              clear hgood hwrong ecv
              go_wp2_with (first | (go_at_call 15; refine hwr.mono ?_; rintro e w9 ⟨rfl, hg9⟩; refine Hid.out ?_))
              refine Lib.hid ?_
              have HX9 := Lib.hid (And.intro ((hg9.block _ (gl HXX.out.1) (by simp)).trans HXX.out.1) (HXX.out.2.1.trans hg9))
              clear y0 y1 y2 y3 y4 y5 y6 hwr hg9
              go_wp2_with (with_reducible refine hold_st ?_)
              refine Lib.hid ?_
              refine store_rowL (t0 := 27) w.heap.size #[.slice none 0 0, .int .i64 0, .int .i64 0, .int .i64 0, .int .i64 0, .slice none 0 0, .slice none 0 0] #[.slice none 0 0, .int .i64 0, .int .i64 0, .int .i64 0, .int .i64 0, .slice none 0 0, .slice none 0 0] ?qhp6 ?qhv6 ?qhg6 ?qhi6 ?qho6 ?qh16 ?qhK6
              case qhp6 => rfl
              case qhv6 => rfl
              case qhg6 => exact HX9.out.1
              case qhi6 => kernel_rfl
              case qho6 => rfl
              case qh16 => simp [Value.oneCell']
              intro V hV hgV
              have HE : Hid (w.grownBy V none) := Lib.hid (Kp.grown HX9.out.2 (Kp.of hgV [w.heap.size] (fun k e _ => by cases e; simp)) (fun k hk => by simp at hk; omega))
              have HB := Lib.hid hV
              clear hV hgV
              go_wp2
              exact bodyPost_ret (results_row_tmp rfl _ _ w.heap.size 27 _ (0, 0) _ (.int .i64 50) rfl rfl HB.out Tryz.underlying27 rfl (by kernel_rfl)) rfl ⟨HE.out, .inl ⟨HNO.out, rfl⟩⟩
  · have e3 : (z.toList == [77, 84, 82, 49]) = false := by rw [hzl, beq_eq_false_iff_ne]; exact hmag
    have HNO := Lib.hid (noC_magic (l := l) (by rw [← hp]; exact hmag))
    have HX := Lib.hid (And.intro hX1 hg1)
    have HW1 := Lib.hid hW1
    rw [← hL]
    clear hz hX1 hg1 hb1 hga hL hb hl h4 hz1 hp hpl hxt hzl hmag
    go_enter Tryz.func6, Tryz.ntmps6
    go_upto_region 3 with fail
    rw [← HW1.out]
    clear hW1
    go_wp2_with (with_reducible refine hold_st ?_)
    refine Lib.hid ?_
    refine store_rowL (t0 := 27) w.heap.size #[.slice none 0 0, .int .i64 0, .int .i64 0, .int .i64 0, .int .i64 0, .slice none 0 0, .slice none 0 0] #[.slice none 0 0, .int .i64 0, .int .i64 0, .int .i64 0, .int .i64 0, .slice none 0 0, .slice none 0 0] ?qhp7 ?qhv7 ?qhg7 ?qhi7 ?qho7 ?qh17 ?qhK7
    case qhp7 => rfl
    case qhv7 => rfl
    case qhg7 => exact HX.out.1
    case qhi7 => kernel_rfl
    case qho7 => rfl
    case qh17 => simp [Value.oneCell']
    intro V hV hgV
    have HE : Hid (w.grownBy V none) := Lib.hid (Kp.grown HX.out.2 (Kp.of hgV [w.heap.size] (fun k e _ => by cases e; simp)) (fun k hk => by simp at hk; omega))
    have HB := Lib.hid hV
    clear hV hgV
    go_wp2
    exact bodyPost_ret (results_row_tmp rfl _ _ w.heap.size 27 _ (0, 0) _ (.int .i64 50) rfl rfl HB.out Tryz.underlying27 rfl (by kernel_rfl)) rfl ⟨HE.out, .inl ⟨HNO.out, rfl⟩⟩
end Go.Proofs.YtfbhflpjhbemlaaGreat
