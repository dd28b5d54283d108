/- Stage 19: alive. -/
import Derived.Test.YtcjainfcndlllaaCeB
namespace Go.Proofs.Ytcjainfcndlllaa
open Go.RowKit Go.Maps Go.WideMaps

theorem small_v (g h : Nat) : codeV Cd.small (some ⟨g, 0, none⟩) 2 none 0 (some ⟨h, 0, none⟩) 5 = #[.slice (some ⟨g, 0, none⟩) 2 2, .int .i64 1, .int .i64 1, .int .i64 0, .int .i64 2, .slice none 0 0, .slice (some ⟨h, 0, none⟩) 5 5] := rfl
theorem small1_v (g h : Nat) : codeV { Cd.small with stack := 1 } (some ⟨g, 0, none⟩) 2 none 0 (some ⟨h, 0, none⟩) 5 = #[.slice (some ⟨g, 0, none⟩) 2 2, .int .i64 1, .int .i64 1, .int .i64 0, .int .i64 1, .slice none 0 0, .slice (some ⟨h, 0, none⟩) 5 5] := rfl
/-- the bytes of the example -/
theorem small_w : ∃ r, Cd.write Cd.small = [77, 84, 82, 49, 4, 2, 2, 0, 4, 4, 4, 10] ++ r ∧ 1 ≤ r.length ∧ r.length ≤ 100 := by
  have e : ∀ n : Int, 0 ≤ n → n < 64 → Cd.num n = [UInt8.ofNat (2 * n).toNat] := fun n h0 h1 => by
    unfold Cd.num Cd.zig
    rw [if_pos h0, Cd.bytes_small (by omega)]
  have h : Cd.write Cd.small = [77, 84, 82, 49, 4, 2, 2, 0, 4, 4, 4, 10] ++ Cd.nums (Cd.insL Cd.small.body) := by
    unfold Cd.write Cd.allL Cd.heads
    rw [Cd.nums_append, Cd.nums_append, Cd.nums_append, Cd.nums_cons]
    simp only [Cd.small, Cd.nums, List.map_cons, List.map_nil, List.flatten_cons, List.flatten_nil, List.length_cons, List.length_nil]
    rw [e 1 (by decide) (by decide), e 0 (by decide) (by decide), e 2 (by decide) (by decide)]
    have e2 := e ((0 + 1 + 1 : Nat) : Int) (by decide) (by decide)
    have e5 := e ((0 + 1 + 1 + 1 + 1 + 1 : Nat) : Int) (by decide) (by decide)
    simp only [Nat.zero_add] at e2 e5 ⊢
    rw [e2, e5]
    rfl
  refine ⟨_, h, ?_, ?_⟩
  · have := Cd.bytes_ne (Cd.zig 2)
    have h2 : Cd.nums (Cd.insL Cd.small.body) = Cd.num 2 ++ Cd.nums [0, 0, 1, 1, 2, 5, 3, 2, 3, 1, 0, 9, 0, 0] := rfl
    rw [h2, List.length_append]
    have : (Cd.num 2).length ≠ 0 := fun h => this (List.eq_nil_of_length_eq_zero h)
    omega
  · have h1 : Cd.nums (Cd.insL Cd.small.body) = ((Cd.insL Cd.small.body).map Cd.num).flatten := rfl
    have : ∀ l : List Int, (∀ n ∈ l, 0 ≤ n ∧ n < 64) → (Cd.nums l).length = l.length := by
      intro l
      induction l with
      | nil => intro _; rfl
      | cons a l ih =>
        intro hl
        rw [Cd.nums_cons, List.length_append, ih (fun n hn => hl n (by simp [hn])), e a (hl a (by simp)).1 (hl a (by simp)).2]
        simp
        omega
    rw [this _ (by decide)]
    decide

theorem small1_64 : I64s { Cd.small with stack := 1 } := by
  obtain ⟨h1, h2, h3, _, h5⟩ := small_64
  exact ⟨h1, h2, h3, by unfold Cd.I64; decide, h5⟩

set_option maxHeartbeats 4000000 in
set_option maxRecDepth 100000 in
theorem alive19_any (hC : CCheck) (hWr : CWrite) (w : World) : Calls Try.prog 8 #[] w fun e w' => e = .returned (.bool true) ∧ w.grownBy w' none := by
  have hsm := fun wx => small_any wx
  simp only [small_v] at hsm
  have hn := fun k wx => num19_any k wx
  go_enter Try.func8, Try.ntmps8
  go_wp2_with (go_at_call 13; refine (hsm _).mono ?_; rintro e w1 ⟨g1, h1, rfl, hc1, _, _, hg1⟩; refine Hid.out ?_)
  refine Lib.hid ?_
  go_wp2_with (go_at_call 13; refine (hsm _).mono ?_; rintro e w2 ⟨g2, h2, rfl, hc2, l1, l2, hg2⟩; refine Hid.out ?_)
  have hr1 := (hg2.block w1.heap.size (by simp) (by simp)).trans (heap_alloc_new w1 _)
  have gA := World.grownBy_alloc w2 (.cells #[.slice (some ⟨g2, 0, none⟩) 2 2, .int .i64 1, .int .i64 1, .int .i64 0, .int .i64 1, .slice none 0 0, .slice (some ⟨h2, 0, none⟩) 5 5] 25) none
  have hr1a := (gA.block _ (Array.getElem?_eq_some_iff.1 hr1).1 (by simp)).trans hr1
  have u0 := cell_of_row _ _ 0 _ _ _ hr1a
  have u1 := cell_of_row _ _ 1 _ _ _ hr1a
  have u2 := cell_of_row _ _ 2 _ _ _ hr1a
  have u3 := cell_of_row _ _ 3 _ _ _ hr1a
  have u4 := cell_of_row _ _ 4 _ _ _ hr1a
  have u5 := cell_of_row _ _ 5 _ _ _ hr1a
  have u6 := cell_of_row _ _ 6 _ _ _ hr1a
  have hrD := heap_alloc_new w2 (.cells #[.slice (some ⟨g2, 0, none⟩) 2 2, .int .i64 1, .int .i64 1, .int .i64 0, .int .i64 1, .slice none 0 0, .slice (some ⟨h2, 0, none⟩) 5 5] 25)
  have hg12 : w1.grownBy w2 none := (World.grownBy_alloc w1 _ none).trans hg2
  have hck1 := hC (w2.alloc (.cells #[.slice (some ⟨g2, 0, none⟩) 2 2, .int .i64 1, .int .i64 1, .int .i64 0, .int .i64 1, .slice none 0 0, .slice (some ⟨h2, 0, none⟩) 5 5] 25)) Cd.small (some ⟨g1, 0, none⟩) 2 none 0 (some ⟨h1, 0, none⟩) 5 ((hc1.on hg12).on gA) small_64 (by exact Nat.le_refl _)
  rw [small_v, Cd.small_ok] at hck1
  have HC1 := Lib.hid (And.intro (hc1.on hg12) (And.intro hc2 (And.intro (hg1.trans hg12) hr1)))
  clear hc1 hc2 l1 l2 hg1 hg2 hg12 hr1 hr1a hsm
  refine Lib.hid ?_
  go_wp2_with (go_at_call 10; refine hck1.mono ?_; rintro e w4 ⟨rfl, hg4⟩; refine Hid.out ?_)
  have hrD4 := (hg4.block _ (Array.getElem?_eq_some_iff.1 hrD).1 (by simp)).trans hrD
  have d0 := cell_of_row w4 _ 0 _ _ _ hrD4
  have d1 := cell_of_row w4 _ 1 _ _ _ hrD4
  have d2 := cell_of_row w4 _ 2 _ _ _ hrD4
  have d3 := cell_of_row w4 _ 3 _ _ _ hrD4
  have d4 := cell_of_row w4 _ 4 _ _ _ hrD4
  have d5 := cell_of_row w4 _ 5 _ _ _ hrD4
  have d6 := cell_of_row w4 _ 6 _ _ _ hrD4
  have hck2 := hC w4 { Cd.small with stack := 1 } (some ⟨g2, 0, none⟩) 2 none 0 (some ⟨h2, 0, none⟩) 5 (by have := ((HC1.out.2.1.on gA).on hg4); exact ⟨this.kinds, this.init, this.body⟩) small1_64 (by exact Nat.le_refl _)
  rw [small1_v, Cd.small_1] at hck2
  have HG4 := Lib.hid (And.intro gA hg4)
  clear hg4 gA hrD hrD4 hck1 u0 u1 u2 u3 u4 u5 u6
  refine Lib.hid ?_
  go_wp2_with (go_at_call 10; refine hck2.mono ?_; rintro e w5 ⟨rfl, hg5⟩; refine Hid.out ?_)
  have hg25 : w2.grownBy w5 none := HG4.out.1.trans (HG4.out.2.trans hg5)
  have hr5 := (hg25.block _ (Array.getElem?_eq_some_iff.1 HC1.out.2.2.2).1 (by simp)).trans HC1.out.2.2.2
  have v0 := cell_of_row w5 _ 0 _ _ _ hr5
  have v1 := cell_of_row w5 _ 1 _ _ _ hr5
  have v2 := cell_of_row w5 _ 2 _ _ _ hr5
  have v3 := cell_of_row w5 _ 3 _ _ _ hr5
  have v4 := cell_of_row w5 _ 4 _ _ _ hr5
  have v5 := cell_of_row w5 _ 5 _ _ _ hr5
  have v6 := cell_of_row w5 _ 6 _ _ _ hr5
  have hwr := hWr w5 Cd.small (some ⟨g1, 0, none⟩) 2 none 0 (some ⟨h1, 0, none⟩) 5 (HC1.out.1.on hg25) small_64 (by exact Nat.le_refl _)
  rw [small_v] at hwr
  have HG5 := Lib.hid (HC1.out.2.2.1.trans hg25)
  clear hg5 hg25 hr5 hck2 d0 d1 d2 d3 d4 d5 d6 HG4 HC1
  refine Lib.hid ?_
  go_wp2_with (go_at_call 14; refine hwr.mono ?_; rintro e w6 ⟨hg6, hok, -⟩; obtain ⟨vb, rfl, hown⟩ := hok Cd.small_ok; refine Hid.out ?_)
  obtain ⟨r, hw, hr1, hr2⟩ := small_w
  obtain ⟨gb, cap, cur, rfl, _, hhb, hcap, hmx, _, htk⟩ : ∃ gb cap cur, vb = .slice (some ⟨gb, 0, none⟩) (Cd.write Cd.small).length cap ∧ w5.heap.size ≤ gb ∧ w6.heap[gb]? = some (.cells cur 5 (0, 0)) ∧ (Cd.write Cd.small).length ≤ cap ∧ cap ≤ maxLen ∧ cur.size = cap * 1 ∧ cur.toList.take ((Cd.write Cd.small).length * 1) = byteC (Cd.write Cd.small) := by
    rcases hown.2 with ⟨_, h0⟩ | ⟨g, cap, cur, hv, r⟩
    · rw [hw, List.length_append] at h0; simp at h0
    · exact ⟨g, cap, cur, hv, r⟩
  have hbl : (Cd.write Cd.small).length = 12 + r.length := by rw [hw, List.length_append]; rfl
  have hbc : ∀ j u, ([77, 84, 82, 49, 4, 2, 2, 0, 4, 4, 4, 10] : List UInt8)[j]? = some u → w6.cell? ⟨gb, j, none⟩ = some (.int .u8 u.toNat) := by
    intro j u hj
    have hjl : j < 12 := (List.getElem?_eq_some_iff.1 hj).1
    have h1 : (byteC (Cd.write Cd.small))[j]? = some (.int .u8 u.toNat) := by
      unfold byteC
      rw [hw, List.getElem?_map, List.getElem?_append_left (by simpa using hjl), hj]
      rfl
    rw [← htk, List.getElem?_take, if_pos (by rw [hbl]; omega)] at h1
    unfold World.cell?
    rw [hhb]
    simpa using h1
  have b4 := hbc 4 _ rfl
  have b9 := hbc 9 _ rfl
  have b11 := hbc 11 _ rfl
  have hcv : ∀ cp, (convert 38 9 (.slice (some ⟨gb, 0, none⟩) 4 cp)).run Try.prog w6 = .ok (.string ⟨#[77, 84, 82, 49]⟩) w6 := by
    intro cp
    have h := run_convert_bytes_back (P := Try.prog) w6 38 9 5 ⟨gb, 0, none⟩ cp [77, 84, 82, 49] Try.underlying38 Try.underlying5 Try.underlying9 (fun j hj => by
      have hj4 : j < 4 := hj
      have e : (⟨gb, 0, none⟩ : Addr).add j = ⟨gb, j, none⟩ := by unfold Addr.add; split <;> simp_all
      rw [e]
      rcases (show j = 0 ∨ j = 1 ∨ j = 2 ∨ j = 3 by omega) with rfl | rfl | rfl | rfl
      · exact hbc 0 _ rfl
      · exact hbc 1 _ rfl
      · exact hbc 2 _ rfl
      · exact hbc 3 _ rfl)
    exact h
  rw [hbl] at hcap
  rw [hbl]
  have HF := Lib.hid (HG5.out.trans hg6)
  have hc4 : 4 ≤ cap := by omega
  clear hown hhb htk hbl hbc hw hwr hg6 HG5 v0 v1 v2 v3 v4 v5 v6 hok
  generalize r.length = rl at hr1 hr2 hcap
  refine Lib.hid ?_
  go_wp2_with (go_at_call 11; refine (hn _ _).mono ?_; rintro e w' ⟨rfl, hw'⟩; obtain rfl := hw'.symm)
  go_ret
  exact ⟨rfl, HF.out⟩

end Go.Proofs.Ytcjainfcndlllaa
