/- Stage 19: the walk of CodeJumps (written by mkcen.py). -/
import Derived.Test.YtcjainfcndlllaaCeG
namespace Go.Proofs.Ytcjainfcndlllaa
open Go.RowKit Go.Maps Go.WideMaps

def Cd.jmp (at_ : Nat) (by_ : Int) (i : Nat) : Cd.Ins := ⟨7, if i = at_ then by_ else 0, 0⟩
theorem jmps_succ (at_ : Nat) (by_ : Int) (t : Nat) : (List.range' 0 (t + 1)).map (Cd.jmp at_ by_) = (List.range' 0 t).map (Cd.jmp at_ by_) ++ [Cd.jmp at_ by_ t] := by
  rw [List.range'_1_concat]
  simp
theorem jmps_len (at_ : Nat) (by_ : Int) (t : Nat) : ((List.range' 0 t).map (Cd.jmp at_ by_)).length = t := by simp

theorem jmps_rep : ∀ (k s at_ : Nat) (by_ : Int), at_ < s ∨ s + k ≤ at_ → (List.range' s k).map (Cd.jmp at_ by_) = List.replicate k Cd.j0
  | 0, _, _, _, _ => rfl
  | k + 1, s, at_, by_, h => by
    rw [List.range'_succ, List.map_cons, jmps_rep k (s + 1) at_ by_ (by omega), List.replicate_succ]
    congr 1
    unfold Cd.jmp Cd.j0
    rw [if_neg (by omega)]
theorem jmps_split (n at_ : Nat) (by_ : Int) (h : at_ + 1 < n) : (List.range' 0 n).map (Cd.jmp at_ by_) = List.replicate at_ Cd.j0 ++ (⟨7, by_, 0⟩ :: List.replicate (n - 1 - at_) Cd.j0) := by
  have e : List.range' 0 n = List.range' 0 at_ ++ (at_ :: List.range' (at_ + 1) (n - 1 - at_)) := by
    have h1 : n = at_ + ((n - 1 - at_) + 1) := by omega
    conv => lhs; rw [h1]
    rw [← List.range'_append_1, Nat.zero_add, List.range'_succ]
  rw [e, List.map_append, List.map_cons, jmps_rep at_ 0 at_ by_ (by omega), jmps_rep _ (at_ + 1) at_ by_ (by omega)]
  congr 2
  unfold Cd.jmp
  rw [if_pos rfl]
theorem jump_64 (b : List Cd.Ins) (hb : ∀ x ∈ b, Cd.I64 x.op ∧ Cd.I64 x.n ∧ Cd.I64 x.k) (hl : b.length ≤ 1000) : I64s (Cd.jumpC b) := by
  have hI : ∀ z : Int, 0 ≤ z → z ≤ 1000 → Cd.I64 z := fun z h1 h2 => by unfold Cd.I64; omega
  refine ⟨hI 0 (by decide) (by decide), hI 0 (by decide) (by decide), hI 0 (by decide) (by decide), hI 1 (by decide) (by decide), fun z hz => ?_, fun z hz => ?_, hb, (show 0 ≤ maxLen by unfold maxLen; decide), (show 0 ≤ maxLen by unfold maxLen; decide), ?_⟩
  · simp [Cd.jumpC] at hz
  · simp [Cd.jumpC] at hz
  · show b.length ≤ maxLen
    unfold maxLen
    omega
theorem jumpB_64 (at_ r : Nat) (by_ : Int) (hby : Cd.I64 by_) : ∀ x ∈ Cd.jumpB at_ r by_, Cd.I64 x.op ∧ Cd.I64 x.n ∧ Cd.I64 x.k := by
  have hI : ∀ z : Int, 0 ≤ z → z ≤ 1000 → Cd.I64 z := fun z h1 h2 => by unfold Cd.I64; omega
  have h0 : Cd.I64 Cd.j0.op ∧ Cd.I64 Cd.j0.n ∧ Cd.I64 Cd.j0.k := ⟨hI 7 (by decide) (by decide), hI 0 (by decide) (by decide), hI 0 (by decide) (by decide)⟩
  intro x hx
  unfold Cd.jumpB at hx
  simp only [List.mem_append, List.mem_cons, List.not_mem_nil, or_false] at hx
  rcases hx with h | rfl | h | rfl
  · rw [List.eq_of_mem_replicate h]; exact h0
  · exact ⟨hI 7 (by decide) (by decide), hby, hI 0 (by decide) (by decide)⟩
  · rw [List.eq_of_mem_replicate h]; exact h0
  · exact ⟨hI 9 (by decide) (by decide), hI 0 (by decide) (by decide), hI 0 (by decide) (by decide)⟩
theorem whenB_64 (at_ r : Nat) (by_ : Int) (hby : Cd.I64 by_) : ∀ x ∈ Cd.whenB at_ r by_, Cd.I64 x.op ∧ Cd.I64 x.n ∧ Cd.I64 x.k := by
  have hI : ∀ z : Int, 0 ≤ z → z ≤ 1000 → Cd.I64 z := fun z h1 h2 => by unfold Cd.I64; omega
  have h0 : Cd.I64 Cd.j0.op ∧ Cd.I64 Cd.j0.n ∧ Cd.I64 Cd.j0.k := ⟨hI 7 (by decide) (by decide), hI 0 (by decide) (by decide), hI 0 (by decide) (by decide)⟩
  intro x hx
  unfold Cd.whenB at hx
  simp only [List.mem_append, List.mem_cons, List.not_mem_nil, or_false] at hx
  rcases hx with h | rfl | rfl | h | rfl
  · rw [List.eq_of_mem_replicate h]; exact h0
  · exact ⟨hI 1 (by decide) (by decide), hI 1 (by decide) (by decide), hI 1 (by decide) (by decide)⟩
  · exact ⟨hI 8 (by decide) (by decide), hby, hI 0 (by decide) (by decide)⟩
  · rw [List.eq_of_mem_replicate h]; exact h0
  · exact ⟨hI 9 (by decide) (by decide), hI 0 (by decide) (by decide), hI 0 (by decide) (by decide)⟩

theorem insC_set_op : ∀ (l : List Cd.Ins) (i : Nat) (o n k o' : Int), l[i]? = some ⟨o, n, k⟩ → insC (l.set i ⟨o', n, k⟩) = (insC l).set (i * 3) (.int .i64 o')
  | [], i, _, _, _, _, h => by simp at h
  | y :: l, 0, o, n, k, o', h => by
    simp at h
    subst h
    rfl
  | y :: l, i + 1, o, n, k, o', h => by
    have ih := insC_set_op l i o n k o' (by simpa using h)
    have e : ∀ (z : Cd.Ins) (m : List Cd.Ins), insC (z :: m) = .int .i64 z.op :: .int .i64 z.n :: .int .i64 z.k :: insC m := fun _ _ => rfl
    rw [List.set_cons_succ, e, e, ih, show (i + 1) * 3 = i * 3 + 1 + 1 + 1 by omega]
    rfl

theorem when_split (n at_ : Nat) (by_ : Int) (h : at_ + 1 < n) (b2 b3 : List Cd.Ins) (h2 : b2 = ((List.range' 0 n).map (Cd.jmp at_ by_)).set at_ ⟨8, by_, 0⟩) (h3 : b3 = b2.take at_ ++ [⟨1, 1, 1⟩] ++ b2.drop at_) : b3 ++ [Cd.endI] = Cd.whenB at_ (n - 1 - at_) by_ := by
  have e : b2 = List.replicate at_ Cd.j0 ++ (⟨8, by_, 0⟩ :: List.replicate (n - 1 - at_) Cd.j0) := by
    rw [h2, jmps_split n at_ by_ h, List.set_append_right _ _ (by simp)]
    simp
  have e1 : b2.take at_ = List.replicate at_ Cd.j0 := by rw [e, List.take_left' (by simp)]
  have e2 : b2.drop at_ = ⟨8, by_, 0⟩ :: List.replicate (n - 1 - at_) Cd.j0 := by rw [e, List.drop_left' (by simp)]
  rw [h3, e1, e2]
  unfold Cd.whenB
  simp

set_option maxHeartbeats 8000000 in
set_option maxRecDepth 100000 in
theorem codeJumps_in (hC : CCheck) (hWr : CWrite) (n at_ : Nat) (by_ : Int) (hby : Cd.I64 by_) (wh : Bool) (h2 : 2 ≤ n) (hn : n ≤ 100) (ha : at_ + 1 < n) (w : World) : Calls Try.prog 4 #[.int .i64 (n : Int), .int .i64 (at_ : Int), .int .i64 by_, .bool wh] w fun e w' => e = .returned (.bool true) ∧ w.grownBy w' none := by
  have hal := alive19_any hC hWr w
  have hnum := fun k wx => num19_any k wx
  obtain ⟨i0, hi, hz0, hzs, hzb⟩ := info_parts info_i
  have d1 : decide ((n : Int) < 2) = false := by rw [decide_eq_false_iff_not]; omega
  have d2 : decide ((100 : Int) < n) = false := by rw [decide_eq_false_iff_not]; omega
  have d3 : decide ((at_ : Int) < 0) = false := by rw [decide_eq_false_iff_not]; omega
  have d4 : decide ((n : Int) - 1 ≤ (at_ : Int)) = false := by rw [decide_eq_false_iff_not]; omega
  go_enter Try.func4, Try.ntmps4
  go_wp2_with (go_at_call 8; refine hal.mono ?_; rintro e w1 ⟨rfl, hg1⟩; refine Hid.out ?_)
  have HG1 := Lib.hid hg1
  clear hg1 hal
  refine Lib.hid ?_
  go_wp2
  obtain ⟨W0, hW0⟩ : ∃ W0, W0 = w1.alloc (.cells #[.slice none 0 0, .int .i64 0, .int .i64 0, .int .i64 0, .int .i64 1, .slice none 0 0, .slice none 0 0] 25) := ⟨_, rfl⟩
  have hB0 : Bd w1 W0 (w1.heap.size) [.slice none 0 0, .int .i64 0, .int .i64 0, .int .i64 0, .int .i64 1, .slice none 0 0] (.slice none 0 0) [] := by
    rw [hW0]
    exact ⟨heap_alloc_new w1 _, World.ownsRow_nil _ _ _ _, World.grownBy_alloc w1 _ none, Nat.le_refl _⟩
  rw [← hW0]
  clear hW0
  go_loopw [11] (fun iv wr => ∃ (t : Nat) (v : Value), t ≤ n ∧ iv = .int .i64 (t : Int) ∧ Hid (Bd w1 wr (w1.heap.size) [.slice none 0 0, .int .i64 0, .int .i64 0, .int .i64 0, .int .i64 1, .slice none 0 0] v ((List.range' 0 t).map (Cd.jmp at_ by_)))) (fun i _ => n - (intOf i).toNat)
  case atStart => exact ⟨0, _, Nat.zero_le _, rfl, Lib.hid hB0⟩
  case round =>
    obtain ⟨t, v, ht, rfl, HB⟩ := hrel
    clear hB0
    by_cases hlt : t < n
    · obtain ⟨a, c, rfl, -⟩ := HB.out.form
      have hlen := jmps_len at_ by_ t
      rw [hlen] at HB
      have c6 := cell_of_row wr _ 6 _ _ _ HB.out.row
      by_cases hta : t = at_
      · have e1 : ((t : Int) == (at_ : Int)) = true := by rw [beq_iff_eq]; omega
        have HT := Lib.hid hta
        clear hta
        have hA1 := HB.out.alloc (.cells #[.int .i64 7, .int .i64 by_, .int .i64 0] 33)
        have c7 : (wr.alloc (.cells #[.int .i64 7, .int .i64 by_, .int .i64 0] 33)).cell? ⟨w1.heap.size, 6, none⟩ = some (.slice a t c) := (cell_of_row _ _ 6 _ _ _ hA1.row).trans rfl
        have hB1 := hA1.alloc (.cells #[.int .i64 7, .int .i64 by_, .int .i64 0] 33)
        have hz1 := hB1.own
        have HB1 := Lib.hid hB1
        clear hB1 hA1
        go_wp2_with (at_builtin; refine Hid.out ?_)
        refine Lib.hid ?_
        refine wpList_append_own _ rfl _ _ 23 rfl (w1.heap.size + 1) 33 i0 _ 3 24 Try.underlying23 hi hz0 hzs hzb rfl (by decide) _ ((List.range' 0 t).map (Cd.jmp at_ by_)).length (insC ((List.range' 0 t).map (Cd.jmp at_ by_))) rfl hz1 ⟨wr.heap.size + 1, 0, none⟩ 1 1 (insC [⟨7, by_, 0⟩]) rfl rfl ?c1 ?c2 ?c3 ?c4 ?c5 ?_
        case c1 =>
          have hnb := heap_alloc_new (wr.alloc (.cells #[.int .i64 7, .int .i64 by_, .int .i64 0] 33)) (.cells #[.int .i64 7, .int .i64 by_, .int .i64 0] 33)
          rw [World.size_alloc] at hnb
          exact row_cells hnb
        case c2 => intro u hu; simp [insC] at hu; rcases hu with rfl | rfl | rfl <;> rfl
        case c3 => simp [maxLen]; omega
        case c4 => simp; omega
        case c5 => have := (Array.getElem?_eq_some_iff.1 HB.out.row).1; simp; omega
        intro v' w3 hown' hgr _
        have hrow3 := (hgr.block (w1.heap.size) (Array.getElem?_eq_some_iff.1 HB1.out.row).1 (fun e => HB1.out.ne e.symm)).trans HB1.out.row
        have k6 := cell_of_row w3 _ 6 _ _ _ hrow3
        have z6 := Lib.frozen_of_heap hrow3 6
        obtain ⟨a', m', c', rfl⟩ : ∃ a' m' c', v' = .slice a' m' c' := by
          rcases hown'.2 with ⟨hv, _⟩ | ⟨g, cap, cur, hv, _⟩
          · exact ⟨_, _, _, hv⟩
          · exact ⟨_, _, _, hv⟩
        have HN := Lib.hid (HB1.out.put (more := [⟨7, by_, 0⟩]) rfl (by simp) hown' hgr)
        clear hown' hgr hrow3 HB1 hz1
        go_wp2
        refine ⟨⟨t + 1, .slice a' m' c', by omega, by go_num, Lib.hid ?_⟩, by simp [intOf]; omega⟩
        have := HN.out
        rw [show (⟨7, by_, 0⟩ : Cd.Ins) = Cd.jmp at_ by_ t by unfold Cd.jmp; rw [if_pos HT.out], ← jmps_succ] at this
        exact this
      · have e1 : ((t : Int) == (at_ : Int)) = false := by rw [beq_eq_false_iff_ne]; omega
        have HT := Lib.hid hta
        clear hta
        have hA1 := HB.out.alloc (.cells #[.int .i64 7, .int .i64 0, .int .i64 0] 33)
        have c7 : (wr.alloc (.cells #[.int .i64 7, .int .i64 0, .int .i64 0] 33)).cell? ⟨w1.heap.size, 6, none⟩ = some (.slice a t c) := (cell_of_row _ _ 6 _ _ _ hA1.row).trans rfl
        have hB1 := hA1.alloc (.cells #[.int .i64 7, .int .i64 0, .int .i64 0] 33)
        have hz1 := hB1.own
        have HB1 := Lib.hid hB1
        clear hB1 hA1
        go_wp2_with (at_builtin; refine Hid.out ?_)
        refine Lib.hid ?_
        refine wpList_append_own _ rfl _ _ 23 rfl (w1.heap.size + 1) 33 i0 _ 3 24 Try.underlying23 hi hz0 hzs hzb rfl (by decide) _ ((List.range' 0 t).map (Cd.jmp at_ by_)).length (insC ((List.range' 0 t).map (Cd.jmp at_ by_))) rfl hz1 ⟨wr.heap.size + 1, 0, none⟩ 1 1 (insC [⟨7, 0, 0⟩]) rfl rfl ?c1 ?c2 ?c3 ?c4 ?c5 ?_
        case c1 =>
          have hnb := heap_alloc_new (wr.alloc (.cells #[.int .i64 7, .int .i64 0, .int .i64 0] 33)) (.cells #[.int .i64 7, .int .i64 0, .int .i64 0] 33)
          rw [World.size_alloc] at hnb
          exact row_cells hnb
        case c2 => intro u hu; simp [insC] at hu; rcases hu with rfl | rfl | rfl <;> rfl
        case c3 => simp [maxLen]; omega
        case c4 => simp; omega
        case c5 => have := (Array.getElem?_eq_some_iff.1 HB.out.row).1; simp; omega
        intro v' w3 hown' hgr _
        have hrow3 := (hgr.block (w1.heap.size) (Array.getElem?_eq_some_iff.1 HB1.out.row).1 (fun e => HB1.out.ne e.symm)).trans HB1.out.row
        have k6 := cell_of_row w3 _ 6 _ _ _ hrow3
        have z6 := Lib.frozen_of_heap hrow3 6
        obtain ⟨a', m', c', rfl⟩ : ∃ a' m' c', v' = .slice a' m' c' := by
          rcases hown'.2 with ⟨hv, _⟩ | ⟨g, cap, cur, hv, _⟩
          · exact ⟨_, _, _, hv⟩
          · exact ⟨_, _, _, hv⟩
        have HN := Lib.hid (HB1.out.put (more := [⟨7, 0, 0⟩]) rfl (by simp) hown' hgr)
        clear hown' hgr hrow3 HB1 hz1
        go_wp2
        refine ⟨⟨t + 1, .slice a' m' c', by omega, by go_num, Lib.hid ?_⟩, by simp [intOf]; omega⟩
        have := HN.out
        rw [show (⟨7, 0, 0⟩ : Cd.Ins) = Cd.jmp at_ by_ t by unfold Cd.jmp; rw [if_neg HT.out], ← jmps_succ] at this
        exact this
    · obtain rfl : t = n := by omega
      obtain ⟨a, c, rfl, -⟩ := HB.out.form
      have HLEN := Lib.hid (jmps_len at_ by_ t)
      have HBY := Lib.hid hby
      clear hby hlt ht
      cases wh with
      | false =>
        rw [HLEN.out] at HB
        have c6 := cell_of_row wr _ 6 _ _ _ HB.out.row
        have hB1 := HB.out.alloc (.cells #[.int .i64 9, .int .i64 0, .int .i64 0] 33)
        have hz1 := hB1.own
        have HB1 := Lib.hid hB1
        clear hB1
        go_wp2_with (at_builtin; refine wpList_append_own _ rfl _ _ 23 rfl (w1.heap.size + 1) 33 i0 _ 3 24 Try.underlying23 hi hz0 hzs hzb rfl (by decide) _ ((List.range' 0 t).map (Cd.jmp at_ by_)).length (insC ((List.range' 0 t).map (Cd.jmp at_ by_))) rfl hz1 ⟨wr.heap.size, 0, none⟩ 1 1 (insC [Cd.endI]) rfl rfl ?c1 ?c2 ?c3 ?c4 ?c5 ?_)
        case c1 => first | exact row_cells (heap_alloc_new wr (.cells #[.int .i64 9, .int .i64 0, .int .i64 0] 33)) | exact fun _ _ h => h
        case c2 => intro u hu; simp [insC, Cd.endI] at hu; rcases hu with rfl | rfl | rfl <;> rfl
        case c3 => rw [HLEN.out]; unfold maxLen; omega
        case c4 => rw [HLEN.out]; omega
        case c5 => have := (Array.getElem?_eq_some_iff.1 HB.out.row).1; simp; omega
        intro v' w3 hown' hgr _
        have hrow3 := (hgr.block (w1.heap.size) (Array.getElem?_eq_some_iff.1 HB1.out.row).1 (fun e => HB1.out.ne e.symm)).trans HB1.out.row
        have k6 := cell_of_row w3 _ 6 _ _ _ hrow3
        have z6 := Lib.frozen_of_heap hrow3 6
        obtain ⟨a', m', c', rfl⟩ : ∃ a' m' c', v' = .slice a' m' c' := by
          rcases hown'.2 with ⟨hv, _⟩ | ⟨g, cap, cur, hv, _⟩
          · exact ⟨_, _, _, hv⟩
          · exact ⟨_, _, _, hv⟩
        have HN := Lib.hid (HB1.out.put (more := [Cd.endI]) rfl (by simp) hown' hgr)
        clear hown' hgr hrow3 HB1 hz1
        rw [show (List.range' 0 t).map (Cd.jmp at_ by_) ++ [Cd.endI] = Cd.jumpB at_ (t - 1 - at_) by_ by rw [jmps_split t at_ by_ ha]; unfold Cd.jumpB; simp] at HN
        obtain ⟨a2, c2, e2, hi2⟩ := HN.out.form
        cases e2
        have hck := hC (w3.setCell ⟨w1.heap.size, 6, none⟩ (.slice a' (Cd.jumpB at_ (t - 1 - at_) by_).length c')) (Cd.jumpC (Cd.jumpB at_ (t - 1 - at_) by_)) none 0 none 0 a' c' ⟨NumsAt.nil _ _, NumsAt.nil _ _, hi2⟩ (jump_64 _ (jumpB_64 _ _ _ HBY.out) (by unfold Cd.jumpB; simp; omega)) (by exact Nat.le_refl _)
        rw [Cd.jump_check _ _ _ (by omega), show codeV (Cd.jumpC (Cd.jumpB at_ (t - 1 - at_) by_)) none 0 none 0 a' c' = #[.slice none 0 0, .int .i64 0, .int .i64 0, .int .i64 0, .int .i64 1, .slice none 0 0, .slice a' (Cd.jumpB at_ (t - 1 - at_) by_).length c'] from rfl] at hck
        have hr := HN.out.row
        have y0 := cell_of_row _ _ 0 _ _ _ hr
        have y1 := cell_of_row _ _ 1 _ _ _ hr
        have y2 := cell_of_row _ _ 2 _ _ _ hr
        have y3 := cell_of_row _ _ 3 _ _ _ hr
        have y4 := cell_of_row _ _ 4 _ _ _ hr
        have y5 := cell_of_row _ _ 5 _ _ _ hr
        have y6 := cell_of_row _ _ 6 _ _ _ hr
        have HGr := Lib.hid (HG1.out.trans HN.out.gr)
        clear hr hi2 HN HB
        have HCK := Lib.hid hck
        clear hck
        obtain ⟨l9, hl9⟩ : ∃ l9, l9 = (Cd.jumpB at_ (t - 1 - at_) by_).length := ⟨_, rfl⟩
        rw [← hl9] at y6 HCK HGr y0 y1 y2 y3 y4 y5 ⊢
        clear hl9
        by_cases q1 : 0 ≤ by_
        · have e1 : decide (0 ≤ by_) = true := by rw [decide_eq_true_iff]; exact q1
          by_cases q2 : by_ ≤ ((t - 1 - at_ : Nat) : Int)
          · have e2 : decide (by_ ≤ (t : Int) - (at_ : Int) - 1) = true := by rw [decide_eq_true_iff]; omega
            have hck := HCK.out
            rw [if_pos ⟨q1, q2⟩] at hck
            go_wp2_with (first
              | (go_at_call 10; refine hck.mono ?_; rintro e w6 ⟨rfl, hg6⟩)
              | (go_at_call 11; refine (hnum _ _).mono ?_; rintro e w' ⟨rfl, hw'⟩; obtain rfl := hw'.symm))
            go_ret
            exact ⟨rfl, HGr.out.trans hg6⟩
          · have e2 : decide (by_ ≤ (t : Int) - (at_ : Int) - 1) = false := by rw [decide_eq_false_iff_not]; omega
            have hck := HCK.out
            rw [if_neg (fun h => q2 h.2)] at hck
            go_wp2_with (first
              | (go_at_call 10; refine hck.mono ?_; rintro e w6 ⟨rfl, hg6⟩)
              | (go_at_call 11; refine (hnum _ _).mono ?_; rintro e w' ⟨rfl, hw'⟩; obtain rfl := hw'.symm))
            go_ret
            exact ⟨rfl, HGr.out.trans hg6⟩
        · have e1 : decide (0 ≤ by_) = false := by rw [decide_eq_false_iff_not]; exact q1
          have hck := HCK.out
          rw [if_neg (fun h => q1 h.1)] at hck
          go_wp2_with (first
            | (go_at_call 10; refine hck.mono ?_; rintro e w6 ⟨rfl, hg6⟩)
            | (go_at_call 11; refine (hnum _ _).mono ?_; rintro e w' ⟨rfl, hw'⟩; obtain rfl := hw'.symm))
          go_ret
          exact ⟨rfl, HGr.out.trans hg6⟩
      | true =>
        obtain ⟨g, cap, hv, hgC, hcap, hmax, hfz, hcell⟩ := HB.out.inner (by rw [HLEN.out]; omega)
        rw [HLEN.out] at hv hcap
        cases hv
        have hx : ((List.range' 0 t).map (Cd.jmp at_ by_))[at_]? = some ⟨7, by_, 0⟩ := by rw [jmps_split t at_ by_ ha]; simp
        have k3 : wr.cell? ⟨g, at_ * 3, none⟩ = some (.int .i64 7) := hcell _ _ (insC_at _ _ _ hx).1
        have z3 := hfz (at_ * 3)
        have c6 := cell_of_row wr _ 6 _ _ _ HB.out.row
        have hidx : decide ((at_ : Int) < (t : Int)) = true := by rw [decide_eq_true_iff]; omega
        go_upto_region 14 with fail
        have hB2 := HB.out.set (body' := ((List.range' 0 t).map (Cd.jmp at_ by_)).set at_ ⟨8, by_, 0⟩) (by rw [HLEN.out]; omega) (at_ * 3) (.int .i64 8) (insC_set_op _ _ _ _ _ _ hx) (by simp)
        obtain ⟨b2, hb2⟩ : ∃ b2, b2 = ((List.range' 0 t).map (Cd.jmp at_ by_)).set at_ ⟨8, by_, 0⟩ := ⟨_, rfl⟩
        rw [← hb2] at hB2
        have hl2 : b2.length = t := by rw [hb2]; simp
        have HB2E := Lib.hid hb2
        have hS0 := hB2.onto (row := none) (wr' := (wr.setCell ⟨g, at_ * 3, none⟩ (.int .i64 8)).drew) ⟨rfl, rfl, rfl, Nat.le_refl _, fun _ _ _ => rfl⟩ (.inl (Nat.le_refl _)) (fun k e => by cases e)
        rw [HLEN.out] at hS0
        clear hb2 hB2 hx k3 z3 c6 hfz hcell HB hidx
        refine wp_region_L (S := fun w' => Bd w1 w' (w1.heap.size) [.slice none 0 0, .int .i64 0, .int .i64 0, .int .i64 0, .int .i64 1, .slice none 0 0] (.slice (some ⟨g, 0, none⟩) t c) b2) (Z := [14]) (by kernel_rfl) ?_
        obtain ⟨Wd, hWd⟩ : ∃ Wd, Wd = (wr.setCell ⟨g, at_ * 3, none⟩ (.int .i64 8)).drew := ⟨_, rfl⟩
        rw [← hWd] at hS0 ⊢
        clear hWd
        have hS := hS0
        clear hS0
        (try simp only [Act.put, sA, sB, sC])
        refine t1 0 60 (.pointer (some ⟨w1.heap.size, 6, none⟩)) hS ?_
        (try simp only [Act.put, sA, sB, sC])
        refine t2 1 61 (.slice (some ⟨g, 0, none⟩) t c) (fun w' hw' => ?_) hS ?_
        · have c6 : w'.cell? ⟨w1.heap.size, 6, none⟩ = some (.slice (some ⟨g, 0, none⟩) t c) := (cell_of_row _ _ 6 _ _ _ hw'.row).trans rfl
          clear hw' hS
          go_simp
        (try simp only [Act.put, sA, sB, sC])
        refine t1 2 62 (.int .i64 (at_ : Int)) hS ?_
        (try simp only [Act.put, sA, sB, sC])
        have q1 : at_ ≤ c := by omega
        have q2 : at_ ≤ t := by omega
        refine t2 3 63 (.slice (some ⟨g, 0, none⟩) at_ c) (fun w' hw' => ?_) hS ?_
        · clear hw' hS
          go_simp
        (try simp only [Act.put, sA, sB, sC])
        refine t1 5 65 (.agg #[.int .i64 1, .int .i64 1, .int .i64 1]) hS ?_
        (try simp only [Act.put, sA, sB, sC])
        refine t1 8 68 (.pointer (some ⟨w1.heap.size, 6, none⟩)) hS ?_
        (try simp only [Act.put, sA, sB, sC])
        refine t2 9 69 (.slice (some ⟨g, 0, none⟩) t c) (fun w' hw' => ?_) hS ?_
        · have c6 : w'.cell? ⟨w1.heap.size, 6, none⟩ = some (.slice (some ⟨g, 0, none⟩) t c) := (cell_of_row _ _ 6 _ _ _ hw'.row).trans rfl
          clear hw' hS
          go_simp
        (try simp only [Act.put, sA, sB, sC])
        refine t1 10 70 (.int .i64 (at_ : Int)) hS ?_
        (try simp only [Act.put, sA, sB, sC])
        refine t2 11 71 (.slice (some ⟨g, at_ * 3, none⟩) (t - at_) (c - at_)) (fun w' hw' => ?_) hS ?_
        · clear hw' hS
          go_simp
          intro e
          omega
        (try simp only [Act.put, sA, sB, sC])
        have hCd : w1.heap.size < Wd.heap.size := (Array.getElem?_eq_some_iff.1 hS.row).1
        have hgd : g < Wd.heap.size := (hS.own.lt g rfl).2
        have hone : ∀ (l : List Cd.Ins), ∀ u ∈ insC l, u.oneCell' = true := fun l u hu => by
          unfold insC at hu
          simp only [List.mem_flatten, List.mem_map] at hu
          obtain ⟨_, ⟨x, _, rfl⟩, hu⟩ := hu
          simp at hu
          rcases hu with rfl | rfl | rfl <;> rfl
        have htl : (insC (b2.take at_)).length = at_ * 3 := by rw [insC_len, List.length_take, hl2, Nat.min_eq_left q2]
        have hdl : (insC (b2.drop at_)).length = (t - at_) * 3 := by rw [insC_len, List.length_drop, hl2]
        have hsp : insC b2 = insC (b2.take at_) ++ insC (b2.drop at_) := by rw [← insC_append, List.take_append_drop]
        have hct : ∀ X, Bd w1 X (w1.heap.size) [.slice none 0 0, .int .i64 0, .int .i64 0, .int .i64 0, .int .i64 1, .slice none 0 0] (.slice (some ⟨g, 0, none⟩) t c) b2 → ∀ j u, (insC (b2.take at_))[j]? = some u → X.cell? ((⟨g, 0, none⟩ : Addr).add j) = some u := fun X hX j u hj => by
          obtain ⟨g', c', hv, _, _, _, _, hc⟩ := hX.inner (by rw [hl2]; omega)
          cases hv
          have e : (⟨g, 0, none⟩ : Addr).add j = ⟨g, j, none⟩ := by unfold Addr.add; split <;> simp_all
          rw [e]
          refine hc j u ?_
          rw [hsp, List.getElem?_append_left (List.getElem?_eq_some_iff.1 hj).1]
          exact hj
        have hcd : ∀ X, Bd w1 X (w1.heap.size) [.slice none 0 0, .int .i64 0, .int .i64 0, .int .i64 0, .int .i64 1, .slice none 0 0] (.slice (some ⟨g, 0, none⟩) t c) b2 → ∀ j u, (insC (b2.drop at_))[j]? = some u → X.cell? ((⟨g, at_ * 3, none⟩ : Addr).add j) = some u := fun X hX j u hj => by
          obtain ⟨g', c', hv, _, _, _, _, hc⟩ := hX.inner (by rw [hl2]; omega)
          cases hv
          have e : (⟨g, at_ * 3, none⟩ : Addr).add j = ⟨g, at_ * 3 + j, none⟩ := by unfold Addr.add; split <;> simp_all
          rw [e]
          refine hc _ u ?_
          rw [hsp, List.getElem?_append_right (by omega), htl, Nat.add_sub_cancel_left]
          exact hj
        refine wpL_both (i := 4) (j := 6) (by kernel_rfl) ?_ ?_
        · refine wpOp_now rfl (by kernel_rfl) (fun K' hK => ?_)
          refine wp_append_own Wd (.const (.slice none 0 0)) (.tmp 63) 23 rfl Wd.heap.size 33 i0 _ 3 24 Try.underlying23 hi hz0 hzs hzb rfl (by decide) (.slice none 0 0) 0 [] rfl (World.ownsRow_nil _ _ _ _) ⟨g, 0, none⟩ at_ c (insC (b2.take at_)) rfl htl (hct Wd hS) (hone _) (by unfold maxLen; omega) (by omega) (Nat.le_refl _) (fun v1 x1 hown1 hg1 _ => ?_)
          have hSa := hS.onto (row := none) hg1 (.inl (Nat.le_refl _)) (fun k e => by cases e)
          refine hK _ _ ⟨fun _ => hSa, ?_⟩
          (try simp only [Act.put, sA])
          refine wpL_val (i := 6) (d := 66) (v := .slice (some ⟨x1.heap.size, 0, none⟩) 1 1) (w' := x1.alloc (.cells (insC [⟨1, 1, 1⟩]).toArray 33)) (by kernel_rfl) rfl rfl (by kernel_rfl) (by kernel_rfl) (hSa.alloc _) ?_
          (try simp only [Act.put])
          have hrow := heap_alloc_new x1 (.cells (insC [⟨1, 1, 1⟩]).toArray 33)
          have hSX := hSa.alloc (.cells (insC [⟨1, 1, 1⟩]).toArray 33)
          have hown := hown1.kept (World.grownBy_alloc x1 (.cells (insC [⟨1, 1, 1⟩]).toArray 33) none) (by cases hv : v1.ownBlock <;> simp)
          have hzX : Wd.heap.size ≤ (x1.alloc (.cells (insC [⟨1, 1, 1⟩]).toArray 33)).heap.size := by rw [World.size_alloc]; have := hg1.size; omega
          rw [Nat.zero_add, List.nil_append] at hown
          obtain ⟨X, hX⟩ : ∃ X, X = x1.alloc (.cells (insC [⟨1, 1, 1⟩]).toArray 33) := ⟨_, rfl⟩
          obtain ⟨A, hA⟩ : ∃ A, A = x1.heap.size := ⟨_, rfl⟩
          rw [← hX] at hrow hSX hown hzX ⊢
          rw [← hA] at hrow ⊢
          clear hX hA hSa hown1 hg1 hS
          have hlt1 := hown.lt
          refine wpL_one (i := 7) (by kernel_rfl) (wpOp_now rfl (by kernel_rfl) (fun K' hK => ?_))
          refine wp_append_own X (.tmp 64) (.tmp 66) 23 rfl Wd.heap.size 33 i0 _ 3 24 Try.underlying23 hi hz0 hzs hzb rfl (by decide) v1 at_ (insC (b2.take at_)) rfl hown ⟨A, 0, none⟩ 1 1 (insC [⟨1, 1, 1⟩]) rfl rfl (row_cells hrow) (hone _) (by unfold maxLen; omega) (by omega) hzX (fun v2 x2 hown2 hg2 _ => ?_)
          have hS2 := hSX.onto (B := Wd.heap.size) hg2 (.inr ⟨hCd, fun k e => by cases e; exact hgd⟩) (fun k e => (hlt1 k e).1)
          refine hK _ _ ⟨fun _ => hS2, ?_⟩
          (try simp only [Act.put])
          have hlt2 := hown2.lt
          refine wpL_one (i := 12) (by kernel_rfl) (wpOp_now rfl (by kernel_rfl) (fun K' hK => ?_))
          refine wp_append_own x2 (.tmp 67) (.tmp 71) 23 rfl Wd.heap.size 33 i0 _ 3 24 Try.underlying23 hi hz0 hzs hzb rfl (by decide) v2 (at_ + 1) (insC (b2.take at_) ++ insC [⟨1, 1, 1⟩]) rfl hown2 ⟨g, at_ * 3, none⟩ (t - at_) (c - at_) (insC (b2.drop at_)) rfl hdl (hcd _ hS2) (hone _) (by unfold maxLen; omega) (by omega) (Nat.le_trans hzX hg2.size) (fun v3 x3 hown3 hg3 _ => ?_)
          have hS3 := hS2.onto (B := Wd.heap.size) hg3 (.inr ⟨hCd, fun k e => by cases e; exact hgd⟩) (fun k e => (hlt2 k e).1)
          refine hK _ _ ⟨fun _ => hS3, ?_⟩
          (try simp only [Act.put])
          refine t1 13 73 (.pointer (some ⟨w1.heap.size, 6, none⟩)) hS3 ?_
          (try simp only [Act.put])
          rw [← insC_append, ← insC_append] at hown3
          obtain ⟨b3, hb3⟩ : ∃ b3, b3 = b2.take at_ ++ [⟨1, 1, 1⟩] ++ b2.drop at_ := ⟨_, rfl⟩
          rw [← hb3] at hown3
          have hl3 : b3.length = t + 1 := by rw [hb3]; simp [hl2]; omega
          have hn3 : at_ + 1 + (t - at_) = t + 1 := by omega
          rw [hn3] at hown3
          have hB3 := hS3.swap hown3 hCd hl3.symm rfl
          obtain ⟨a', c', hv', hin⟩ := hB3.form
          have hv2 : v3 = .slice a' (t + 1) c' := by rw [hv', hl3]
          clear hv' hin
          subst hv2
          have k6 : x3.cell? ⟨w1.heap.size, 6, none⟩ = some (.slice (some ⟨g, 0, none⟩) t c) := (cell_of_row _ _ 6 _ _ _ hS3.row).trans rfl
          have z6 := Lib.frozen_of_heap hS3.row 6
          have HBN := Lib.hid hB3
          have HB3E := Lib.hid hb3
          have HLEN3 := Lib.hid hl3
          clear hown hown2 hown3 hg2 hg3 hSX hS2 hS3 hrow hlt1 hlt2 hB3 hb3 hl3 hn3
          refine wpL_one (i := 14) (by kernel_rfl) (wpOp_now rfl (by kernel_rfl) (fun K' hK => ?_))
          unfold Oper.wp
          go_simp
          refine hK _ _ ⟨fun h => absurd (List.mem_singleton.2 rfl) h, ?_⟩
          refine wpL_done (by kernel_rfl) ?_ _
          obtain ⟨wz, hwz⟩ : ∃ wz, wz = x3.setCell ⟨w1.heap.size, 6, none⟩ (.slice a' (t + 1) c') := ⟨_, rfl⟩
          rw [← hwz] at HBN ⊢
          clear hwz k6 z6 hct hcd hone htl hdl hsp
          have c6 := cell_of_row wz _ 6 _ _ _ HBN.out.row
          have hB1 := HBN.out.alloc (.cells #[.int .i64 9, .int .i64 0, .int .i64 0] 33)
          have hz1 := hB1.own
          have HB1 := Lib.hid hB1
          clear hB1
          go_wp2_with (at_builtin; refine wpList_append_own _ rfl _ _ 23 rfl (w1.heap.size + 1) 33 i0 _ 3 24 Try.underlying23 hi hz0 hzs hzb rfl (by decide) _ (b3).length (insC (b3)) rfl hz1 ⟨wz.heap.size, 0, none⟩ 1 1 (insC [Cd.endI]) rfl rfl ?c1 ?c2 ?c3 ?c4 ?c5 ?_)
          case c1 => first | exact row_cells (heap_alloc_new wz (.cells #[.int .i64 9, .int .i64 0, .int .i64 0] 33)) | exact fun _ _ h => h
          case c2 => intro u hu; simp [insC, Cd.endI] at hu; rcases hu with rfl | rfl | rfl <;> rfl
          case c3 => rw [HLEN3.out]; unfold maxLen; omega
          case c4 => rw [HLEN3.out]; omega
          case c5 => have := (Array.getElem?_eq_some_iff.1 HBN.out.row).1; simp; omega
          intro v' w3 hown' hgr _
          have hrow3 := (hgr.block (w1.heap.size) (Array.getElem?_eq_some_iff.1 HB1.out.row).1 (fun e => HB1.out.ne e.symm)).trans HB1.out.row
          have k6 := cell_of_row w3 _ 6 _ _ _ hrow3
          have z6 := Lib.frozen_of_heap hrow3 6
          obtain ⟨a', m', c', rfl⟩ : ∃ a' m' c', v' = .slice a' m' c' := by
            rcases hown'.2 with ⟨hv, _⟩ | ⟨g, cap, cur, hv, _⟩
            · exact ⟨_, _, _, hv⟩
            · exact ⟨_, _, _, hv⟩
          have HN := Lib.hid (HB1.out.put (more := [Cd.endI]) rfl (by simp) hown' hgr)
          clear hown' hgr hrow3 HB1 hz1
          rw [show b3 ++ [Cd.endI] = Cd.whenB at_ (t - 1 - at_) by_ by exact when_split t at_ by_ ha b2 b3 HB2E.out HB3E.out] at HN
          obtain ⟨a2, c2, e2, hi2⟩ := HN.out.form
          cases e2
          have hck := hC (w3.setCell ⟨w1.heap.size, 6, none⟩ (.slice a' (Cd.whenB at_ (t - 1 - at_) by_).length c')) (Cd.jumpC (Cd.whenB at_ (t - 1 - at_) by_)) none 0 none 0 a' c' ⟨NumsAt.nil _ _, NumsAt.nil _ _, hi2⟩ (jump_64 _ (whenB_64 _ _ _ HBY.out) (by unfold Cd.whenB; simp; omega)) (by exact Nat.le_refl _)
          rw [Cd.when_check _ _ _ (by omega), show codeV (Cd.jumpC (Cd.whenB at_ (t - 1 - at_) by_)) none 0 none 0 a' c' = #[.slice none 0 0, .int .i64 0, .int .i64 0, .int .i64 0, .int .i64 1, .slice none 0 0, .slice a' (Cd.whenB at_ (t - 1 - at_) by_).length c'] from rfl] at hck
          have hr := HN.out.row
          have y0 := cell_of_row _ _ 0 _ _ _ hr
          have y1 := cell_of_row _ _ 1 _ _ _ hr
          have y2 := cell_of_row _ _ 2 _ _ _ hr
          have y3 := cell_of_row _ _ 3 _ _ _ hr
          have y4 := cell_of_row _ _ 4 _ _ _ hr
          have y5 := cell_of_row _ _ 5 _ _ _ hr
          have y6 := cell_of_row _ _ 6 _ _ _ hr
          have HGr := Lib.hid (HG1.out.trans HN.out.gr)
          clear hr hi2 HN HBN
          have HCK := Lib.hid hck
          clear hck
          obtain ⟨l9, hl9⟩ : ∃ l9, l9 = (Cd.whenB at_ (t - 1 - at_) by_).length := ⟨_, rfl⟩
          rw [← hl9] at y6 HCK HGr y0 y1 y2 y3 y4 y5 ⊢
          clear hl9
          by_cases q1 : 0 ≤ by_
          · have e1 : decide (0 ≤ by_) = true := by rw [decide_eq_true_iff]; exact q1
            by_cases q2 : by_ ≤ ((t - 1 - at_ : Nat) : Int)
            · have e2 : decide (by_ ≤ (t : Int) + 1 - ((at_ : Int) + 1) - 1) = true := by rw [decide_eq_true_iff]; omega
              have hck := HCK.out
              rw [if_pos ⟨q1, q2⟩] at hck
              go_wp2_with (first
                | (go_at_call 10; refine hck.mono ?_; rintro e w6 ⟨rfl, hg6⟩)
                | (go_at_call 11; refine (hnum _ _).mono ?_; rintro e w' ⟨rfl, hw'⟩; obtain rfl := hw'.symm))
              go_ret
              exact ⟨rfl, HGr.out.trans hg6⟩
            · have e2 : decide (by_ ≤ (t : Int) + 1 - ((at_ : Int) + 1) - 1) = false := by rw [decide_eq_false_iff_not]; omega
              have hck := HCK.out
              rw [if_neg (fun h => q2 h.2)] at hck
              go_wp2_with (first
                | (go_at_call 10; refine hck.mono ?_; rintro e w6 ⟨rfl, hg6⟩)
                | (go_at_call 11; refine (hnum _ _).mono ?_; rintro e w' ⟨rfl, hw'⟩; obtain rfl := hw'.symm))
              go_ret
              exact ⟨rfl, HGr.out.trans hg6⟩
          · have e1 : decide (0 ≤ by_) = false := by rw [decide_eq_false_iff_not]; exact q1
            have hck := HCK.out
            rw [if_neg (fun h => q1 h.1)] at hck
            go_wp2_with (first
              | (go_at_call 10; refine hck.mono ?_; rintro e w6 ⟨rfl, hg6⟩)
              | (go_at_call 11; refine (hnum _ _).mono ?_; rintro e w' ⟨rfl, hw'⟩; obtain rfl := hw'.symm))
            go_ret
            exact ⟨rfl, HGr.out.trans hg6⟩
        · refine wpOp_val (d := 66) (v := .slice (some ⟨Wd.heap.size, 0, none⟩) 1 1) (w' := Wd.alloc (.cells (insC [⟨1, 1, 1⟩]).toArray 33)) rfl rfl (by kernel_rfl) (by kernel_rfl) ⟨fun _ => hS.alloc _, ?_⟩
          (try simp only [Act.put, sA, sB, sC])
          have hSa := hS.alloc (.cells (insC [⟨1, 1, 1⟩]).toArray 33)
          have hrow1 := heap_alloc_new Wd (.cells (insC [⟨1, 1, 1⟩]).toArray 33)
          refine wpL_one (i := 4) (by kernel_rfl) (wpOp_now rfl (by kernel_rfl) (fun K' hK => ?_))
          refine wp_append_own (Wd.alloc (.cells (insC [⟨1, 1, 1⟩]).toArray 33)) (.const (.slice none 0 0)) (.tmp 63) 23 rfl Wd.heap.size 33 i0 _ 3 24 Try.underlying23 hi hz0 hzs hzb rfl (by decide) (.slice none 0 0) 0 [] rfl (World.ownsRow_nil _ _ _ _) ⟨g, 0, none⟩ at_ c (insC (b2.take at_)) rfl htl (hct _ hSa) (hone _) (by unfold maxLen; omega) (by omega) (by rw [World.size_alloc]; omega) (fun v1 X hown hg1 _ => ?_)
          have hSX := hSa.onto (row := none) hg1 (.inl (Nat.le_refl _)) (fun k e => by cases e)
          refine hK _ _ ⟨fun _ => hSX, ?_⟩
          (try simp only [Act.put, sA])
          have hrow : X.heap[Wd.heap.size]? = some (.cells (insC [⟨1, 1, 1⟩]).toArray 33) := (hg1.block _ (Array.getElem?_eq_some_iff.1 hrow1).1 (by simp [Value.ownBlock])).trans hrow1
          have hzX : Wd.heap.size ≤ X.heap.size := by have := hg1.size; rw [World.size_alloc] at this; omega
          rw [Nat.zero_add, List.nil_append] at hown
          obtain ⟨A, hA⟩ : ∃ A, A = Wd.heap.size := ⟨_, rfl⟩
          rw [← hA] at hrow
          conv => arg 9; rw [← hA]
          clear hSa hg1 hS hrow1
          have hlt1 := hown.lt
          refine wpL_one (i := 7) (by kernel_rfl) (wpOp_now rfl (by kernel_rfl) (fun K' hK => ?_))
          refine wp_append_own X (.tmp 64) (.tmp 66) 23 rfl Wd.heap.size 33 i0 _ 3 24 Try.underlying23 hi hz0 hzs hzb rfl (by decide) v1 at_ (insC (b2.take at_)) rfl hown ⟨A, 0, none⟩ 1 1 (insC [⟨1, 1, 1⟩]) rfl rfl (row_cells hrow) (hone _) (by unfold maxLen; omega) (by omega) hzX (fun v2 x2 hown2 hg2 _ => ?_)
          have hS2 := hSX.onto (B := Wd.heap.size) hg2 (.inr ⟨hCd, fun k e => by cases e; exact hgd⟩) (fun k e => (hlt1 k e).1)
          refine hK _ _ ⟨fun _ => hS2, ?_⟩
          (try simp only [Act.put])
          have hlt2 := hown2.lt
          refine wpL_one (i := 12) (by kernel_rfl) (wpOp_now rfl (by kernel_rfl) (fun K' hK => ?_))
          refine wp_append_own x2 (.tmp 67) (.tmp 71) 23 rfl Wd.heap.size 33 i0 _ 3 24 Try.underlying23 hi hz0 hzs hzb rfl (by decide) v2 (at_ + 1) (insC (b2.take at_) ++ insC [⟨1, 1, 1⟩]) rfl hown2 ⟨g, at_ * 3, none⟩ (t - at_) (c - at_) (insC (b2.drop at_)) rfl hdl (hcd _ hS2) (hone _) (by unfold maxLen; omega) (by omega) (Nat.le_trans hzX hg2.size) (fun v3 x3 hown3 hg3 _ => ?_)
          have hS3 := hS2.onto (B := Wd.heap.size) hg3 (.inr ⟨hCd, fun k e => by cases e; exact hgd⟩) (fun k e => (hlt2 k e).1)
          refine hK _ _ ⟨fun _ => hS3, ?_⟩
          (try simp only [Act.put])
          refine t1 13 73 (.pointer (some ⟨w1.heap.size, 6, none⟩)) hS3 ?_
          (try simp only [Act.put])
          rw [← insC_append, ← insC_append] at hown3
          obtain ⟨b3, hb3⟩ : ∃ b3, b3 = b2.take at_ ++ [⟨1, 1, 1⟩] ++ b2.drop at_ := ⟨_, rfl⟩
          rw [← hb3] at hown3
          have hl3 : b3.length = t + 1 := by rw [hb3]; simp [hl2]; omega
          have hn3 : at_ + 1 + (t - at_) = t + 1 := by omega
          rw [hn3] at hown3
          have hB3 := hS3.swap hown3 hCd hl3.symm rfl
          obtain ⟨a', c', hv', hin⟩ := hB3.form
          have hv2 : v3 = .slice a' (t + 1) c' := by rw [hv', hl3]
          clear hv' hin
          subst hv2
          have k6 : x3.cell? ⟨w1.heap.size, 6, none⟩ = some (.slice (some ⟨g, 0, none⟩) t c) := (cell_of_row _ _ 6 _ _ _ hS3.row).trans rfl
          have z6 := Lib.frozen_of_heap hS3.row 6
          have HBN := Lib.hid hB3
          have HB3E := Lib.hid hb3
          have HLEN3 := Lib.hid hl3
          clear hown hown2 hown3 hg2 hg3 hSX hS2 hS3 hrow hlt1 hlt2 hB3 hb3 hl3 hn3
          refine wpL_one (i := 14) (by kernel_rfl) (wpOp_now rfl (by kernel_rfl) (fun K' hK => ?_))
          unfold Oper.wp
          go_simp
          refine hK _ _ ⟨fun h => absurd (List.mem_singleton.2 rfl) h, ?_⟩
          refine wpL_done (by kernel_rfl) ?_ _
          obtain ⟨wz, hwz⟩ : ∃ wz, wz = x3.setCell ⟨w1.heap.size, 6, none⟩ (.slice a' (t + 1) c') := ⟨_, rfl⟩
          rw [← hwz] at HBN ⊢
          clear hwz k6 z6 hct hcd hone htl hdl hsp
          have c6 := cell_of_row wz _ 6 _ _ _ HBN.out.row
          have hB1 := HBN.out.alloc (.cells #[.int .i64 9, .int .i64 0, .int .i64 0] 33)
          have hz1 := hB1.own
          have HB1 := Lib.hid hB1
          clear hB1
          go_wp2_with (at_builtin; refine wpList_append_own _ rfl _ _ 23 rfl (w1.heap.size + 1) 33 i0 _ 3 24 Try.underlying23 hi hz0 hzs hzb rfl (by decide) _ (b3).length (insC (b3)) rfl hz1 ⟨wz.heap.size, 0, none⟩ 1 1 (insC [Cd.endI]) rfl rfl ?c1 ?c2 ?c3 ?c4 ?c5 ?_)
          case c1 => first | exact row_cells (heap_alloc_new wz (.cells #[.int .i64 9, .int .i64 0, .int .i64 0] 33)) | exact fun _ _ h => h
          case c2 => intro u hu; simp [insC, Cd.endI] at hu; rcases hu with rfl | rfl | rfl <;> rfl
          case c3 => rw [HLEN3.out]; unfold maxLen; omega
          case c4 => rw [HLEN3.out]; omega
          case c5 => have := (Array.getElem?_eq_some_iff.1 HBN.out.row).1; simp; omega
          intro v' w3 hown' hgr _
          have hrow3 := (hgr.block (w1.heap.size) (Array.getElem?_eq_some_iff.1 HB1.out.row).1 (fun e => HB1.out.ne e.symm)).trans HB1.out.row
          have k6 := cell_of_row w3 _ 6 _ _ _ hrow3
          have z6 := Lib.frozen_of_heap hrow3 6
          obtain ⟨a', m', c', rfl⟩ : ∃ a' m' c', v' = .slice a' m' c' := by
            rcases hown'.2 with ⟨hv, _⟩ | ⟨g, cap, cur, hv, _⟩
            · exact ⟨_, _, _, hv⟩
            · exact ⟨_, _, _, hv⟩
          have HN := Lib.hid (HB1.out.put (more := [Cd.endI]) rfl (by simp) hown' hgr)
          clear hown' hgr hrow3 HB1 hz1
          rw [show b3 ++ [Cd.endI] = Cd.whenB at_ (t - 1 - at_) by_ by exact when_split t at_ by_ ha b2 b3 HB2E.out HB3E.out] at HN
          obtain ⟨a2, c2, e2, hi2⟩ := HN.out.form
          cases e2
          have hck := hC (w3.setCell ⟨w1.heap.size, 6, none⟩ (.slice a' (Cd.whenB at_ (t - 1 - at_) by_).length c')) (Cd.jumpC (Cd.whenB at_ (t - 1 - at_) by_)) none 0 none 0 a' c' ⟨NumsAt.nil _ _, NumsAt.nil _ _, hi2⟩ (jump_64 _ (whenB_64 _ _ _ HBY.out) (by unfold Cd.whenB; simp; omega)) (by exact Nat.le_refl _)
          rw [Cd.when_check _ _ _ (by omega), show codeV (Cd.jumpC (Cd.whenB at_ (t - 1 - at_) by_)) none 0 none 0 a' c' = #[.slice none 0 0, .int .i64 0, .int .i64 0, .int .i64 0, .int .i64 1, .slice none 0 0, .slice a' (Cd.whenB at_ (t - 1 - at_) by_).length c'] from rfl] at hck
          have hr := HN.out.row
          have y0 := cell_of_row _ _ 0 _ _ _ hr
          have y1 := cell_of_row _ _ 1 _ _ _ hr
          have y2 := cell_of_row _ _ 2 _ _ _ hr
          have y3 := cell_of_row _ _ 3 _ _ _ hr
          have y4 := cell_of_row _ _ 4 _ _ _ hr
          have y5 := cell_of_row _ _ 5 _ _ _ hr
          have y6 := cell_of_row _ _ 6 _ _ _ hr
          have HGr := Lib.hid (HG1.out.trans HN.out.gr)
          clear hr hi2 HN HBN
          have HCK := Lib.hid hck
          clear hck
          obtain ⟨l9, hl9⟩ : ∃ l9, l9 = (Cd.whenB at_ (t - 1 - at_) by_).length := ⟨_, rfl⟩
          rw [← hl9] at y6 HCK HGr y0 y1 y2 y3 y4 y5 ⊢
          clear hl9
          by_cases q1 : 0 ≤ by_
          · have e1 : decide (0 ≤ by_) = true := by rw [decide_eq_true_iff]; exact q1
            by_cases q2 : by_ ≤ ((t - 1 - at_ : Nat) : Int)
            · have e2 : decide (by_ ≤ (t : Int) + 1 - ((at_ : Int) + 1) - 1) = true := by rw [decide_eq_true_iff]; omega
              have hck := HCK.out
              rw [if_pos ⟨q1, q2⟩] at hck
              go_wp2_with (first
                | (go_at_call 10; refine hck.mono ?_; rintro e w6 ⟨rfl, hg6⟩)
                | (go_at_call 11; refine (hnum _ _).mono ?_; rintro e w' ⟨rfl, hw'⟩; obtain rfl := hw'.symm))
              go_ret
              exact ⟨rfl, HGr.out.trans hg6⟩
            · have e2 : decide (by_ ≤ (t : Int) + 1 - ((at_ : Int) + 1) - 1) = false := by rw [decide_eq_false_iff_not]; omega
              have hck := HCK.out
              rw [if_neg (fun h => q2 h.2)] at hck
              go_wp2_with (first
                | (go_at_call 10; refine hck.mono ?_; rintro e w6 ⟨rfl, hg6⟩)
                | (go_at_call 11; refine (hnum _ _).mono ?_; rintro e w' ⟨rfl, hw'⟩; obtain rfl := hw'.symm))
              go_ret
              exact ⟨rfl, HGr.out.trans hg6⟩
          · have e1 : decide (0 ≤ by_) = false := by rw [decide_eq_false_iff_not]; exact q1
            have hck := HCK.out
            rw [if_neg (fun h => q1 h.1)] at hck
            go_wp2_with (first
              | (go_at_call 10; refine hck.mono ?_; rintro e w6 ⟨rfl, hg6⟩)
              | (go_at_call 11; refine (hnum _ _).mono ?_; rintro e w' ⟨rfl, hw'⟩; obtain rfl := hw'.symm))
            go_ret
            exact ⟨rfl, HGr.out.trans hg6⟩

theorem codeJumps_out (hC : CCheck) (hWr : CWrite) (n a by_ : Int) (wh : Bool) (h : n < 2 ∨ 100 < n ∨ a < 0 ∨ n - 1 ≤ a) (w : World) : Calls Try.prog 4 #[.int .i64 n, .int .i64 a, .int .i64 by_, .bool wh] w fun e w' => e = .returned (.bool true) ∧ w.grownBy w' none := by
  have hal := alive19_any hC hWr w
  rcases Classical.em (n < 2) with a1 | a1
  · have d1 : decide (n < 2) = true := by rw [decide_eq_true_iff]; exact a1
    go_enter Try.func4, Try.ntmps4
    go_wp2_with (go_at_call 8; refine hal.mono ?_; rintro e w1 ⟨rfl, hg1⟩)
    go_ret
    exact ⟨rfl, hg1⟩
  · have d1 : decide (n < 2) = false := by rw [decide_eq_false_iff_not]; exact a1
    rcases Classical.em (100 < n) with a2 | a2
    · have d2 : decide (100 < n) = true := by rw [decide_eq_true_iff]; exact a2
      go_enter Try.func4, Try.ntmps4
      go_wp2_with (go_at_call 8; refine hal.mono ?_; rintro e w1 ⟨rfl, hg1⟩)
      go_ret
      exact ⟨rfl, hg1⟩
    · have d2 : decide (100 < n) = false := by rw [decide_eq_false_iff_not]; exact a2
      rcases Classical.em (a < 0) with a3 | a3
      · have d3 : decide (a < 0) = true := by rw [decide_eq_true_iff]; exact a3
        go_enter Try.func4, Try.ntmps4
        go_wp2_with (go_at_call 8; refine hal.mono ?_; rintro e w1 ⟨rfl, hg1⟩)
        go_ret
        exact ⟨rfl, hg1⟩
      · have d3 : decide (a < 0) = false := by rw [decide_eq_false_iff_not]; exact a3
        have d4 : decide (n - 1 ≤ a) = true := by rw [decide_eq_true_iff]; omega
        go_enter Try.func4, Try.ntmps4
        go_wp2_with (go_at_call 8; refine hal.mono ?_; rintro e w1 ⟨rfl, hg1⟩)
        go_ret
        exact ⟨rfl, hg1⟩
theorem codeJumps_walk (hC : CCheck) (hWr : CWrite) (n a by_ : Int) (wh : Bool) (hby : Cd.I64 by_) (w : World) : Calls Try.prog 4 #[.int .i64 n, .int .i64 a, .int .i64 by_, .bool wh] w fun e w' => e = .returned (.bool true) ∧ w.grownBy w' none := by
  by_cases h : n < 2 ∨ 100 < n ∨ a < 0 ∨ n - 1 ≤ a
  · exact codeJumps_out hC hWr n a by_ wh h w
  · obtain ⟨m, rfl⟩ : ∃ m : Nat, n = (m : Int) := ⟨n.toNat, by omega⟩
    obtain ⟨b, rfl⟩ : ∃ b : Nat, a = (b : Int) := ⟨a.toNat, by omega⟩
    exact codeJumps_in hC hWr m b by_ hby wh (by omega) (by omega) (by omega) w

end Go.Proofs.Ytcjainfcndlllaa
