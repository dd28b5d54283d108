/- slices.Clone of numbers and of instructions. -/
import Derived.Test.YthcejnfnamhpfaaGreatExD
import Derived.Lib.SliceRun
namespace Go.Proofs.YthcejnfnamhpfaaGreat
open Go.RowKit Go.Maps Go.WideMaps

theorem NumsAt.is_nil {w : World} {l : List Int} (h : NumsAt w none l) : l = [] := by
  cases l with
  | nil => rfl
  | cons x r => obtain ⟨g, o, e, _⟩ := h 0 x (by simp); cases e
theorem InssAt.is_nil {w : World} {l : List Cd.Ins} (h : InssAt w none l) : l = [] := by
  cases l with
  | nil => rfl
  | cons x r => obtain ⟨g, o, e, _⟩ := h 0 x (by simp); cases e
theorem own_room {w : World} {B : Nat} {T : TypeId} {z n : Nat} {a : Option Addr} {c : Nat} {xs : List Value} (h : w.ownsRow B T z (.slice a n c) n xs) : n ≤ c := by
  rcases h.2 with ⟨e, h0⟩ | ⟨g, cap, cur, e, _, _, h3, _⟩
  · omega
  · cases e; exact h3
set_option maxHeartbeats 1000000 in
theorem clone_ints (w : World) (a : Option Addr) (l : List Int) (cap : Nat) (h : NumsAt w a l) (hl : l.length ≤ 1000000) :
    Calls Tryz.prog 27 #[.slice a l.length cap] w fun e w' => ∃ v, e = .returned v ∧ w'.ownsRow w.heap.size 3 1 v l.length (ints l) ∧ w.grownBy w' none := by
  have q22 : ∀ (w : World) (a : Option Addr) (n c n' c' : Nat), (binOp .eql 22 (.slice a n c) (.slice none n' c')).run Tryz.prog w = .ok (.bool a.isNone) w := fun w a n c n' c' => Lib.run_eql_slice_nil w _ _ a n c n' c' Tryz.underlying22
  cases a with
  | none =>
    have e := h.is_nil
    subst e
    have HF := Lib.hid (World.ownsRow_nil w w.heap.size 3 1)
    clear h hl
    go_enter Tryz.func27, Tryz.ntmps27
    go_wp2
    go_ret
    exact ⟨_, rfl, HF.out, World.grownBy.refl _ _⟩
  | some ad =>
    obtain ⟨i0, hi, hz0, hzs, hzb⟩ := info_parts info_i
    have HI := Lib.hid (And.intro hi (And.intro hz0 (And.intro hzs hzb)))
    have HA := Lib.hid (And.intro h.adds hl)
    obtain ⟨n, hn⟩ : ∃ n, n = l.length := ⟨_, rfl⟩
    have HN := Lib.hid hn
    rw [← hn]
    clear h hl hi hz0 hzs hzb hn
    go_enter Tryz.func27, Tryz.ntmps27
    go_wp2_with (at_builtin; refine wpList_append_own _ rfl _ _ 22 rfl w.heap.size 3 i0 _ 1 8 Tryz.underlying22 HI.out.1 HI.out.2.1 HI.out.2.2.1 HI.out.2.2.2 rfl (by decide) _ _ _ rfl (World.ownsRow_made w #[] 0 (Nat.le_refl _) (Nat.zero_le _) rfl) ad n cap (ints l) rfl ?qc1 ?qc2 (numC_one l) ?qc4 ?qc5 ?qc6 ?_)
    case qc1 => rw [HN.out]; simp
    case qc2 => exact fun j u hu => Lib.cell?_alloc_some _ (HA.out.1 j u hu)
    case qc4 => have := HA.out.2; have := HN.out; unfold maxLen; omega
    case qc5 => have := HA.out.2; have := HN.out; omega
    case qc6 => simp
    intro v' w1 hown hgrow hnil
    have HF : Hid (w1.ownsRow w.heap.size 3 1 v' n (ints l) ∧ w.grownBy w1 none) := Lib.hid ⟨by simpa using hown, grown_ov (World.grownBy_alloc w _ none) hgrow (fun k e => by simp [Value.ownBlock] at e; omega)⟩
    clear hown hgrow hnil
    go_wp2
    go_ret
    exact ⟨_, rfl, HF.out⟩
theorem info_x : (Tryz.prog.info? 56).map (fun i => (i.zero, i.size, i.bytes)) = some (some (.agg #[.int .i64 0, .int .i64 0, .int .i64 0]), 3, 24) := by kernel_rfl
theorem insC_one (l : List Cd.Ins) : ∀ u ∈ insC l, u.oneCell' = true := fun u hu => by
  unfold insC at hu
  rw [List.mem_flatten] at hu
  obtain ⟨q, hq, hu⟩ := hu
  obtain ⟨x, _, rfl⟩ := List.mem_map.1 hq
  simp at hu
  rcases hu with rfl | rfl | rfl <;> rfl
theorem InssAt.adds {w : World} {a : Addr} {l : List Cd.Ins} (h : InssAt w (some a) l) : ∀ j u, (insC l)[j]? = some u → w.cell? (a.add j) = some u := fun j u hu => by
  have hj : j < l.length * 3 := by rw [← insC_len]; exact (List.getElem?_eq_some_iff.1 hu).1
  have hi : j / 3 < l.length := by omega
  obtain ⟨x, hx⟩ : ∃ x, l[j / 3]? = some x := ⟨_, List.getElem?_eq_getElem hi⟩
  obtain ⟨b, o, e, h1, h2, h3⟩ := h _ x hx
  cases e
  obtain ⟨a1, a2, a3⟩ := insC_at l _ x hx
  rw [addr_at]
  rcases (show j = j / 3 * 3 ∨ j = j / 3 * 3 + 1 ∨ j = j / 3 * 3 + 2 by omega) with e | e | e
  · rw [e] at hu ⊢; rw [a1] at hu; cases hu; exact h1
  · rw [e] at hu ⊢; rw [a2] at hu; cases hu; exact h2
  · rw [e] at hu ⊢; rw [a3] at hu; cases hu; exact h3
set_option maxHeartbeats 1000000 in
theorem clone_inss (w : World) (a : Option Addr) (l : List Cd.Ins) (cap : Nat) (h : InssAt w a l) (hl : l.length ≤ 1000000) :
    Calls Tryz.prog 28 #[.slice a l.length cap] w fun e w' => ∃ v, e = .returned v ∧ w'.ownsRow w.heap.size 56 3 v l.length (insC l) ∧ w.grownBy w' none := by
  have q22 : ∀ (w : World) (a : Option Addr) (n c n' c' : Nat), (binOp .eql 23 (.slice a n c) (.slice none n' c')).run Tryz.prog w = .ok (.bool a.isNone) w := fun w a n c n' c' => Lib.run_eql_slice_nil w _ _ a n c n' c' Tryz.underlying23
  cases a with
  | none =>
    have e := h.is_nil
    subst e
    have HF := Lib.hid (World.ownsRow_nil w w.heap.size 56 3)
    clear h hl
    go_enter Tryz.func28, Tryz.ntmps28
    go_wp2
    go_ret
    exact ⟨_, rfl, HF.out, World.grownBy.refl _ _⟩
  | some ad =>
    obtain ⟨i0, hi, hz0, hzs, hzb⟩ := info_parts info_x
    have HI := Lib.hid (And.intro hi (And.intro hz0 (And.intro hzs hzb)))
    have HA := Lib.hid (And.intro h.adds hl)
    obtain ⟨n, hn⟩ : ∃ n, n = l.length := ⟨_, rfl⟩
    have HN := Lib.hid hn
    rw [← hn]
    clear h hl hi hz0 hzs hzb hn
    go_enter Tryz.func28, Tryz.ntmps28
    go_wp2_with (at_builtin; refine wpList_append_own _ rfl _ _ 23 rfl w.heap.size 56 i0 _ 3 24 Tryz.underlying23 HI.out.1 HI.out.2.1 HI.out.2.2.1 HI.out.2.2.2 rfl (by decide) _ _ _ rfl (World.ownsRow_made w #[] 0 (Nat.le_refl _) (Nat.zero_le _) rfl) ad n cap (insC l) rfl ?qc1 ?qc2 (insC_one l) ?qc4 ?qc5 ?qc6 ?_)
    case qc1 => rw [HN.out, insC_len]
    case qc2 => exact fun j u hu => Lib.cell?_alloc_some _ (HA.out.1 j u hu)
    case qc4 => have := HA.out.2; have := HN.out; unfold maxLen; omega
    case qc5 => have := HA.out.2; have := HN.out; omega
    case qc6 => simp
    intro v' w1 hown hgrow hnil
    have HF : Hid (w1.ownsRow w.heap.size 56 3 v' n (insC l) ∧ w.grownBy w1 none) := Lib.hid ⟨by simpa using hown, grown_ov (World.grownBy_alloc w _ none) hgrow (fun k e => by simp [Value.ownBlock] at e; omega)⟩
    clear hown hgrow hnil
    go_wp2
    go_ret
    exact ⟨_, rfl, HF.out⟩
end Go.Proofs.YthcejnfnamhpfaaGreat
