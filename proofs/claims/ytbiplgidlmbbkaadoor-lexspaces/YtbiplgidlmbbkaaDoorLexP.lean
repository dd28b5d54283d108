/- The statements' own fill: a row of n bytes, all alike; and its text. -/
import Derived.Test.YtbiplgidlmbbkaaDoorLexK
import Derived.OwnWalk
import Derived.Laws.IdiomStrings
namespace Go.Proofs.YtbiplgidlmbbkaaDoor
open Go.RowKit Go.Maps Go.WideMaps

theorem info5 : (Tryd.prog.info? 5).map (fun i => (i.zero, i.size, i.bytes)) = some (some (.int .u8 0), 1, 1) := by kernel_rfl

theorem made_bytes (m : Nat) : (madeCells (Value.int .u8 0).cells (m * 1)).toList = List.replicate m (Value.int .u8 0) := by
  rw [Nat.mul_one]
  apply List.ext_getElem?
  intro i
  simp only [List.getElem?_replicate]
  by_cases h : i < m
  · rw [if_pos h]
    simp [madeCells, h, Value.cells, Nat.mod_one]
  · rw [if_neg h]
    simp [madeCells, h]

theorem set_rep {α : Type} (x y : α) (t n : Nat) (h : t < n) : (List.replicate t x ++ List.replicate (n - t) y).set t x = List.replicate (t + 1) x ++ List.replicate (n - (t + 1)) y := by
  have e : n - t = (n - (t + 1)) + 1 := by omega
  rw [List.set_append_right _ _ (by simp), List.length_replicate, Nat.sub_self, e, List.replicate_succ, List.set_cons_zero, List.replicate_succ', List.append_assoc]
  rfl

set_option maxHeartbeats 800000 in
theorem fill_any (n : Nat) (c : UInt8) (hn : n ≤ 70000) (w : World) :
    Calls Tryd.prog 17 #[.int .i64 (n : Int), .int .u8 (c.toNat : Int)] w fun e w' => e = .returned (.slice (some ⟨w.heap.size, 0, none⟩) n n) ∧ w'.ownsRow w.heap.size 5 1 (.slice (some ⟨w.heap.size, 0, none⟩) n n) n (List.replicate n (Value.int .u8 (c.toNat : Int))) ∧ w.grownBy w' none := by
  obtain ⟨it, hit, hz, hsz, hby⟩ := infoP info5
  obtain ⟨z, hze⟩ : ∃ z : Int, z = (c.toNat : Int) := ⟨_, rfl⟩
  rw [← hze]
  clear hze
  go_enter Tryd.func17, Tryd.ntmps17
  go_wp2_with (first | (at_make; refine wpList_make_full _ rfl _ _ 41 rfl w.heap.size 5 it (.int .u8 0) 1 Tryd.underlying41 hit hz hsz _ _ _ _ n rfl rfl rfl rfl (by rw [hby]; omega) (by unfold maxLen; omega) (Nat.le_refl _) ?_; intro w3 ho hgrow))
  rw [made_bytes] at ho
  go_loopw [6] (fun i wr => ∃ t : Nat, t ≤ n ∧ i = .int .i64 (t : Int) ∧ wr.ownsRow w.heap.size 5 1 (.slice (some ⟨w.heap.size, 0, none⟩) n n) n (List.replicate t (Value.int .u8 z) ++ List.replicate (n - t) (Value.int .u8 0)) ∧ w.grownBy wr none) (fun i _ => n - (intOf i).toNat)
  case atStart => exact ⟨0, Nat.zero_le _, rfl, by simpa using ho, hgrow⟩
  case round =>
    clear ho hgrow
    obtain ⟨t, ht, rfl, ho, hg⟩ := hrel
    by_cases hlt : t < n
    · have hco : wr.cell? ⟨w.heap.size, t, none⟩ = some (.int .u8 0) := by
        rw [ho.cellAt t (by omega), List.getElem?_append_right (by simp), List.length_replicate, Nat.sub_self, List.getElem?_replicate, if_pos (by omega)]
      have hfz := ho.frozenAt t
      have hst := ho.stored t (.int .u8 z)
      rw [set_rep _ _ t n hlt] at hst
      have HO := Lib.hid hst.1
      have HG := Lib.hid hg
      clear ho hst hg
      go_wp2
      refine ⟨⟨t + 1, by omega, by go_num, HO.out, gset HG.out (.inl (Nat.le_refl _)) _⟩, by simp [intOf]; omega⟩
    · have e : t = n := by omega
      subst e
      go_wp2
      go_ret
      exact ⟨rfl, by simpa using ho, hg⟩

/-- the text of such a row -/
theorem fill_text (n : Nat) (c : UInt8) (g : Nat) (B : Nat) (w : World) (ho : w.ownsRow B 5 1 (.slice (some ⟨g, 0, none⟩) n n) n (List.replicate n (Value.int .u8 (c.toNat : Int)))) :
    (convert 41 9 (.slice (some ⟨g, 0, none⟩) n n)).run Tryd.prog w = .ok (.string ⟨(List.replicate n c).toArray⟩) w := by
  have h := run_convert_bytes_back (P := Tryd.prog) w 41 9 5 ⟨g, 0, none⟩ n (List.replicate n c) Tryd.underlying41 Tryd.underlying5 Tryd.underlying9 (by
    intro j hj
    rw [List.length_replicate] at hj
    have hadd : (⟨g, 0, none⟩ : Addr).add j = ⟨g, j, none⟩ := by unfold Addr.add; split <;> simp_all
    rw [hadd, ho.cellAt j (by omega), List.getElem?_replicate, if_pos hj, List.getElem_replicate])
  rw [List.length_replicate] at h
  exact h

end Go.Proofs.YtbiplgidlmbbkaaDoor
