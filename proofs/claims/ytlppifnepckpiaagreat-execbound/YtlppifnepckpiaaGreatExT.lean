/- Package emit: the step ahead (the closure lead of longest). -/
import Derived.Test.YtlppifnepckpiaaGreatExS
import Derived.Test.YtlppifnepckpiaaGreatExH
import Derived.Lib.MinMax
namespace Go.Proofs.YtlppifnepckpiaaGreat
open Go.RowKit Go.Maps Go.WideMaps

set_option maxHeartbeats 2000000 in
theorem elead_any {w : World} {rb ab g : Nat} {ran : List Int} {n t m : Nat} {r : Int} (hm : m ≤ 60000) (hl : ran.length = m)
    (h1 : w.heap[rb]? = some (.cells #[.slice (some ⟨g, 0, none⟩) m m] 22 (0, 0))) (h2 : w.heap[ab]? = some (.cells #[.int .i64 (t : Int)] 3 (0, 0)))
    (h3 : w.heap[g]? = some (.cells (ints ran).toArray 3 (0, 0))) (hr : ran[t]? = some r) (hb : 0 ≤ r ∧ r ≤ 60000) (ht : t + 1 + n < m) :
    Calls Tryz.prog 56 #[.int .i64 (n : Int), .pointer (some ⟨rb, 0, none⟩), .pointer (some ⟨ab, 0, none⟩)] w fun e w' => e = .returned (.tuple #[]) ∧ w'.heap[g]? = some (.cells (ints (Ex.put ran (t + 1 + n) (r + 1))).toArray 3 (0, 0)) ∧ Kp [g] w w' := by
  obtain ⟨q, hq⟩ : ∃ q, q = t + 1 + n := ⟨_, rfl⟩
  obtain ⟨t1', ht1⟩ : ∃ q, q = t + 1 := ⟨_, rfl⟩
  rw [← hq] at ht ⊢
  obtain ⟨u, hu⟩ : ∃ u, ran[q]? = some u := ⟨_, List.getElem?_eq_getElem (by omega)⟩
  obtain ⟨r1, hr1⟩ : ∃ r1, r1 = r + 1 := ⟨_, rfl⟩
  obtain ⟨mx, hmx⟩ : ∃ mx, mx = max u r1 := ⟨_, rfl⟩
  have htm : t < m := by omega
  have hw1 : IntKind.i64.wrap ((t : Int) + 1) = (t1' : Int) := by rw [IntKind.wrap_i64]; omega
  have hw2 : IntKind.i64.wrap ((t1' : Int) + (n : Int)) = (q : Int) := by rw [IntKind.wrap_i64]; omega
  have hw3 : IntKind.i64.wrap (r + 1) = r1 := by rw [IntKind.wrap_i64]; omega
  have HP : Hid (Ex.put ran q (r + 1) = ran.set q mx) := Lib.hid (by unfold Ex.put; rw [hmx, hr1]; simp [List.getD_eq_getElem?_getD, hu])
  have HH := Lib.hid (And.intro h1 (And.intro h2 h3))
  have hmx2 := hmx.symm
  have HR := Lib.hid (And.intro hr hu)
  clear h1 h2 h3 hr hu hl hq ht1 hr1 hb hm hmx
  go_enter Tryz.func56, Tryz.ntmps56
  go_wp2
  refine wp_region_L (S := fun V' => V' = w.drew) (Z := [19]) (by kernel_rfl) ?_
  refine wpL_as (fun V hV => ?_)
  rw [← hV]
  have d3 := drew_row HH.out.2.2 hV
  have c1 := cell_of_row V rb 0 _ _ _ (drew_row HH.out.1 hV)
  have c2 := cell_of_row V ab 0 _ _ _ (drew_row HH.out.2.1 hV)
  have ct : V.cell? ⟨g, t, none⟩ = some (.int .i64 r) := by rw [cell_of_row V g t _ _ _ d3]; simp [HR.out.1]
  have cq : V.cell? ⟨g, q, none⟩ = some (.int .i64 u) := by rw [cell_of_row V g q _ _ _ d3]; simp [HR.out.2]
  have fq := frozen_of_row V g q _ _ d3
  have HD := Lib.hid d3
  have HV := Lib.hid hV
  clear hV d3
  have hS : V = V := rfl
  (try simp only [Act.put, sA, sB, sC])
  refine t2 0 4 (.slice (some ⟨g, 0, none⟩) m m) (fun w' hw' => ?_) hS ?_
  · subst hw'; go_simp
  (try simp only [Act.put, sA, sB, sC])
  refine t2 1 5 (.int .i64 (t : Int)) (fun w' hw' => ?_) hS ?_
  · subst hw'; go_simp
  (try simp only [Act.put, sA, sB, sC])
  refine t2 2 6 (.int .i64 (t1' : Int)) (fun w' hw' => ?_) hS ?_
  · subst hw'; go_simp
  (try simp only [Act.put, sA, sB, sC])
  refine t2 3 7 (.int .i64 (n : Int)) (fun w' hw' => ?_) hS ?_
  · subst hw'; go_simp
  (try simp only [Act.put, sA, sB, sC])
  refine t2 4 8 (.int .i64 (q : Int)) (fun w' hw' => ?_) hS ?_
  · subst hw'; go_simp
  (try simp only [Act.put, sA, sB, sC])
  refine t2 5 9 (.slice (some ⟨g, 0, none⟩) m m) (fun w' hw' => ?_) hS ?_
  · subst hw'; go_simp
  (try simp only [Act.put, sA, sB, sC])
  refine t2 6 10 (.int .i64 (t : Int)) (fun w' hw' => ?_) hS ?_
  · subst hw'; go_simp
  (try simp only [Act.put, sA, sB, sC])
  refine t2 7 11 (.int .i64 (t1' : Int)) (fun w' hw' => ?_) hS ?_
  · subst hw'; go_simp
  (try simp only [Act.put, sA, sB, sC])
  refine t2 8 12 (.int .i64 (n : Int)) (fun w' hw' => ?_) hS ?_
  · subst hw'; go_simp
  (try simp only [Act.put, sA, sB, sC])
  refine t2 9 13 (.int .i64 (q : Int)) (fun w' hw' => ?_) hS ?_
  · subst hw'; go_simp
  (try simp only [Act.put, sA, sB, sC])
  refine t2 10 14 (.pointer (some ⟨g, q, none⟩)) (fun w' hw' => ?_) hS ?_
  · subst hw'; go_simp
  (try simp only [Act.put, sA, sB, sC])
  refine t2 11 15 (.int .i64 u) (fun w' hw' => ?_) hS ?_
  · subst hw'; go_simp
  (try simp only [Act.put, sA, sB, sC])
  refine t2 12 16 (.slice (some ⟨g, 0, none⟩) m m) (fun w' hw' => ?_) hS ?_
  · subst hw'; go_simp
  (try simp only [Act.put, sA, sB, sC])
  refine t2 13 17 (.int .i64 (t : Int)) (fun w' hw' => ?_) hS ?_
  · subst hw'; go_simp
  (try simp only [Act.put, sA, sB, sC])
  refine t2 14 18 (.pointer (some ⟨g, t, none⟩)) (fun w' hw' => ?_) hS ?_
  · subst hw'; go_simp
  (try simp only [Act.put, sA, sB, sC])
  refine t2 15 19 (.int .i64 r) (fun w' hw' => ?_) hS ?_
  · subst hw'; go_simp
  (try simp only [Act.put, sA, sB, sC])
  refine t2 16 20 (.int .i64 r1) (fun w' hw' => ?_) hS ?_
  · subst hw'; go_simp
  (try simp only [Act.put, sA, sB, sC])
  refine wpL_val (i := 17) (d := 21) (v := .int .i64 mx) (w' := V) (by kernel_rfl) rfl rfl (by kernel_rfl) (by go_simp) hS ?_
  (try simp only [Act.put, sA, sB, sC])
  refine t2 18 22 (.pointer (some ⟨g, q, none⟩)) (fun w' hw' => ?_) hS ?_
  · subst hw'; go_simp
  (try simp only [Act.put, sA, sB, sC])
  refine wpL_skip (i := 19) (w' := V.setCell ⟨g, q, none⟩ (.int .i64 mx)) (by kernel_rfl) rfl rfl (by kernel_rfl) (by go_simp) (fun hz => absurd (by simp) hz) ?_
  refine wpL_done (by kernel_rfl) ?_ _
  clear c1 c2 ct cq fq
  go_wp2
  go_end0
  refine ⟨rfl, ?_, ?_⟩
  · rw [HP.out]
    exact setrow2 _ HD.out (by simp [List.map_set])
  · rw [HV.out]
    exact ((Kp.refl _ w).drew).set (by simp) _
theorem elead0_any {w : World} {rb ab g : Nat} {ran : List Int} {t m : Nat} {r : Int} (hm : m ≤ 60000) (hl : ran.length = m)
    (h1 : w.heap[rb]? = some (.cells #[.slice (some ⟨g, 0, none⟩) m m] 22 (0, 0))) (h2 : w.heap[ab]? = some (.cells #[.int .i64 (t : Int)] 3 (0, 0)))
    (h3 : w.heap[g]? = some (.cells (ints ran).toArray 3 (0, 0))) (hr : ran[t]? = some r) (hb : 0 ≤ r ∧ r ≤ 60000) (ht : t + 1 < m) :
    Calls Tryz.prog 56 #[.int .i64 0, .pointer (some ⟨rb, 0, none⟩), .pointer (some ⟨ab, 0, none⟩)] w fun e w' => e = .returned (.tuple #[]) ∧ w'.heap[g]? = some (.cells (ints (Ex.put ran (t + 1) (r + 1))).toArray 3 (0, 0)) ∧ Kp [g] w w' :=
  elead_any (n := 0) hm hl h1 h2 h3 hr hb ht
end Go.Proofs.YtlppifnepckpiaaGreat
