/- Package exec: refusal, keep, reset, Cells; copying into slots. -/
import Derived.Test.YthcejnfnamhpfaaGreatExF
import Derived.Laws.CopyRow
import Derived.Laws.IdiomCopy
namespace Go.Proofs.YthcejnfnamhpfaaGreat
open Go.RowKit Go.Maps Go.WideMaps

theorem refuse_ok {c : Cd.Code} {ins : List Int} (hl : (ins.length : Int) = c.ins) (h : ∀ (j : Nat) (x k : Int), ins[j]? = some x → c.kinds[j]? = some k → Bv.isv k x = true) : Ex.refuse c ins = 0 := by
  unfold Ex.refuse
  rw [if_neg (fun e => e hl), if_pos]
  refine List.all_eq_true.2 fun p hp => ?_
  obtain ⟨j, hj⟩ := List.getElem?_of_mem hp
  rw [List.getElem?_zip_eq_some] at hj
  exact h j p.1 p.2 hj.1 hj.2
theorem refuse_bad {c : Cd.Code} {ins : List Int} (hl : (ins.length : Int) = c.ins) {j : Nat} {x k : Int} (h1 : ins[j]? = some x) (h2 : c.kinds[j]? = some k) (h : Bv.isv k x = false) : Ex.refuse c ins = 1 := by
  unfold Ex.refuse
  rw [if_neg (fun e => e hl), if_neg]
  intro ha
  have := List.all_eq_true.1 ha (x, k) (List.mem_of_getElem? (i := j) (List.getElem?_zip_eq_some.2 ⟨h1, h2⟩))
  simp [h] at this
theorem refuse_len {c : Cd.Code} {ins : List Int} (hl : (ins.length : Int) ≠ c.ins) : Ex.refuse c ins = 23 := by
  unfold Ex.refuse
  rw [if_pos hl]
theorem refuse_zero {c : Cd.Code} {ins : List Int} (h : Ex.refuse c ins = 0) : (ins.length : Int) = c.ins := by
  rcases Decidable.em ((ins.length : Int) = c.ins) with h1 | h1
  · exact h1
  · rw [refuse_len h1] at h; cases h

set_option maxHeartbeats 1000000 in
theorem refusal_any {B : Nat} {w : World} {m : Nat} {c : Cd.Code} {cells : List Int} {iv nv kv bv : Value} (h : MachR B w m c cells iv nv kv bv) (hok : Cd.check c = 0) {a : Option Addr} (cap : Nat) {ins : List Int} (hi : NumsAt w a ins) (hm : ins.length ≤ maxLen) :
    Calls Tryz.prog 33 #[.pointer (some ⟨m, 0, none⟩), .slice a ins.length cap] w fun e w' => e = .returned (.int .i64 (Ex.refuse c ins)) ∧ w' = w := by
  obtain ⟨ka, kc, ia, ic, ba, bc, rfl, rfl, rfl, hc, _⟩ := h.code
  have c3 := cell_of_row w m 3 _ _ _ h.row
  have c2 := cell_of_row w m 2 _ _ _ h.row
  obtain ⟨o1, o2, o3, o4, o5, o6, o7, o8, o9, o10, o11, _⟩ := Ex.ok_parts hok
  obtain ⟨I, hI⟩ : ∃ I : Nat, c.ins = (I : Int) := ⟨c.ins.toNat, by omega⟩
  have his := fun k x V => is_any k x V
  have HH := Lib.hid (And.intro hc.kinds (And.intro hi (And.intro hI hm)))
  rw [hI] at c3 o8
  clear h hc hi
  by_cases hl : ins.length = I
  · subst hl
    obtain ⟨K, hK⟩ : ∃ K, c.kinds.length = K := ⟨_, rfl⟩
    have hIK : ins.length ≤ K := by omega
    rw [hK] at c2
    have HK := Lib.hid hK
    clear o1 o2 o3 o4 o5 o6 o7 o8 o9 o10 o11 hK hm hI
    obtain ⟨N, hN⟩ : ∃ N, ins.length = N := ⟨_, rfl⟩
    rw [hN] at c3 hIK ⊢
    have HN := Lib.hid hN
    clear hN
    have hK2 : K ≤ 8000 := by have := Ex.ok_parts hok; have := HK.out; omega
    go_enter Tryz.func33, Tryz.ntmps33
    go_wp2
    go_loopw [17] (fun iv wr => ∃ t : Nat, t ≤ N ∧ iv = .int .i64 (t : Int) ∧ wr = w ∧ Hid (∀ (j : Nat) (x k : Int), j < t → ins[j]? = some x → c.kinds[j]? = some k → Bv.isv k x = true)) (fun i _ => N - (intOf i).toNat)
    case atStart => exact ⟨0, Nat.zero_le _, rfl, rfl, Lib.hid (fun j x k hj => by omega)⟩
    case round =>
      obtain ⟨t, ht, rfl, hwr, HT⟩ := hrel
      obtain rfl := hwr.symm
      by_cases hlt : t < N
      · obtain ⟨x, hx⟩ : ∃ x, ins[t]? = some x := ⟨_, List.getElem?_eq_getElem (by rw [HN.out]; exact hlt)⟩
        obtain ⟨k, hk⟩ : ∃ k, c.kinds[t]? = some k := ⟨_, List.getElem?_eq_getElem (by rw [HK.out]; omega)⟩
        obtain ⟨b1, e1, rfl, p1⟩ := HH.out.2.1 t x hx
        obtain ⟨b2, e2, rfl, p2⟩ := HH.out.1 t k hk
        have htK : t < K := by omega
        have HX := Lib.hid (And.intro hx hk)
        clear hx hk
        obtain ⟨v, hv⟩ : ∃ v, Bv.isv k x = v := ⟨_, rfl⟩
        have his2 := fun V => his k x V
        rw [hv] at his2
        have HV := Lib.hid hv
        clear hv his
        cases v with
        | true =>
          go_wp2_with (go_at_call 47; refine (his2 _).mono ?_; rintro e w' ⟨rfl, hw'⟩; obtain rfl := hw'.symm)
          refine ⟨⟨t + 1, by omega, by go_num, by first | rfl | trivial, Lib.hid (fun j x' k' hj h1 h2 => ?_)⟩, by simp [intOf]; omega⟩
          rcases Nat.lt_or_ge j t with h3 | h3
          · exact HT.out j x' k' h3 h1 h2
          · obtain rfl : j = t := by omega
            rw [HX.out.1] at h1
            rw [HX.out.2] at h2
            cases h1
            cases h2
            exact HV.out
        | false =>
          have HF : Hid (Ex.refuse c ins = 1) := Lib.hid (refuse_bad HH.out.2.2.1.symm HX.out.1 HX.out.2 HV.out)
          go_wp2_with (go_at_call 47; refine (his2 _).mono ?_; rintro e w' ⟨rfl, hw'⟩; obtain rfl := hw'.symm)
          go_ret
          exact ⟨by rw [HF.out]; rfl, by first | rfl | trivial⟩
      · obtain rfl : t = N := by omega
        have HF : Hid (Ex.refuse c ins = 0) := Lib.hid (refuse_ok HH.out.2.2.1.symm (fun j x k h1 h2 => HT.out j x k (by rw [← HN.out]; exact (List.getElem?_eq_some_iff.1 h1).1) h1 h2))
        go_wp2
        go_ret
        exact ⟨by rw [HF.out]; rfl, by first | rfl | trivial⟩
  · have e1 : ((ins.length : Int) != (I : Int)) = true := by simp; omega
    have e2 : ins.length ≤ 9223372036854775807 := by simpa [maxLen] using hm
    have HF : Hid (Ex.refuse c ins = 23) := Lib.hid (refuse_len (by rw [hI]; omega))
    clear o1 o2 o3 o4 o5 o6 o7 o8 o9 o10 o11 hI hm
    generalize ins.length = N at *
    go_enter Tryz.func33, Tryz.ntmps33
    go_wp2
    go_ret
    exact ⟨by rw [HF.out]; rfl, by first | rfl | trivial⟩


theorem clone_n (w : World) (a : Option Addr) (n : Nat) (l : List Int) (cap : Nat) (hn : l.length = n) (h : NumsAt w a l) (hl : n ≤ 1000000) :
    Calls Tryz.prog 27 #[.slice a n cap] w fun e w' => ∃ v, e = .returned v ∧ w'.ownsRow w.heap.size 3 1 v n (ints l) ∧ w.grownBy w' none := by
  subst hn
  exact clone_ints w a l cap h hl

set_option maxHeartbeats 1000000 in
theorem keep_any {w : World} {m : Nat} {cs : Array Value} {T : TypeId} (hm : w.heap[m]? = some (.cells cs T (0, 0))) {u : Value} (h1 : cs[1]? = some u) (a : Option Addr) (n : Nat) (l : List Int) (cap : Nat) (hn : l.length = n) (h : NumsAt w a l) (hl : n ≤ 1000000) :
    Calls Tryz.prog 35 #[.pointer (some ⟨m, 0, none⟩), .slice a n cap] w fun e w' => e = .returned (.tuple #[]) ∧ ∃ v w1, w.grownBy w1 none ∧ w1.ownsRow w.heap.size 3 1 v n (ints l) ∧ w' = w1.setCell ⟨m, 1, none⟩ v := by
  have hcl := clone_n w a n l cap hn h hl
  have HH := Lib.hid (And.intro hm h1)
  clear hm h1 h hn hl
  go_enter Tryz.func35, Tryz.ntmps35
  go_wp2_with (go_at_call 27; refine hcl.mono ?_; rintro e w1 ⟨v, rfl, ho, hg⟩; obtain ⟨a1, k1, rfl⟩ := own_form ho; have hr1 := (hg.block m (gl HH.out.1) (by simp)).trans HH.out.1; have c1 := (cell_of_row w1 m 1 _ _ _ hr1).trans HH.out.2; have f1 := frozen_of_row w1 m 1 _ _ hr1; have HO := Lib.hid (And.intro hg ho); clear hr1 hg ho)
  go_end0
  exact ⟨rfl, _, _, HO.out.1, HO.out.2, rfl⟩

set_option maxHeartbeats 1000000 in
theorem xreset_any {w : World} {m : Nat} {cs : Array Value} {T : TypeId} (hm : w.heap[m]? = some (.cells cs T (0, 0))) {u : Value} {a : Option Addr} {n k : Nat} (h0 : cs[0]? = some (.slice a n k)) (h1 : cs[1]? = some u) :
    Calls Tryz.prog 18 #[.pointer (some ⟨m, 0, none⟩)] w fun e w' => e = .returned (.tuple #[]) ∧ w' = w.setCell ⟨m, 1, none⟩ (.slice a n k) := by
  have c0 := (cell_of_row w m 0 _ _ _ hm).trans h0
  have c1 := (cell_of_row w m 1 _ _ _ hm).trans h1
  have f1 := frozen_of_row w m 1 _ _ hm
  clear hm h0 h1
  have hr : Calls Tryz.prog 39 #[.pointer (some ⟨m, 0, none⟩)] w fun e w' => e = .returned (.tuple #[]) ∧ w' = w.setCell ⟨m, 1, none⟩ (.slice a n k) := by
    go_enter Tryz.func39, Tryz.ntmps39
    go_wp2
    go_end0
    exact ⟨rfl, rfl⟩
  go_enter Tryz.func18, Tryz.ntmps18
  go_wp2_with (go_at_call 39; refine hr.mono ?_; rintro e w1 ⟨rfl, hw1⟩; have HW := Lib.hid hw1; clear hw1)
  go_end0
  exact ⟨rfl, HW.out⟩

set_option maxHeartbeats 1000000 in
theorem xcells_any {B : Nat} {w : World} {m : Nat} {c : Cd.Code} {cells : List Int} {iv nv kv bv : Value} (h : MachR B w m c cells iv nv kv bv) (hl : cells.length ≤ 1000000) :
    Calls Tryz.prog 17 #[.pointer (some ⟨m, 0, none⟩)] w fun e w' => ∃ v, e = .returned v ∧ w'.ownsRow w.heap.size 3 1 v cells.length (ints cells) ∧ w.grownBy w' none := by
  obtain ⟨na, nc, rfl, hn⟩ := h.nowAt
  have hcl := clone_ints w na cells nc hn hl
  have c1 := cell_of_row w m 1 _ _ _ h.row
  clear h hn
  go_enter Tryz.func17, Tryz.ntmps17
  go_wp2_with (go_at_call 27; refine hcl.mono ?_; rintro e w1 ⟨v, rfl, ho, hg⟩; have HO := Lib.hid (And.intro ho hg); clear ho hg)
  go_ret
  exact ⟨_, rfl, HO.out⟩

/-- numbers copied into a row -/
theorem copy_nums {w : World} {g off dl dc : Nat} {L : List Int} {T : TypeId} (hg : w.heap[g]? = some (.cells (ints L).toArray T (0, 0))) {d : Option Addr} {a : Option Addr} (l : List Int) (cap : Nat) (h : NumsAt w a l) (hd : l ≠ [] → d = some ⟨g, off, none⟩) (hfit : off + l.length ≤ L.length) (hdl : l.length ≤ dl) :
    ∃ w', (∀ ty, (Builtin.copy_ #[22, 22] ty #[.slice d dl dc, .slice a l.length cap]).run Tryz.prog w = .ok (goInt l.length) w') ∧ w'.heap[g]? = some (.cells (ints (L.take off ++ (l ++ L.drop (off + l.length)))).toArray T (0, 0)) ∧ Kp [g] w w' := by
  cases l with
  | nil =>
    refine ⟨w, fun ty => run_copy_none (P := Tryz.prog) w 22 22 ty 3 d a dl dc 0 cap Tryz.underlying22 (by kernel_rfl) (by simp), ?_, Kp.refl _ _⟩
    rw [hg]
    simp
  | cons x r =>
    cases a with
    | none => exact absurd h.is_nil (by simp)
    | some ad =>
      obtain rfl := hd (by simp)
      have hmin : Nat.min (x :: r).length dl = (x :: r).length := Nat.min_eq_left hdl
      refine ⟨w.setRow g ((ints L).toArray.toList.take off ++ ints (x :: r) ++ (ints L).toArray.toList.drop (off + (x :: r).length)).toArray, fun ty => ?_, ?_, ?_⟩
      · have key := run_copy_row (P := Tryz.prog) w 22 22 ty 3 g off dl dc ad (x :: r).length cap (ints L).toArray T (ints (x :: r)) Tryz.underlying22 (by kernel_rfl) hg (by rw [hmin, List.length_map]) (h.adds) (by simpa using hfit) (numC_one _)
        rw [show (ints (x :: r)).length = (x :: r).length from List.length_map _] at key
        exact key
      · rw [setRow_at hg]
        simp [List.map_take, List.map_drop]
      · exact Kp.of (grown_setRow _ _ _) _ (fun k e _ => by cases e; simp)
end Go.Proofs.YthcejnfnamhpfaaGreat
