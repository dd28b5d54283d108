/- Package code: the rules load and save (written by mkcf.py). -/
import Derived.Test.YtlppifnepckpiaaCfF
namespace Go.Proofs.Ytlppifnepckpiaa
open Go.RowKit Go.Maps Go.WideMaps
open Cd (Kn)

set_option maxHeartbeats 2000000 in
set_option maxRecDepth 100000 in
theorem load_any (W : World) (b g : Nat) (cs : Array Value) (at_ : Nat) (c : Cd.Code) (l : List Int) (qs : Kn) (op n k : Int) (w : World) (h : At W w b g cs at_ c l qs) :
    Calls Try.prog 39 #[.pointer (some ⟨b, 0, none⟩), .agg #[.int .i64 op, .int .i64 n, .int .i64 k]] w (RuP W w b g cs at_ (if 0 ≤ n ∧ n < c.kinds.length then (if (l.length : Int) < c.stack then Cd.lead (c.kinds.getD n.toNat 0 :: l) at_ 0 qs else none) else none)) := by
  have ha := h.ha
  have hls := h.sks
  have hq6 := h.q6
  have hco := h.co
  have hl64 := h.l64
  have hsk := h.sk
  have hs64 := h.s64
  have hq : 0 < qs.length := by omega
  have hB0 : Bx W w b g cs at_ op n k (some l) qs _ := Bx.new h.wk hq
  obtain ⟨ka, kc, hcs0, hnums⟩ := h.nums
  have hkk := h.kk
  by_cases hn : 0 ≤ n ∧ n < c.kinds.length
  · rw [if_pos hn]
    have hsl : decide (0 ≤ n ∧ n < c.kinds.length) = true := by simpa using hn
    clear h
    obtain ⟨i, rfl⟩ : ∃ i : Nat, n = i := ⟨n.toNat, by omega⟩
    have hi : i < c.kinds.length := by omega
    obtain ⟨kd, hkdi⟩ : ∃ kd, c.kinds[i]? = some kd := ⟨_, List.getElem?_eq_getElem hi⟩
    obtain ⟨kb, ko, rfl, hkd⟩ := hnums i kd hkdi
    have e : c.kinds.getD ((i : Nat) : Int).toNat 0 = kd := by rw [Int.toNat_natCast, List.getD_eq_getElem?_getD, hkdi]; rfl
    rw [e]
    have hkd9 := hkk kd (List.mem_iff_getElem?.2 ⟨_, hkdi⟩)
    generalize hN : c.kinds.length = N at hcs0 hi
    by_cases hs : (l.length : Int) < c.stack
    · rw [if_pos hs]
      have hl : l.length < 64 := by omega
      have hS0 : Sb W w b g cs at_ op (i : Int) k _ := ⟨_, _, hB0⟩
      have HB0 := Lib.hid hB0
      go_enter Try.func39, Try.ntmps39
      go_wp2
      refine wp_region_L (S := Sb W w b g cs at_ op (i : Int) k) (Z := []) (by kernel_rfl) ?_
      refine t1 0 5 (.pointer (some ⟨b, 0, none⟩)) hS0 ?_
      (try simp only [Act.put, sA, sB, sC])
      refine t1 1 6 (.pointer (some ⟨w.heap.size, 1, none⟩)) hS0 ?_
      (try simp only [Act.put, sA, sB, sC])
      refine t2 2 7 (.int .i64 (i : Int)) (fun w' hw' => ?_) hS0 ?_
      · have hc0 := hw'.c 1 rfl; clear hw'; go_simp
      (try simp only [Act.put, sA, sB, sC])
      refine wpL_call (i := 3) (d := 8) (R := fun v w' => v = .bool true ∧ Bx W w b g cs at_ op (i : Int) k (some l) qs w') (by kernel_rfl) rfl rfl (by kernel_rfl) (by kernel_rfl) ((hB0.slot hco _ hsl).mono fun e w' he => ⟨_, he.1, rfl, he.2⟩) (fun v w' hR => ⟨_, _, hR.2⟩) (fun v w' hR => ?_)
      obtain ⟨rfl, hB0a⟩ := hR
      have hS0a : Sb W w b g cs at_ op (i : Int) k w' := ⟨_, _, hB0a⟩
      (try simp only [Act.put, sA, sB, sC])
      refine t1 4 9 (.bool true) hS0a ?_
      (try simp only [Act.put, sA, sB, sC])
      refine t1 5 10 (.pointer (some ⟨b, 0, none⟩)) hS0a ?_
      (try simp only [Act.put, sA, sB, sC])
      refine t1 6 11 (.pointer (some ⟨b, 0, none⟩)) hS0a ?_
      (try simp only [Act.put, sA, sB, sC])
      refine t1 7 12 (.pointer (some ⟨b, 0, none⟩)) hS0a ?_
      (try simp only [Act.put, sA, sB, sC])
      refine t1 8 13 (.pointer (some ⟨b, 0, none⟩)) hS0a ?_
      (try simp only [Act.put, sA, sB, sC])
      refine t1 9 14 (.pointer (some ⟨b, 0, none⟩)) hS0a ?_
      (try simp only [Act.put, sA, sB, sC])
      refine t2 10 15 (.slice (some ⟨kb, ko, none⟩) N kc) (fun w' hw' => ?_) hS0a ?_
      · have hc0 := hw'.code 0 hcs0; clear hw'; go_simp
      (try simp only [Act.put, sA, sB, sC])
      refine t1 11 16 (.pointer (some ⟨w.heap.size, 1, none⟩)) hS0a ?_
      (try simp only [Act.put, sA, sB, sC])
      refine t2 12 17 (.int .i64 (i : Int)) (fun w' hw' => ?_) hS0a ?_
      · have hc0 := hw'.c 1 rfl; clear hw'; go_simp
      (try simp only [Act.put, sA, sB, sC])
      refine t2 13 18 (.pointer (some ⟨kb, ko + i, none⟩)) (fun w' hw' => ?_) hS0a ?_
      · clear hw'; go_simp
      (try simp only [Act.put, sA, sB, sC])
      refine t2 14 19 (.int .i64 kd) (fun w' hw' => ?_) hS0a ?_
      · have hc0 := hw'.old hkd; clear hw'; go_simp
      (try simp only [Act.put, sA, sB, sC])
      refine wpL_call (i := 15) (d := 20) (R := fun v w' => v = .bool true ∧ Bx W w b g cs at_ op (i : Int) k (some (kd :: l)) qs w') (by kernel_rfl) rfl rfl (by kernel_rfl) (by kernel_rfl) ((hB0a.put_yes hco hkd9 hl hs).mono fun e w' he => ⟨_, he.1, rfl, he.2⟩) (fun v w' hR => ⟨_, _, hR.2⟩) (fun v w' hR => ?_)
      obtain ⟨rfl, hB1a⟩ := hR
      have hS1a : Sb W w b g cs at_ op (i : Int) k w' := ⟨_, _, hB1a⟩
      (try simp only [Act.put, sA, sB, sC])
      refine t1 16 21 (.bool true) hS1a ?_
      (try simp only [Act.put, sA, sB, sC])
      refine t1 17 22 (.bool true) hS1a ?_
      (try simp only [Act.put, sA, sB, sC])
      refine t1 18 23 (.pointer (some ⟨b, 0, none⟩)) hS1a ?_
      (try simp only [Act.put, sA, sB, sC])
      refine wpL_call (i := 19) (d := 24) (R := fun v w' => v = .bool (Cd.lead (kd :: l) at_ 0 qs).isSome ∧ ∃ q', Bx W w b g cs at_ op (i : Int) k (some (kd :: l)) q' w' ∧ ∀ q, Cd.lead (kd :: l) at_ 0 qs = some q → q' = q) (by kernel_rfl) rfl rfl (by kernel_rfl) (by kernel_rfl) ((hB1a.next ha hls hq6 (by (try simp only [List.length_cons]); omega)).mono fun e w' he => ⟨_, he.1, rfl, he.2⟩) (fun v w' hR => let ⟨q', h, _⟩ := hR.2; ⟨_, q', h⟩) (fun v w' hR => ?_)
      obtain ⟨rfl, hB2a⟩ := hR
      have hS2a : Sb W w b g cs at_ op (i : Int) k w' := let ⟨q', h, _⟩ := hB2a; ⟨_, q', h⟩
      (try simp only [Act.put, sA, sB, sC])
      refine t1 20 25 (.bool (Cd.lead (kd :: l) at_ 0 qs).isSome) hS2a ?_
      (try simp only [Act.put, sA, sB, sC])
      refine t1 21 4 (.bool (Cd.lead (kd :: l) at_ 0 qs).isSome) hS2a ?_
      (try simp only [Act.put, sA, sB, sC])
      refine wpL_done (by kernel_rfl) ?_ _
      go_wp2
      go_ret
      exact Bx.ru hB2a
    · rw [if_neg hs]
      have hS0 : Sb W w b g cs at_ op (i : Int) k _ := ⟨_, _, hB0⟩
      have HB0 := Lib.hid hB0
      go_enter Try.func39, Try.ntmps39
      go_wp2
      refine wp_region_L (S := Sb W w b g cs at_ op (i : Int) k) (Z := []) (by kernel_rfl) ?_
      refine t1 0 5 (.pointer (some ⟨b, 0, none⟩)) hS0 ?_
      (try simp only [Act.put, sA, sB, sC])
      refine t1 1 6 (.pointer (some ⟨w.heap.size, 1, none⟩)) hS0 ?_
      (try simp only [Act.put, sA, sB, sC])
      refine t2 2 7 (.int .i64 (i : Int)) (fun w' hw' => ?_) hS0 ?_
      · have hc0 := hw'.c 1 rfl; clear hw'; go_simp
      (try simp only [Act.put, sA, sB, sC])
      refine wpL_call (i := 3) (d := 8) (R := fun v w' => v = .bool true ∧ Bx W w b g cs at_ op (i : Int) k (some l) qs w') (by kernel_rfl) rfl rfl (by kernel_rfl) (by kernel_rfl) ((hB0.slot hco _ hsl).mono fun e w' he => ⟨_, he.1, rfl, he.2⟩) (fun v w' hR => ⟨_, _, hR.2⟩) (fun v w' hR => ?_)
      obtain ⟨rfl, hB0a⟩ := hR
      have hS0a : Sb W w b g cs at_ op (i : Int) k w' := ⟨_, _, hB0a⟩
      (try simp only [Act.put, sA, sB, sC])
      refine t1 4 9 (.bool true) hS0a ?_
      (try simp only [Act.put, sA, sB, sC])
      refine t1 5 10 (.pointer (some ⟨b, 0, none⟩)) hS0a ?_
      (try simp only [Act.put, sA, sB, sC])
      refine t1 6 11 (.pointer (some ⟨b, 0, none⟩)) hS0a ?_
      (try simp only [Act.put, sA, sB, sC])
      refine t1 7 12 (.pointer (some ⟨b, 0, none⟩)) hS0a ?_
      (try simp only [Act.put, sA, sB, sC])
      refine t1 8 13 (.pointer (some ⟨b, 0, none⟩)) hS0a ?_
      (try simp only [Act.put, sA, sB, sC])
      refine t1 9 14 (.pointer (some ⟨b, 0, none⟩)) hS0a ?_
      (try simp only [Act.put, sA, sB, sC])
      refine t2 10 15 (.slice (some ⟨kb, ko, none⟩) N kc) (fun w' hw' => ?_) hS0a ?_
      · have hc0 := hw'.code 0 hcs0; clear hw'; go_simp
      (try simp only [Act.put, sA, sB, sC])
      refine t1 11 16 (.pointer (some ⟨w.heap.size, 1, none⟩)) hS0a ?_
      (try simp only [Act.put, sA, sB, sC])
      refine t2 12 17 (.int .i64 (i : Int)) (fun w' hw' => ?_) hS0a ?_
      · have hc0 := hw'.c 1 rfl; clear hw'; go_simp
      (try simp only [Act.put, sA, sB, sC])
      refine t2 13 18 (.pointer (some ⟨kb, ko + i, none⟩)) (fun w' hw' => ?_) hS0a ?_
      · clear hw'; go_simp
      (try simp only [Act.put, sA, sB, sC])
      refine t2 14 19 (.int .i64 kd) (fun w' hw' => ?_) hS0a ?_
      · have hc0 := hw'.old hkd; clear hw'; go_simp
      (try simp only [Act.put, sA, sB, sC])
      refine wpL_call (i := 15) (d := 20) (R := fun v w' => v = .bool false ∧ Bx W w b g cs at_ op (i : Int) k (some l) qs w') (by kernel_rfl) rfl rfl (by kernel_rfl) (by kernel_rfl) ((hB0a.put_no (x := kd) hco hq hl64 (by omega)).mono fun e w' he => ⟨_, he.1, rfl, he.2⟩) (fun v w' hR => ⟨_, _, hR.2⟩) (fun v w' hR => ?_)
      obtain ⟨rfl, hB1a⟩ := hR
      have hS1a : Sb W w b g cs at_ op (i : Int) k w' := ⟨_, _, hB1a⟩
      (try simp only [Act.put, sA, sB, sC])
      refine t1 16 21 (.bool false) hS1a ?_
      (try simp only [Act.put, sA, sB, sC])
      refine t1 17 22 (.bool false) hS1a ?_
      (try simp only [Act.put, sA, sB, sC])
      refine t3 18 23 hS1a ?_
      (try simp only [Act.put, sA, sB, sC])
      refine t3 19 24 hS1a ?_
      (try simp only [Act.put, sA, sB, sC])
      refine t1 20 25 (.bool false) hS1a ?_
      (try simp only [Act.put, sA, sB, sC])
      refine t1 21 4 (.bool false) hS1a ?_
      (try simp only [Act.put, sA, sB, sC])
      refine wpL_done (by kernel_rfl) ?_ _
      go_wp2
      go_ret
      exact RuP.no hB1a.kp
  · rw [if_neg hn]
    have hsl : decide (0 ≤ n ∧ n < c.kinds.length) = false := by simpa using hn
    clear h
    have hS0 : Sb W w b g cs at_ op n k _ := ⟨_, _, hB0⟩
    have HB0 := Lib.hid hB0
    go_enter Try.func39, Try.ntmps39
    go_wp2
    refine wp_region_L (S := Sb W w b g cs at_ op n k) (Z := []) (by kernel_rfl) ?_
    refine t1 0 5 (.pointer (some ⟨b, 0, none⟩)) hS0 ?_
    (try simp only [Act.put, sA, sB, sC])
    refine t1 1 6 (.pointer (some ⟨w.heap.size, 1, none⟩)) hS0 ?_
    (try simp only [Act.put, sA, sB, sC])
    refine t2 2 7 (.int .i64 n) (fun w' hw' => ?_) hS0 ?_
    · have hc0 := hw'.c 1 rfl; clear hw'; go_simp
    (try simp only [Act.put, sA, sB, sC])
    refine wpL_call (i := 3) (d := 8) (R := fun v w' => v = .bool false ∧ Bx W w b g cs at_ op n k (some l) qs w') (by kernel_rfl) rfl rfl (by kernel_rfl) (by kernel_rfl) ((hB0.slot hco _ hsl).mono fun e w' he => ⟨_, he.1, rfl, he.2⟩) (fun v w' hR => ⟨_, _, hR.2⟩) (fun v w' hR => ?_)
    obtain ⟨rfl, hB0a⟩ := hR
    have hS0a : Sb W w b g cs at_ op n k w' := ⟨_, _, hB0a⟩
    (try simp only [Act.put, sA, sB, sC])
    refine t1 4 9 (.bool false) hS0a ?_
    (try simp only [Act.put, sA, sB, sC])
    refine t3 5 10 hS0a ?_
    (try simp only [Act.put, sA, sB, sC])
    refine t3 6 11 hS0a ?_
    (try simp only [Act.put, sA, sB, sC])
    refine t3 7 12 hS0a ?_
    (try simp only [Act.put, sA, sB, sC])
    refine t3 8 13 hS0a ?_
    (try simp only [Act.put, sA, sB, sC])
    refine t3 9 14 hS0a ?_
    (try simp only [Act.put, sA, sB, sC])
    refine t3 10 15 hS0a ?_
    (try simp only [Act.put, sA, sB, sC])
    refine t3 11 16 hS0a ?_
    (try simp only [Act.put, sA, sB, sC])
    refine t3 12 17 hS0a ?_
    (try simp only [Act.put, sA, sB, sC])
    refine t3 13 18 hS0a ?_
    (try simp only [Act.put, sA, sB, sC])
    refine t3 14 19 hS0a ?_
    (try simp only [Act.put, sA, sB, sC])
    refine t3 15 20 hS0a ?_
    (try simp only [Act.put, sA, sB, sC])
    refine t1 16 21 (.bool false) hS0a ?_
    (try simp only [Act.put, sA, sB, sC])
    refine t1 17 22 (.bool false) hS0a ?_
    (try simp only [Act.put, sA, sB, sC])
    refine t3 18 23 hS0a ?_
    (try simp only [Act.put, sA, sB, sC])
    refine t3 19 24 hS0a ?_
    (try simp only [Act.put, sA, sB, sC])
    refine t1 20 25 (.bool false) hS0a ?_
    (try simp only [Act.put, sA, sB, sC])
    refine t1 21 4 (.bool false) hS0a ?_
    (try simp only [Act.put, sA, sB, sC])
    refine wpL_done (by kernel_rfl) ?_ _
    go_wp2
    go_ret
    exact RuP.no hB0a.kp
end Go.Proofs.Ytlppifnepckpiaa
