/- Package code: the rules unary (written by mkcf.py). -/
import Derived.Test.YtlppifnepckpiaaCfF
namespace Go.Proofs.Ytlppifnepckpiaa
open Go.RowKit Go.Maps Go.WideMaps
open Cd (Kn)

set_option maxHeartbeats 2000000 in
set_option maxRecDepth 100000 in
theorem unary_any (W : World) (b g : Nat) (cs : Array Value) (at_ : Nat) (c : Cd.Code) (l : List Int) (qs : Kn) (op n k : Int) (w : World) (h : At W w b g cs at_ c l qs) :
    Calls Try.prog 41 #[.pointer (some ⟨b, 0, none⟩), .agg #[.int .i64 op, .int .i64 n, .int .i64 k]] w (RuP W w b g cs at_ (if Bv.unB n k 0 then Cd.onTop l k (fun r => Cd.lead (k :: r) at_ 0 qs) else none)) := by
  have ha := h.ha
  have hls := h.sks
  have hq6 := h.q6
  have hco := h.co
  have hl64 := h.l64
  have hsk := h.sk
  have hs64 := h.s64
  have hq : 0 < qs.length := by omega
  have hB0 : Bx W w b g cs at_ op n k (some l) qs _ := Bx.new h.wk hq
  clear h
  cases hu : Bv.unB n k 0 with
  | true =>
    rw [if_pos rfl]
    rcases Cd.top_or l k with ⟨r, rfl⟩ | hno
    · rw [Cd.onTop_yes]
      have hl : r.length < 64 := hl64
      have hk9 := hsk.2 k (by simp)
      have hs : (r.length : Int) < c.stack := by have := hsk.1; simp only [List.length_cons] at this; omega
      have hS0 : Sb W w b g cs at_ op n k _ := ⟨_, _, hB0⟩
      have HB0 := Lib.hid hB0
      go_enter Try.func41, Try.ntmps41
      go_wp2
      refine wp_region_L (S := Sb W w b g cs at_ op n k) (Z := []) (by kernel_rfl) ?_
      refine t1 0 8 (.pointer (some ⟨w.heap.size, 1, none⟩)) hS0 ?_
      (try simp only [Act.put, sA, sB, sC])
      refine t2 1 9 (.int .i64 n) (fun w' hw' => ?_) hS0 ?_
      · have hc0 := hw'.c 1 rfl; clear hw'; go_simp
      (try simp only [Act.put, sA, sB, sC])
      refine t1 2 10 (.pointer (some ⟨w.heap.size, 2, none⟩)) hS0 ?_
      (try simp only [Act.put, sA, sB, sC])
      refine t2 3 11 (.int .i64 k) (fun w' hw' => ?_) hS0 ?_
      · have hc0 := hw'.c 2 rfl; clear hw'; go_simp
      (try simp only [Act.put, sA, sB, sC])
      refine t1 4 12 (.pointer (some ⟨w.heap.size, 2, none⟩)) hS0 ?_
      (try simp only [Act.put, sA, sB, sC])
      refine t2 5 13 (.int .i64 k) (fun w' hw' => ?_) hS0 ?_
      · have hc0 := hw'.c 2 rfl; clear hw'; go_simp
      (try simp only [Act.put, sA, sB, sC])
      refine wpL_call (i := 6) (d := 14) (R := fun v w' => v = .int .i64 0 ∧ Bx W w b g cs at_ op n k (some (k :: r)) qs w') (by kernel_rfl) rfl rfl (by kernel_rfl) (by kernel_rfl) ((hB0.zero k).mono fun e w' he => ⟨_, he.1, rfl, he.2⟩) (fun v w' hR => ⟨_, _, hR.2⟩) (fun v w' hR => ?_)
      obtain ⟨rfl, hB0a⟩ := hR
      have hS0a : Sb W w b g cs at_ op n k w' := ⟨_, _, hB0a⟩
      (try simp only [Act.put, sA, sB, sC])
      refine wpL_call (i := 7) (d := 15) (R := fun v w' => v = .tuple #[.int .i64 (Bv.unN n k 0), .bool true] ∧ Bx W w b g cs at_ op n k (some (k :: r)) qs w') (by kernel_rfl) rfl rfl (by kernel_rfl) (by kernel_rfl) ((hB0a.un hq n k 0 hu).mono fun e w' he => ⟨_, he.1, rfl, he.2⟩) (fun v w' hR => ⟨_, _, hR.2⟩) (fun v w' hR => ?_)
      obtain ⟨rfl, hB1a⟩ := hR
      have hS1a : Sb W w b g cs at_ op n k w' := ⟨_, _, hB1a⟩
      (try simp only [Act.put, sA, sB, sC])
      refine t1 8 7 (.tuple #[.int .i64 (Bv.unN n k 0), .bool true]) hS1a ?_
      (try simp only [Act.put, sA, sB, sC])
      refine t1 9 16 (.int .i64 (Bv.unN n k 0)) hS1a ?_
      (try simp only [Act.put, sA, sB, sC])
      refine t1 10 17 (.bool true) hS1a ?_
      (try simp only [Act.put, sA, sB, sC])
      refine t1 11 5 (.int .i64 (Bv.unN n k 0)) hS1a ?_
      (try simp only [Act.put, sA, sB, sC])
      refine t1 12 6 (.bool true) hS1a ?_
      (try simp only [Act.put, sA, sB, sC])
      refine wpL_done (by kernel_rfl) ?_ _
      have hBm := hB1a.drew
      have hSm : Sb W w b g cs at_ op n k _ := ⟨_, _, hBm⟩
      go_wp2
      refine wp_region_L (S := Sb W w b g cs at_ op n k) (Z := []) (by kernel_rfl) ?_
      refine t1 0 18 (.bool true) hSm ?_
      (try simp only [Act.put, sA, sB, sC])
      refine t1 1 19 (.bool true) hSm ?_
      (try simp only [Act.put, sA, sB, sC])
      refine t1 2 20 (.pointer (some ⟨b, 0, none⟩)) hSm ?_
      (try simp only [Act.put, sA, sB, sC])
      refine t1 3 21 (.pointer (some ⟨b, 0, none⟩)) hSm ?_
      (try simp only [Act.put, sA, sB, sC])
      refine t1 4 22 (.pointer (some ⟨b, 8, none⟩)) hSm ?_
      (try simp only [Act.put, sA, sB, sC])
      refine t1 5 23 (.pointer (some ⟨w.heap.size, 2, none⟩)) hSm ?_
      (try simp only [Act.put, sA, sB, sC])
      refine t2 6 24 (.int .i64 k) (fun w' hw' => ?_) hSm ?_
      · have hc0 := hw'.c 2 rfl; clear hw'; go_simp
      (try simp only [Act.put, sA, sB, sC])
      refine wpL_call (i := 7) (d := 25) (R := fun v w' => v = .bool true ∧ Bx W w b g cs at_ op n k (some r) qs w') (by kernel_rfl) rfl rfl (by kernel_rfl) (by kernel_rfl) ((hBm.take_yes hk9 hl).mono fun e w' he => ⟨_, he.1, rfl, he.2⟩) (fun v w' hR => ⟨_, _, hR.2⟩) (fun v w' hR => ?_)
      obtain ⟨rfl, hB2a⟩ := hR
      have hS2a : Sb W w b g cs at_ op n k w' := ⟨_, _, hB2a⟩
      (try simp only [Act.put, sA, sB, sC])
      refine t1 8 26 (.bool true) hS2a ?_
      (try simp only [Act.put, sA, sB, sC])
      refine t1 9 27 (.bool true) hS2a ?_
      (try simp only [Act.put, sA, sB, sC])
      refine t1 10 28 (.pointer (some ⟨b, 0, none⟩)) hS2a ?_
      (try simp only [Act.put, sA, sB, sC])
      refine t1 11 29 (.pointer (some ⟨w.heap.size, 2, none⟩)) hS2a ?_
      (try simp only [Act.put, sA, sB, sC])
      refine t2 12 30 (.int .i64 k) (fun w' hw' => ?_) hS2a ?_
      · have hc0 := hw'.c 2 rfl; clear hw'; go_simp
      (try simp only [Act.put, sA, sB, sC])
      refine wpL_call (i := 13) (d := 31) (R := fun v w' => v = .bool true ∧ Bx W w b g cs at_ op n k (some (k :: r)) qs w') (by kernel_rfl) rfl rfl (by kernel_rfl) (by kernel_rfl) ((hB2a.put_yes hco hk9 hl hs).mono fun e w' he => ⟨_, he.1, rfl, he.2⟩) (fun v w' hR => ⟨_, _, hR.2⟩) (fun v w' hR => ?_)
      obtain ⟨rfl, hB3a⟩ := hR
      have hS3a : Sb W w b g cs at_ op n k w' := ⟨_, _, hB3a⟩
      (try simp only [Act.put, sA, sB, sC])
      refine t1 14 32 (.bool true) hS3a ?_
      (try simp only [Act.put, sA, sB, sC])
      refine t1 15 33 (.bool true) hS3a ?_
      (try simp only [Act.put, sA, sB, sC])
      refine t1 16 34 (.pointer (some ⟨b, 0, none⟩)) hS3a ?_
      (try simp only [Act.put, sA, sB, sC])
      refine wpL_call (i := 17) (d := 35) (R := fun v w' => v = .bool (Cd.lead (k :: r) at_ 0 qs).isSome ∧ ∃ q', Bx W w b g cs at_ op n k (some (k :: r)) q' w' ∧ ∀ q, Cd.lead (k :: r) at_ 0 qs = some q → q' = q) (by kernel_rfl) rfl rfl (by kernel_rfl) (by kernel_rfl) ((hB3a.next ha hls hq6 (by (try simp only [List.length_cons]); omega)).mono fun e w' he => ⟨_, he.1, rfl, he.2⟩) (fun v w' hR => let ⟨q', h, _⟩ := hR.2; ⟨_, q', h⟩) (fun v w' hR => ?_)
      obtain ⟨rfl, hB4a⟩ := hR
      have hS4a : Sb W w b g cs at_ op n k w' := let ⟨q', h, _⟩ := hB4a; ⟨_, q', h⟩
      (try simp only [Act.put, sA, sB, sC])
      refine t1 18 36 (.bool (Cd.lead (k :: r) at_ 0 qs).isSome) hS4a ?_
      (try simp only [Act.put, sA, sB, sC])
      refine t1 19 4 (.bool (Cd.lead (k :: r) at_ 0 qs).isSome) hS4a ?_
      (try simp only [Act.put, sA, sB, sC])
      refine wpL_done (by kernel_rfl) ?_ _
      go_wp2
      go_ret
      exact Bx.ru hB4a
    · rw [Cd.onTop_no hno]
      have hS0 : Sb W w b g cs at_ op n k _ := ⟨_, _, hB0⟩
      have HB0 := Lib.hid hB0
      go_enter Try.func41, Try.ntmps41
      go_wp2
      refine wp_region_L (S := Sb W w b g cs at_ op n k) (Z := []) (by kernel_rfl) ?_
      refine t1 0 8 (.pointer (some ⟨w.heap.size, 1, none⟩)) hS0 ?_
      (try simp only [Act.put, sA, sB, sC])
      refine t2 1 9 (.int .i64 n) (fun w' hw' => ?_) hS0 ?_
      · have hc0 := hw'.c 1 rfl; clear hw'; go_simp
      (try simp only [Act.put, sA, sB, sC])
      refine t1 2 10 (.pointer (some ⟨w.heap.size, 2, none⟩)) hS0 ?_
      (try simp only [Act.put, sA, sB, sC])
      refine t2 3 11 (.int .i64 k) (fun w' hw' => ?_) hS0 ?_
      · have hc0 := hw'.c 2 rfl; clear hw'; go_simp
      (try simp only [Act.put, sA, sB, sC])
      refine t1 4 12 (.pointer (some ⟨w.heap.size, 2, none⟩)) hS0 ?_
      (try simp only [Act.put, sA, sB, sC])
      refine t2 5 13 (.int .i64 k) (fun w' hw' => ?_) hS0 ?_
      · have hc0 := hw'.c 2 rfl; clear hw'; go_simp
      (try simp only [Act.put, sA, sB, sC])
      refine wpL_call (i := 6) (d := 14) (R := fun v w' => v = .int .i64 0 ∧ Bx W w b g cs at_ op n k (some l) qs w') (by kernel_rfl) rfl rfl (by kernel_rfl) (by kernel_rfl) ((hB0.zero k).mono fun e w' he => ⟨_, he.1, rfl, he.2⟩) (fun v w' hR => ⟨_, _, hR.2⟩) (fun v w' hR => ?_)
      obtain ⟨rfl, hB0a⟩ := hR
      have hS0a : Sb W w b g cs at_ op n k w' := ⟨_, _, hB0a⟩
      (try simp only [Act.put, sA, sB, sC])
      refine wpL_call (i := 7) (d := 15) (R := fun v w' => v = .tuple #[.int .i64 (Bv.unN n k 0), .bool true] ∧ Bx W w b g cs at_ op n k (some l) qs w') (by kernel_rfl) rfl rfl (by kernel_rfl) (by kernel_rfl) ((hB0a.un hq n k 0 hu).mono fun e w' he => ⟨_, he.1, rfl, he.2⟩) (fun v w' hR => ⟨_, _, hR.2⟩) (fun v w' hR => ?_)
      obtain ⟨rfl, hB1a⟩ := hR
      have hS1a : Sb W w b g cs at_ op n k w' := ⟨_, _, hB1a⟩
      (try simp only [Act.put, sA, sB, sC])
      refine t1 8 7 (.tuple #[.int .i64 (Bv.unN n k 0), .bool true]) hS1a ?_
      (try simp only [Act.put, sA, sB, sC])
      refine t1 9 16 (.int .i64 (Bv.unN n k 0)) hS1a ?_
      (try simp only [Act.put, sA, sB, sC])
      refine t1 10 17 (.bool true) hS1a ?_
      (try simp only [Act.put, sA, sB, sC])
      refine t1 11 5 (.int .i64 (Bv.unN n k 0)) hS1a ?_
      (try simp only [Act.put, sA, sB, sC])
      refine t1 12 6 (.bool true) hS1a ?_
      (try simp only [Act.put, sA, sB, sC])
      refine wpL_done (by kernel_rfl) ?_ _
      have hBm := hB1a.drew
      have hSm : Sb W w b g cs at_ op n k _ := ⟨_, _, hBm⟩
      go_wp2
      refine wp_region_L (S := Sb W w b g cs at_ op n k) (Z := []) (by kernel_rfl) ?_
      refine t1 0 18 (.bool true) hSm ?_
      (try simp only [Act.put, sA, sB, sC])
      refine t1 1 19 (.bool true) hSm ?_
      (try simp only [Act.put, sA, sB, sC])
      refine t1 2 20 (.pointer (some ⟨b, 0, none⟩)) hSm ?_
      (try simp only [Act.put, sA, sB, sC])
      refine t1 3 21 (.pointer (some ⟨b, 0, none⟩)) hSm ?_
      (try simp only [Act.put, sA, sB, sC])
      refine t1 4 22 (.pointer (some ⟨b, 8, none⟩)) hSm ?_
      (try simp only [Act.put, sA, sB, sC])
      refine t1 5 23 (.pointer (some ⟨w.heap.size, 2, none⟩)) hSm ?_
      (try simp only [Act.put, sA, sB, sC])
      refine t2 6 24 (.int .i64 k) (fun w' hw' => ?_) hSm ?_
      · have hc0 := hw'.c 2 rfl; clear hw'; go_simp
      (try simp only [Act.put, sA, sB, sC])
      refine wpL_call (i := 7) (d := 25) (R := fun v w' => v = .bool false ∧ Bx W w b g cs at_ op n k (some l) qs w') (by kernel_rfl) rfl rfl (by kernel_rfl) (by kernel_rfl) ((hBm.take_no (x := k) hq hl64 hsk.2 hno).mono fun e w' he => ⟨_, he.1, rfl, he.2⟩) (fun v w' hR => ⟨_, _, hR.2⟩) (fun v w' hR => ?_)
      obtain ⟨rfl, hB2a⟩ := hR
      have hS2a : Sb W w b g cs at_ op n k w' := ⟨_, _, hB2a⟩
      (try simp only [Act.put, sA, sB, sC])
      refine t1 8 26 (.bool false) hS2a ?_
      (try simp only [Act.put, sA, sB, sC])
      refine t1 9 27 (.bool false) hS2a ?_
      (try simp only [Act.put, sA, sB, sC])
      refine t3 10 28 hS2a ?_
      (try simp only [Act.put, sA, sB, sC])
      refine t3 11 29 hS2a ?_
      (try simp only [Act.put, sA, sB, sC])
      refine t3 12 30 hS2a ?_
      (try simp only [Act.put, sA, sB, sC])
      refine t3 13 31 hS2a ?_
      (try simp only [Act.put, sA, sB, sC])
      refine t1 14 32 (.bool false) hS2a ?_
      (try simp only [Act.put, sA, sB, sC])
      refine t1 15 33 (.bool false) hS2a ?_
      (try simp only [Act.put, sA, sB, sC])
      refine t3 16 34 hS2a ?_
      (try simp only [Act.put, sA, sB, sC])
      refine t3 17 35 hS2a ?_
      (try simp only [Act.put, sA, sB, sC])
      refine t1 18 36 (.bool false) hS2a ?_
      (try simp only [Act.put, sA, sB, sC])
      refine t1 19 4 (.bool false) hS2a ?_
      (try simp only [Act.put, sA, sB, sC])
      refine wpL_done (by kernel_rfl) ?_ _
      go_wp2
      go_ret
      exact RuP.no hB2a.kp
  | false =>
    rw [if_neg (by simp)]
    have hS0 : Sb W w b g cs at_ op n k _ := ⟨_, _, hB0⟩
    have HB0 := Lib.hid hB0
    go_enter Try.func41, Try.ntmps41
    go_wp2
    refine wp_region_L (S := Sb W w b g cs at_ op n k) (Z := []) (by kernel_rfl) ?_
    refine t1 0 8 (.pointer (some ⟨w.heap.size, 1, none⟩)) hS0 ?_
    (try simp only [Act.put, sA, sB, sC])
    refine t2 1 9 (.int .i64 n) (fun w' hw' => ?_) hS0 ?_
    · have hc0 := hw'.c 1 rfl; clear hw'; go_simp
    (try simp only [Act.put, sA, sB, sC])
    refine t1 2 10 (.pointer (some ⟨w.heap.size, 2, none⟩)) hS0 ?_
    (try simp only [Act.put, sA, sB, sC])
    refine t2 3 11 (.int .i64 k) (fun w' hw' => ?_) hS0 ?_
    · have hc0 := hw'.c 2 rfl; clear hw'; go_simp
    (try simp only [Act.put, sA, sB, sC])
    refine t1 4 12 (.pointer (some ⟨w.heap.size, 2, none⟩)) hS0 ?_
    (try simp only [Act.put, sA, sB, sC])
    refine t2 5 13 (.int .i64 k) (fun w' hw' => ?_) hS0 ?_
    · have hc0 := hw'.c 2 rfl; clear hw'; go_simp
    (try simp only [Act.put, sA, sB, sC])
    refine wpL_call (i := 6) (d := 14) (R := fun v w' => v = .int .i64 0 ∧ Bx W w b g cs at_ op n k (some l) qs w') (by kernel_rfl) rfl rfl (by kernel_rfl) (by kernel_rfl) ((hB0.zero k).mono fun e w' he => ⟨_, he.1, rfl, he.2⟩) (fun v w' hR => ⟨_, _, hR.2⟩) (fun v w' hR => ?_)
    obtain ⟨rfl, hB0a⟩ := hR
    have hS0a : Sb W w b g cs at_ op n k w' := ⟨_, _, hB0a⟩
    (try simp only [Act.put, sA, sB, sC])
    refine wpL_call (i := 7) (d := 15) (R := fun v w' => v = .tuple #[.int .i64 (Bv.unN n k 0), .bool false] ∧ Bx W w b g cs at_ op n k (some l) qs w') (by kernel_rfl) rfl rfl (by kernel_rfl) (by kernel_rfl) ((hB0a.un hq n k 0 hu).mono fun e w' he => ⟨_, he.1, rfl, he.2⟩) (fun v w' hR => ⟨_, _, hR.2⟩) (fun v w' hR => ?_)
    obtain ⟨rfl, hB1a⟩ := hR
    have hS1a : Sb W w b g cs at_ op n k w' := ⟨_, _, hB1a⟩
    (try simp only [Act.put, sA, sB, sC])
    refine t1 8 7 (.tuple #[.int .i64 (Bv.unN n k 0), .bool false]) hS1a ?_
    (try simp only [Act.put, sA, sB, sC])
    refine t1 9 16 (.int .i64 (Bv.unN n k 0)) hS1a ?_
    (try simp only [Act.put, sA, sB, sC])
    refine t1 10 17 (.bool false) hS1a ?_
    (try simp only [Act.put, sA, sB, sC])
    refine t1 11 5 (.int .i64 (Bv.unN n k 0)) hS1a ?_
    (try simp only [Act.put, sA, sB, sC])
    refine t1 12 6 (.bool false) hS1a ?_
    (try simp only [Act.put, sA, sB, sC])
    refine wpL_done (by kernel_rfl) ?_ _
    have hBm := hB1a.drew
    have hSm : Sb W w b g cs at_ op n k _ := ⟨_, _, hBm⟩
    go_wp2
    refine wp_region_L (S := Sb W w b g cs at_ op n k) (Z := []) (by kernel_rfl) ?_
    refine t1 0 18 (.bool false) hSm ?_
    (try simp only [Act.put, sA, sB, sC])
    refine t1 1 19 (.bool false) hSm ?_
    (try simp only [Act.put, sA, sB, sC])
    refine t3 2 20 hSm ?_
    (try simp only [Act.put, sA, sB, sC])
    refine t3 3 21 hSm ?_
    (try simp only [Act.put, sA, sB, sC])
    refine t3 4 22 hSm ?_
    (try simp only [Act.put, sA, sB, sC])
    refine t3 5 23 hSm ?_
    (try simp only [Act.put, sA, sB, sC])
    refine t3 6 24 hSm ?_
    (try simp only [Act.put, sA, sB, sC])
    refine t3 7 25 hSm ?_
    (try simp only [Act.put, sA, sB, sC])
    refine t1 8 26 (.bool false) hSm ?_
    (try simp only [Act.put, sA, sB, sC])
    refine t1 9 27 (.bool false) hSm ?_
    (try simp only [Act.put, sA, sB, sC])
    refine t3 10 28 hSm ?_
    (try simp only [Act.put, sA, sB, sC])
    refine t3 11 29 hSm ?_
    (try simp only [Act.put, sA, sB, sC])
    refine t3 12 30 hSm ?_
    (try simp only [Act.put, sA, sB, sC])
    refine t3 13 31 hSm ?_
    (try simp only [Act.put, sA, sB, sC])
    refine t1 14 32 (.bool false) hSm ?_
    (try simp only [Act.put, sA, sB, sC])
    refine t1 15 33 (.bool false) hSm ?_
    (try simp only [Act.put, sA, sB, sC])
    refine t3 16 34 hSm ?_
    (try simp only [Act.put, sA, sB, sC])
    refine t3 17 35 hSm ?_
    (try simp only [Act.put, sA, sB, sC])
    refine t1 18 36 (.bool false) hSm ?_
    (try simp only [Act.put, sA, sB, sC])
    refine t1 19 4 (.bool false) hSm ?_
    (try simp only [Act.put, sA, sB, sC])
    refine wpL_done (by kernel_rfl) ?_ _
    go_wp2
    go_ret
    exact RuP.no hBm.kp
end Go.Proofs.Ytlppifnepckpiaa
