/- Package code: the rules binary (written by mkcf.py). -/
import Derived.Test.YtlppifnepckpiaaCfF
namespace Go.Proofs.Ytlppifnepckpiaa
open Go.RowKit Go.Maps Go.WideMaps
open Cd (Kn)

set_option maxHeartbeats 2000000 in
set_option maxRecDepth 100000 in
theorem binary_any (W : World) (b g : Nat) (cs : Array Value) (at_ : Nat) (c : Cd.Code) (l : List Int) (qs : Kn) (op n k : Int) (w : World) (h : At W w b g cs at_ c l qs) :
    Calls Try.prog 42 #[.pointer (some ⟨b, 0, none⟩), .agg #[.int .i64 op, .int .i64 n, .int .i64 k]] w (RuP W w b g cs at_ (if Bv.binB n k 0 0 then Cd.onTop l k (fun r => Cd.onTop r k (fun r => Cd.lead (Bv.toK n k :: r) at_ 0 qs)) else none)) := by
  have ha := h.ha
  have hls := h.sks
  have hq6 := h.q6
  have hco := h.co
  have hl64 := h.l64
  have hsk := h.sk
  have hs64 := h.s64
  have hq : 0 < qs.length := by omega
  have hB0 : Bx W w b g cs at_ op n k (some l) qs _ := Bx.new h.wk hq
  clear h
  cases hu : Bv.binB n k 0 0 with
  | true =>
    rw [if_pos rfl]
    rcases Cd.top_or l k with ⟨r, rfl⟩ | hno
    · rw [Cd.onTop_yes]
      have hl : r.length < 64 := hl64
      have hk9 := hsk.2 k (by simp)
      rcases Cd.top_or r k with ⟨r, rfl⟩ | hno
      · rw [Cd.onTop_yes]
        have hl2 : r.length < 64 := by simp only [List.length_cons] at hl; omega
        have hs : (r.length : Int) < c.stack := by have := hsk.1; simp only [List.length_cons] at this; omega
        have hK : Bv.toK n k = Bv.binK n k 0 0 := by unfold Bv.binK; rw [if_pos hu]
        have hx9 : 1 ≤ Bv.binK n k 0 0 ∧ Bv.binK n k 0 0 ≤ 9 := by rw [← hK]; unfold Bv.toK; split <;> omega
        rw [hK]
        have hS0 : Sb W w b g cs at_ op n k _ := ⟨_, _, hB0⟩
        have HB0 := Lib.hid hB0
        go_enter Try.func42, Try.ntmps42
        go_wp2
        refine wp_region_L (S := Sb W w b g cs at_ op n k) (Z := []) (by kernel_rfl) ?_
        refine t1 0 9 (.pointer (some ⟨w.heap.size, 1, none⟩)) hS0 ?_
        (try simp only [Act.put, sA, sB, sC])
        refine t2 1 10 (.int .i64 n) (fun w' hw' => ?_) hS0 ?_
        · have hc0 := hw'.c 1 rfl; clear hw'; go_simp
        (try simp only [Act.put, sA, sB, sC])
        refine t1 2 11 (.pointer (some ⟨w.heap.size, 2, none⟩)) hS0 ?_
        (try simp only [Act.put, sA, sB, sC])
        refine t2 3 12 (.int .i64 k) (fun w' hw' => ?_) hS0 ?_
        · have hc0 := hw'.c 2 rfl; clear hw'; go_simp
        (try simp only [Act.put, sA, sB, sC])
        refine t1 4 13 (.pointer (some ⟨w.heap.size, 2, none⟩)) hS0 ?_
        (try simp only [Act.put, sA, sB, sC])
        refine t2 5 14 (.int .i64 k) (fun w' hw' => ?_) hS0 ?_
        · have hc0 := hw'.c 2 rfl; clear hw'; go_simp
        (try simp only [Act.put, sA, sB, sC])
        refine t1 7 16 (.pointer (some ⟨w.heap.size, 2, none⟩)) hS0 ?_
        (try simp only [Act.put, sA, sB, sC])
        refine t2 8 17 (.int .i64 k) (fun w' hw' => ?_) hS0 ?_
        · have hc0 := hw'.c 2 rfl; clear hw'; go_simp
        (try simp only [Act.put, sA, sB, sC])
        refine wpL_call (i := 6) (d := 15) (R := fun v w' => v = .int .i64 0 ∧ Bx W w b g cs at_ op n k (some (k :: k :: r)) qs w') (by kernel_rfl) rfl rfl (by kernel_rfl) (by kernel_rfl) ((hB0.zero k).mono fun e w' he => ⟨_, he.1, rfl, he.2⟩) (fun v w' hR => ⟨_, _, hR.2⟩) (fun v w' hR => ?_)
        obtain ⟨rfl, hB0a⟩ := hR
        have hS0a : Sb W w b g cs at_ op n k w' := ⟨_, _, hB0a⟩
        (try simp only [Act.put, sA, sB, sC])
        refine wpL_call (i := 9) (d := 18) (R := fun v w' => v = .int .i64 0 ∧ Bx W w b g cs at_ op n k (some (k :: k :: r)) qs w') (by kernel_rfl) rfl rfl (by kernel_rfl) (by kernel_rfl) ((hB0a.zero k).mono fun e w' he => ⟨_, he.1, rfl, he.2⟩) (fun v w' hR => ⟨_, _, hR.2⟩) (fun v w' hR => ?_)
        obtain ⟨rfl, hB1a⟩ := hR
        have hS1a : Sb W w b g cs at_ op n k w' := ⟨_, _, hB1a⟩
        (try simp only [Act.put, sA, sB, sC])
        refine wpL_call (i := 10) (d := 19) (R := fun v w' => v = .tuple #[.int .i64 (Bv.binN n k 0 0), .int .i64 (Bv.binK n k 0 0), .bool true] ∧ Bx W w b g cs at_ op n k (some (k :: k :: r)) qs w') (by kernel_rfl) rfl rfl (by kernel_rfl) (by kernel_rfl) ((hB1a.bin hq n k hu).mono fun e w' he => ⟨_, he.1, rfl, he.2⟩) (fun v w' hR => ⟨_, _, hR.2⟩) (fun v w' hR => ?_)
        obtain ⟨rfl, hB2a⟩ := hR
        have hS2a : Sb W w b g cs at_ op n k w' := ⟨_, _, hB2a⟩
        (try simp only [Act.put, sA, sB, sC])
        refine t1 11 8 (.tuple #[.int .i64 (Bv.binN n k 0 0), .int .i64 (Bv.binK n k 0 0), .bool true]) hS2a ?_
        (try simp only [Act.put, sA, sB, sC])
        refine t1 12 20 (.int .i64 (Bv.binN n k 0 0)) hS2a ?_
        (try simp only [Act.put, sA, sB, sC])
        refine t1 13 21 (.int .i64 (Bv.binK n k 0 0)) hS2a ?_
        (try simp only [Act.put, sA, sB, sC])
        refine t1 14 22 (.bool true) hS2a ?_
        (try simp only [Act.put, sA, sB, sC])
        refine t1 15 5 (.int .i64 (Bv.binN n k 0 0)) hS2a ?_
        (try simp only [Act.put, sA, sB, sC])
        refine t1 16 6 (.int .i64 (Bv.binK n k 0 0)) hS2a ?_
        (try simp only [Act.put, sA, sB, sC])
        refine t1 17 7 (.bool true) hS2a ?_
        (try simp only [Act.put, sA, sB, sC])
        refine wpL_done (by kernel_rfl) ?_ _
        have hBm := hB2a.drew
        have hSm : Sb W w b g cs at_ op n k _ := ⟨_, _, hBm⟩
        go_wp2
        refine wp_region_L (S := Sb W w b g cs at_ op n k) (Z := []) (by kernel_rfl) ?_
        refine t1 0 23 (.bool true) hSm ?_
        (try simp only [Act.put, sA, sB, sC])
        refine t1 1 24 (.bool true) hSm ?_
        (try simp only [Act.put, sA, sB, sC])
        refine t1 2 25 (.pointer (some ⟨b, 0, none⟩)) hSm ?_
        (try simp only [Act.put, sA, sB, sC])
        refine t1 3 26 (.pointer (some ⟨b, 0, none⟩)) hSm ?_
        (try simp only [Act.put, sA, sB, sC])
        refine t1 4 27 (.pointer (some ⟨b, 8, none⟩)) hSm ?_
        (try simp only [Act.put, sA, sB, sC])
        refine t1 5 28 (.pointer (some ⟨w.heap.size, 2, none⟩)) hSm ?_
        (try simp only [Act.put, sA, sB, sC])
        refine t2 6 29 (.int .i64 k) (fun w' hw' => ?_) hSm ?_
        · have hc0 := hw'.c 2 rfl; clear hw'; go_simp
        (try simp only [Act.put, sA, sB, sC])
        refine wpL_call (i := 7) (d := 30) (R := fun v w' => v = .bool true ∧ Bx W w b g cs at_ op n k (some (k :: r)) qs w') (by kernel_rfl) rfl rfl (by kernel_rfl) (by kernel_rfl) ((hBm.take_yes hk9 hl).mono fun e w' he => ⟨_, he.1, rfl, he.2⟩) (fun v w' hR => ⟨_, _, hR.2⟩) (fun v w' hR => ?_)
        obtain ⟨rfl, hB3a⟩ := hR
        have hS3a : Sb W w b g cs at_ op n k w' := ⟨_, _, hB3a⟩
        (try simp only [Act.put, sA, sB, sC])
        refine t1 8 31 (.bool true) hS3a ?_
        (try simp only [Act.put, sA, sB, sC])
        refine t1 9 32 (.bool true) hS3a ?_
        (try simp only [Act.put, sA, sB, sC])
        refine t1 10 33 (.pointer (some ⟨b, 0, none⟩)) hS3a ?_
        (try simp only [Act.put, sA, sB, sC])
        refine t1 11 34 (.pointer (some ⟨b, 0, none⟩)) hS3a ?_
        (try simp only [Act.put, sA, sB, sC])
        refine t1 12 35 (.pointer (some ⟨b, 8, none⟩)) hS3a ?_
        (try simp only [Act.put, sA, sB, sC])
        refine t1 13 36 (.pointer (some ⟨w.heap.size, 2, none⟩)) hS3a ?_
        (try simp only [Act.put, sA, sB, sC])
        refine t2 14 37 (.int .i64 k) (fun w' hw' => ?_) hS3a ?_
        · have hc0 := hw'.c 2 rfl; clear hw'; go_simp
        (try simp only [Act.put, sA, sB, sC])
        refine wpL_call (i := 15) (d := 38) (R := fun v w' => v = .bool true ∧ Bx W w b g cs at_ op n k (some r) qs w') (by kernel_rfl) rfl rfl (by kernel_rfl) (by kernel_rfl) ((hB3a.take_yes hk9 hl2).mono fun e w' he => ⟨_, he.1, rfl, he.2⟩) (fun v w' hR => ⟨_, _, hR.2⟩) (fun v w' hR => ?_)
        obtain ⟨rfl, hB4a⟩ := hR
        have hS4a : Sb W w b g cs at_ op n k w' := ⟨_, _, hB4a⟩
        (try simp only [Act.put, sA, sB, sC])
        refine t1 16 39 (.bool true) hS4a ?_
        (try simp only [Act.put, sA, sB, sC])
        refine t1 17 40 (.bool true) hS4a ?_
        (try simp only [Act.put, sA, sB, sC])
        refine t1 18 41 (.pointer (some ⟨b, 0, none⟩)) hS4a ?_
        (try simp only [Act.put, sA, sB, sC])
        refine t1 19 42 (.int .i64 (Bv.binK n k 0 0)) hS4a ?_
        (try simp only [Act.put, sA, sB, sC])
        refine wpL_call (i := 20) (d := 43) (R := fun v w' => v = .bool true ∧ Bx W w b g cs at_ op n k (some (Bv.binK n k 0 0 :: r)) qs w') (by kernel_rfl) rfl rfl (by kernel_rfl) (by kernel_rfl) ((hB4a.put_yes hco hx9 hl2 hs).mono fun e w' he => ⟨_, he.1, rfl, he.2⟩) (fun v w' hR => ⟨_, _, hR.2⟩) (fun v w' hR => ?_)
        obtain ⟨rfl, hB5a⟩ := hR
        have hS5a : Sb W w b g cs at_ op n k w' := ⟨_, _, hB5a⟩
        (try simp only [Act.put, sA, sB, sC])
        refine t1 21 44 (.bool true) hS5a ?_
        (try simp only [Act.put, sA, sB, sC])
        refine t1 22 45 (.bool true) hS5a ?_
        (try simp only [Act.put, sA, sB, sC])
        refine t1 23 46 (.pointer (some ⟨b, 0, none⟩)) hS5a ?_
        (try simp only [Act.put, sA, sB, sC])
        refine wpL_call (i := 24) (d := 47) (R := fun v w' => v = .bool (Cd.lead (Bv.binK n k 0 0 :: r) at_ 0 qs).isSome ∧ ∃ q', Bx W w b g cs at_ op n k (some (Bv.binK n k 0 0 :: r)) q' w' ∧ ∀ q, Cd.lead (Bv.binK n k 0 0 :: r) at_ 0 qs = some q → q' = q) (by kernel_rfl) rfl rfl (by kernel_rfl) (by kernel_rfl) ((hB5a.next ha hls hq6 (by (try simp only [List.length_cons]); omega)).mono fun e w' he => ⟨_, he.1, rfl, he.2⟩) (fun v w' hR => let ⟨q', h, _⟩ := hR.2; ⟨_, q', h⟩) (fun v w' hR => ?_)
        obtain ⟨rfl, hB6a⟩ := hR
        have hS6a : Sb W w b g cs at_ op n k w' := let ⟨q', h, _⟩ := hB6a; ⟨_, q', h⟩
        (try simp only [Act.put, sA, sB, sC])
        refine t1 25 48 (.bool (Cd.lead (Bv.binK n k 0 0 :: r) at_ 0 qs).isSome) hS6a ?_
        (try simp only [Act.put, sA, sB, sC])
        refine t1 26 4 (.bool (Cd.lead (Bv.binK n k 0 0 :: r) at_ 0 qs).isSome) hS6a ?_
        (try simp only [Act.put, sA, sB, sC])
        refine wpL_done (by kernel_rfl) ?_ _
        go_wp2
        go_ret
        exact Bx.ru hB6a
      · rw [Cd.onTop_no hno]
        have hl2 : r.length ≤ 64 := by omega
        have hall : ∀ x ∈ r, 1 ≤ x ∧ x ≤ 9 := fun x hx => hsk.2 x (by simp [hx])
        have hS0 : Sb W w b g cs at_ op n k _ := ⟨_, _, hB0⟩
        have HB0 := Lib.hid hB0
        go_enter Try.func42, Try.ntmps42
        go_wp2
        refine wp_region_L (S := Sb W w b g cs at_ op n k) (Z := []) (by kernel_rfl) ?_
        refine t1 0 9 (.pointer (some ⟨w.heap.size, 1, none⟩)) hS0 ?_
        (try simp only [Act.put, sA, sB, sC])
        refine t2 1 10 (.int .i64 n) (fun w' hw' => ?_) hS0 ?_
        · have hc0 := hw'.c 1 rfl; clear hw'; go_simp
        (try simp only [Act.put, sA, sB, sC])
        refine t1 2 11 (.pointer (some ⟨w.heap.size, 2, none⟩)) hS0 ?_
        (try simp only [Act.put, sA, sB, sC])
        refine t2 3 12 (.int .i64 k) (fun w' hw' => ?_) hS0 ?_
        · have hc0 := hw'.c 2 rfl; clear hw'; go_simp
        (try simp only [Act.put, sA, sB, sC])
        refine t1 4 13 (.pointer (some ⟨w.heap.size, 2, none⟩)) hS0 ?_
        (try simp only [Act.put, sA, sB, sC])
        refine t2 5 14 (.int .i64 k) (fun w' hw' => ?_) hS0 ?_
        · have hc0 := hw'.c 2 rfl; clear hw'; go_simp
        (try simp only [Act.put, sA, sB, sC])
        refine t1 7 16 (.pointer (some ⟨w.heap.size, 2, none⟩)) hS0 ?_
        (try simp only [Act.put, sA, sB, sC])
        refine t2 8 17 (.int .i64 k) (fun w' hw' => ?_) hS0 ?_
        · have hc0 := hw'.c 2 rfl; clear hw'; go_simp
        (try simp only [Act.put, sA, sB, sC])
        refine wpL_call (i := 6) (d := 15) (R := fun v w' => v = .int .i64 0 ∧ Bx W w b g cs at_ op n k (some (k :: r)) qs w') (by kernel_rfl) rfl rfl (by kernel_rfl) (by kernel_rfl) ((hB0.zero k).mono fun e w' he => ⟨_, he.1, rfl, he.2⟩) (fun v w' hR => ⟨_, _, hR.2⟩) (fun v w' hR => ?_)
        obtain ⟨rfl, hB0a⟩ := hR
        have hS0a : Sb W w b g cs at_ op n k w' := ⟨_, _, hB0a⟩
        (try simp only [Act.put, sA, sB, sC])
        refine wpL_call (i := 9) (d := 18) (R := fun v w' => v = .int .i64 0 ∧ Bx W w b g cs at_ op n k (some (k :: r)) qs w') (by kernel_rfl) rfl rfl (by kernel_rfl) (by kernel_rfl) ((hB0a.zero k).mono fun e w' he => ⟨_, he.1, rfl, he.2⟩) (fun v w' hR => ⟨_, _, hR.2⟩) (fun v w' hR => ?_)
        obtain ⟨rfl, hB1a⟩ := hR
        have hS1a : Sb W w b g cs at_ op n k w' := ⟨_, _, hB1a⟩
        (try simp only [Act.put, sA, sB, sC])
        refine wpL_call (i := 10) (d := 19) (R := fun v w' => v = .tuple #[.int .i64 (Bv.binN n k 0 0), .int .i64 (Bv.binK n k 0 0), .bool true] ∧ Bx W w b g cs at_ op n k (some (k :: r)) qs w') (by kernel_rfl) rfl rfl (by kernel_rfl) (by kernel_rfl) ((hB1a.bin hq n k hu).mono fun e w' he => ⟨_, he.1, rfl, he.2⟩) (fun v w' hR => ⟨_, _, hR.2⟩) (fun v w' hR => ?_)
        obtain ⟨rfl, hB2a⟩ := hR
        have hS2a : Sb W w b g cs at_ op n k w' := ⟨_, _, hB2a⟩
        (try simp only [Act.put, sA, sB, sC])
        refine t1 11 8 (.tuple #[.int .i64 (Bv.binN n k 0 0), .int .i64 (Bv.binK n k 0 0), .bool true]) hS2a ?_
        (try simp only [Act.put, sA, sB, sC])
        refine t1 12 20 (.int .i64 (Bv.binN n k 0 0)) hS2a ?_
        (try simp only [Act.put, sA, sB, sC])
        refine t1 13 21 (.int .i64 (Bv.binK n k 0 0)) hS2a ?_
        (try simp only [Act.put, sA, sB, sC])
        refine t1 14 22 (.bool true) hS2a ?_
        (try simp only [Act.put, sA, sB, sC])
        refine t1 15 5 (.int .i64 (Bv.binN n k 0 0)) hS2a ?_
        (try simp only [Act.put, sA, sB, sC])
        refine t1 16 6 (.int .i64 (Bv.binK n k 0 0)) hS2a ?_
        (try simp only [Act.put, sA, sB, sC])
        refine t1 17 7 (.bool true) hS2a ?_
        (try simp only [Act.put, sA, sB, sC])
        refine wpL_done (by kernel_rfl) ?_ _
        have hBm := hB2a.drew
        have hSm : Sb W w b g cs at_ op n k _ := ⟨_, _, hBm⟩
        go_wp2
        refine wp_region_L (S := Sb W w b g cs at_ op n k) (Z := []) (by kernel_rfl) ?_
        refine t1 0 23 (.bool true) hSm ?_
        (try simp only [Act.put, sA, sB, sC])
        refine t1 1 24 (.bool true) hSm ?_
        (try simp only [Act.put, sA, sB, sC])
        refine t1 2 25 (.pointer (some ⟨b, 0, none⟩)) hSm ?_
        (try simp only [Act.put, sA, sB, sC])
        refine t1 3 26 (.pointer (some ⟨b, 0, none⟩)) hSm ?_
        (try simp only [Act.put, sA, sB, sC])
        refine t1 4 27 (.pointer (some ⟨b, 8, none⟩)) hSm ?_
        (try simp only [Act.put, sA, sB, sC])
        refine t1 5 28 (.pointer (some ⟨w.heap.size, 2, none⟩)) hSm ?_
        (try simp only [Act.put, sA, sB, sC])
        refine t2 6 29 (.int .i64 k) (fun w' hw' => ?_) hSm ?_
        · have hc0 := hw'.c 2 rfl; clear hw'; go_simp
        (try simp only [Act.put, sA, sB, sC])
        refine wpL_call (i := 7) (d := 30) (R := fun v w' => v = .bool true ∧ Bx W w b g cs at_ op n k (some r) qs w') (by kernel_rfl) rfl rfl (by kernel_rfl) (by kernel_rfl) ((hBm.take_yes hk9 hl).mono fun e w' he => ⟨_, he.1, rfl, he.2⟩) (fun v w' hR => ⟨_, _, hR.2⟩) (fun v w' hR => ?_)
        obtain ⟨rfl, hB3a⟩ := hR
        have hS3a : Sb W w b g cs at_ op n k w' := ⟨_, _, hB3a⟩
        (try simp only [Act.put, sA, sB, sC])
        refine t1 8 31 (.bool true) hS3a ?_
        (try simp only [Act.put, sA, sB, sC])
        refine t1 9 32 (.bool true) hS3a ?_
        (try simp only [Act.put, sA, sB, sC])
        refine t1 10 33 (.pointer (some ⟨b, 0, none⟩)) hS3a ?_
        (try simp only [Act.put, sA, sB, sC])
        refine t1 11 34 (.pointer (some ⟨b, 0, none⟩)) hS3a ?_
        (try simp only [Act.put, sA, sB, sC])
        refine t1 12 35 (.pointer (some ⟨b, 8, none⟩)) hS3a ?_
        (try simp only [Act.put, sA, sB, sC])
        refine t1 13 36 (.pointer (some ⟨w.heap.size, 2, none⟩)) hS3a ?_
        (try simp only [Act.put, sA, sB, sC])
        refine t2 14 37 (.int .i64 k) (fun w' hw' => ?_) hS3a ?_
        · have hc0 := hw'.c 2 rfl; clear hw'; go_simp
        (try simp only [Act.put, sA, sB, sC])
        refine wpL_call (i := 15) (d := 38) (R := fun v w' => v = .bool false ∧ Bx W w b g cs at_ op n k (some r) qs w') (by kernel_rfl) rfl rfl (by kernel_rfl) (by kernel_rfl) ((hB3a.take_no (x := k) hq hl2 hall hno).mono fun e w' he => ⟨_, he.1, rfl, he.2⟩) (fun v w' hR => ⟨_, _, hR.2⟩) (fun v w' hR => ?_)
        obtain ⟨rfl, hB4a⟩ := hR
        have hS4a : Sb W w b g cs at_ op n k w' := ⟨_, _, hB4a⟩
        (try simp only [Act.put, sA, sB, sC])
        refine t1 16 39 (.bool false) hS4a ?_
        (try simp only [Act.put, sA, sB, sC])
        refine t1 17 40 (.bool false) hS4a ?_
        (try simp only [Act.put, sA, sB, sC])
        refine t3 18 41 hS4a ?_
        (try simp only [Act.put, sA, sB, sC])
        refine t3 19 42 hS4a ?_
        (try simp only [Act.put, sA, sB, sC])
        refine t3 20 43 hS4a ?_
        (try simp only [Act.put, sA, sB, sC])
        refine t1 21 44 (.bool false) hS4a ?_
        (try simp only [Act.put, sA, sB, sC])
        refine t1 22 45 (.bool false) hS4a ?_
        (try simp only [Act.put, sA, sB, sC])
        refine t3 23 46 hS4a ?_
        (try simp only [Act.put, sA, sB, sC])
        refine t3 24 47 hS4a ?_
        (try simp only [Act.put, sA, sB, sC])
        refine t1 25 48 (.bool false) hS4a ?_
        (try simp only [Act.put, sA, sB, sC])
        refine t1 26 4 (.bool false) hS4a ?_
        (try simp only [Act.put, sA, sB, sC])
        refine wpL_done (by kernel_rfl) ?_ _
        go_wp2
        go_ret
        exact RuP.no hB4a.kp
    · rw [Cd.onTop_no hno]
      have hS0 : Sb W w b g cs at_ op n k _ := ⟨_, _, hB0⟩
      have HB0 := Lib.hid hB0
      go_enter Try.func42, Try.ntmps42
      go_wp2
      refine wp_region_L (S := Sb W w b g cs at_ op n k) (Z := []) (by kernel_rfl) ?_
      refine t1 0 9 (.pointer (some ⟨w.heap.size, 1, none⟩)) hS0 ?_
      (try simp only [Act.put, sA, sB, sC])
      refine t2 1 10 (.int .i64 n) (fun w' hw' => ?_) hS0 ?_
      · have hc0 := hw'.c 1 rfl; clear hw'; go_simp
      (try simp only [Act.put, sA, sB, sC])
      refine t1 2 11 (.pointer (some ⟨w.heap.size, 2, none⟩)) hS0 ?_
      (try simp only [Act.put, sA, sB, sC])
      refine t2 3 12 (.int .i64 k) (fun w' hw' => ?_) hS0 ?_
      · have hc0 := hw'.c 2 rfl; clear hw'; go_simp
      (try simp only [Act.put, sA, sB, sC])
      refine t1 4 13 (.pointer (some ⟨w.heap.size, 2, none⟩)) hS0 ?_
      (try simp only [Act.put, sA, sB, sC])
      refine t2 5 14 (.int .i64 k) (fun w' hw' => ?_) hS0 ?_
      · have hc0 := hw'.c 2 rfl; clear hw'; go_simp
      (try simp only [Act.put, sA, sB, sC])
      refine t1 7 16 (.pointer (some ⟨w.heap.size, 2, none⟩)) hS0 ?_
      (try simp only [Act.put, sA, sB, sC])
      refine t2 8 17 (.int .i64 k) (fun w' hw' => ?_) hS0 ?_
      · have hc0 := hw'.c 2 rfl; clear hw'; go_simp
      (try simp only [Act.put, sA, sB, sC])
      refine wpL_call (i := 6) (d := 15) (R := fun v w' => v = .int .i64 0 ∧ Bx W w b g cs at_ op n k (some l) qs w') (by kernel_rfl) rfl rfl (by kernel_rfl) (by kernel_rfl) ((hB0.zero k).mono fun e w' he => ⟨_, he.1, rfl, he.2⟩) (fun v w' hR => ⟨_, _, hR.2⟩) (fun v w' hR => ?_)
      obtain ⟨rfl, hB0a⟩ := hR
      have hS0a : Sb W w b g cs at_ op n k w' := ⟨_, _, hB0a⟩
      (try simp only [Act.put, sA, sB, sC])
      refine wpL_call (i := 9) (d := 18) (R := fun v w' => v = .int .i64 0 ∧ Bx W w b g cs at_ op n k (some l) qs w') (by kernel_rfl) rfl rfl (by kernel_rfl) (by kernel_rfl) ((hB0a.zero k).mono fun e w' he => ⟨_, he.1, rfl, he.2⟩) (fun v w' hR => ⟨_, _, hR.2⟩) (fun v w' hR => ?_)
      obtain ⟨rfl, hB1a⟩ := hR
      have hS1a : Sb W w b g cs at_ op n k w' := ⟨_, _, hB1a⟩
      (try simp only [Act.put, sA, sB, sC])
      refine wpL_call (i := 10) (d := 19) (R := fun v w' => v = .tuple #[.int .i64 (Bv.binN n k 0 0), .int .i64 (Bv.binK n k 0 0), .bool true] ∧ Bx W w b g cs at_ op n k (some l) qs w') (by kernel_rfl) rfl rfl (by kernel_rfl) (by kernel_rfl) ((hB1a.bin hq n k hu).mono fun e w' he => ⟨_, he.1, rfl, he.2⟩) (fun v w' hR => ⟨_, _, hR.2⟩) (fun v w' hR => ?_)
      obtain ⟨rfl, hB2a⟩ := hR
      have hS2a : Sb W w b g cs at_ op n k w' := ⟨_, _, hB2a⟩
      (try simp only [Act.put, sA, sB, sC])
      refine t1 11 8 (.tuple #[.int .i64 (Bv.binN n k 0 0), .int .i64 (Bv.binK n k 0 0), .bool true]) hS2a ?_
      (try simp only [Act.put, sA, sB, sC])
      refine t1 12 20 (.int .i64 (Bv.binN n k 0 0)) hS2a ?_
      (try simp only [Act.put, sA, sB, sC])
      refine t1 13 21 (.int .i64 (Bv.binK n k 0 0)) hS2a ?_
      (try simp only [Act.put, sA, sB, sC])
      refine t1 14 22 (.bool true) hS2a ?_
      (try simp only [Act.put, sA, sB, sC])
      refine t1 15 5 (.int .i64 (Bv.binN n k 0 0)) hS2a ?_
      (try simp only [Act.put, sA, sB, sC])
      refine t1 16 6 (.int .i64 (Bv.binK n k 0 0)) hS2a ?_
      (try simp only [Act.put, sA, sB, sC])
      refine t1 17 7 (.bool true) hS2a ?_
      (try simp only [Act.put, sA, sB, sC])
      refine wpL_done (by kernel_rfl) ?_ _
      have hBm := hB2a.drew
      have hSm : Sb W w b g cs at_ op n k _ := ⟨_, _, hBm⟩
      go_wp2
      refine wp_region_L (S := Sb W w b g cs at_ op n k) (Z := []) (by kernel_rfl) ?_
      refine t1 0 23 (.bool true) hSm ?_
      (try simp only [Act.put, sA, sB, sC])
      refine t1 1 24 (.bool true) hSm ?_
      (try simp only [Act.put, sA, sB, sC])
      refine t1 2 25 (.pointer (some ⟨b, 0, none⟩)) hSm ?_
      (try simp only [Act.put, sA, sB, sC])
      refine t1 3 26 (.pointer (some ⟨b, 0, none⟩)) hSm ?_
      (try simp only [Act.put, sA, sB, sC])
      refine t1 4 27 (.pointer (some ⟨b, 8, none⟩)) hSm ?_
      (try simp only [Act.put, sA, sB, sC])
      refine t1 5 28 (.pointer (some ⟨w.heap.size, 2, none⟩)) hSm ?_
      (try simp only [Act.put, sA, sB, sC])
      refine t2 6 29 (.int .i64 k) (fun w' hw' => ?_) hSm ?_
      · have hc0 := hw'.c 2 rfl; clear hw'; go_simp
      (try simp only [Act.put, sA, sB, sC])
      refine wpL_call (i := 7) (d := 30) (R := fun v w' => v = .bool false ∧ Bx W w b g cs at_ op n k (some l) qs w') (by kernel_rfl) rfl rfl (by kernel_rfl) (by kernel_rfl) ((hBm.take_no (x := k) hq hl64 hsk.2 hno).mono fun e w' he => ⟨_, he.1, rfl, he.2⟩) (fun v w' hR => ⟨_, _, hR.2⟩) (fun v w' hR => ?_)
      obtain ⟨rfl, hB3a⟩ := hR
      have hS3a : Sb W w b g cs at_ op n k w' := ⟨_, _, hB3a⟩
      (try simp only [Act.put, sA, sB, sC])
      refine t1 8 31 (.bool false) hS3a ?_
      (try simp only [Act.put, sA, sB, sC])
      refine t1 9 32 (.bool false) hS3a ?_
      (try simp only [Act.put, sA, sB, sC])
      refine t3 10 33 hS3a ?_
      (try simp only [Act.put, sA, sB, sC])
      refine t3 11 34 hS3a ?_
      (try simp only [Act.put, sA, sB, sC])
      refine t3 12 35 hS3a ?_
      (try simp only [Act.put, sA, sB, sC])
      refine t3 13 36 hS3a ?_
      (try simp only [Act.put, sA, sB, sC])
      refine t3 14 37 hS3a ?_
      (try simp only [Act.put, sA, sB, sC])
      refine t3 15 38 hS3a ?_
      (try simp only [Act.put, sA, sB, sC])
      refine t1 16 39 (.bool false) hS3a ?_
      (try simp only [Act.put, sA, sB, sC])
      refine t1 17 40 (.bool false) hS3a ?_
      (try simp only [Act.put, sA, sB, sC])
      refine t3 18 41 hS3a ?_
      (try simp only [Act.put, sA, sB, sC])
      refine t3 19 42 hS3a ?_
      (try simp only [Act.put, sA, sB, sC])
      refine t3 20 43 hS3a ?_
      (try simp only [Act.put, sA, sB, sC])
      refine t1 21 44 (.bool false) hS3a ?_
      (try simp only [Act.put, sA, sB, sC])
      refine t1 22 45 (.bool false) hS3a ?_
      (try simp only [Act.put, sA, sB, sC])
      refine t3 23 46 hS3a ?_
      (try simp only [Act.put, sA, sB, sC])
      refine t3 24 47 hS3a ?_
      (try simp only [Act.put, sA, sB, sC])
      refine t1 25 48 (.bool false) hS3a ?_
      (try simp only [Act.put, sA, sB, sC])
      refine t1 26 4 (.bool false) hS3a ?_
      (try simp only [Act.put, sA, sB, sC])
      refine wpL_done (by kernel_rfl) ?_ _
      go_wp2
      go_ret
      exact RuP.no hB3a.kp
  | false =>
    rw [if_neg (by simp)]
    have hS0 : Sb W w b g cs at_ op n k _ := ⟨_, _, hB0⟩
    have HB0 := Lib.hid hB0
    go_enter Try.func42, Try.ntmps42
    go_wp2
    refine wp_region_L (S := Sb W w b g cs at_ op n k) (Z := []) (by kernel_rfl) ?_
    refine t1 0 9 (.pointer (some ⟨w.heap.size, 1, none⟩)) hS0 ?_
    (try simp only [Act.put, sA, sB, sC])
    refine t2 1 10 (.int .i64 n) (fun w' hw' => ?_) hS0 ?_
    · have hc0 := hw'.c 1 rfl; clear hw'; go_simp
    (try simp only [Act.put, sA, sB, sC])
    refine t1 2 11 (.pointer (some ⟨w.heap.size, 2, none⟩)) hS0 ?_
    (try simp only [Act.put, sA, sB, sC])
    refine t2 3 12 (.int .i64 k) (fun w' hw' => ?_) hS0 ?_
    · have hc0 := hw'.c 2 rfl; clear hw'; go_simp
    (try simp only [Act.put, sA, sB, sC])
    refine t1 4 13 (.pointer (some ⟨w.heap.size, 2, none⟩)) hS0 ?_
    (try simp only [Act.put, sA, sB, sC])
    refine t2 5 14 (.int .i64 k) (fun w' hw' => ?_) hS0 ?_
    · have hc0 := hw'.c 2 rfl; clear hw'; go_simp
    (try simp only [Act.put, sA, sB, sC])
    refine t1 7 16 (.pointer (some ⟨w.heap.size, 2, none⟩)) hS0 ?_
    (try simp only [Act.put, sA, sB, sC])
    refine t2 8 17 (.int .i64 k) (fun w' hw' => ?_) hS0 ?_
    · have hc0 := hw'.c 2 rfl; clear hw'; go_simp
    (try simp only [Act.put, sA, sB, sC])
    refine wpL_call (i := 6) (d := 15) (R := fun v w' => v = .int .i64 0 ∧ Bx W w b g cs at_ op n k (some l) qs w') (by kernel_rfl) rfl rfl (by kernel_rfl) (by kernel_rfl) ((hB0.zero k).mono fun e w' he => ⟨_, he.1, rfl, he.2⟩) (fun v w' hR => ⟨_, _, hR.2⟩) (fun v w' hR => ?_)
    obtain ⟨rfl, hB0a⟩ := hR
    have hS0a : Sb W w b g cs at_ op n k w' := ⟨_, _, hB0a⟩
    (try simp only [Act.put, sA, sB, sC])
    refine wpL_call (i := 9) (d := 18) (R := fun v w' => v = .int .i64 0 ∧ Bx W w b g cs at_ op n k (some l) qs w') (by kernel_rfl) rfl rfl (by kernel_rfl) (by kernel_rfl) ((hB0a.zero k).mono fun e w' he => ⟨_, he.1, rfl, he.2⟩) (fun v w' hR => ⟨_, _, hR.2⟩) (fun v w' hR => ?_)
    obtain ⟨rfl, hB1a⟩ := hR
    have hS1a : Sb W w b g cs at_ op n k w' := ⟨_, _, hB1a⟩
    (try simp only [Act.put, sA, sB, sC])
    refine wpL_call (i := 10) (d := 19) (R := fun v w' => v = .tuple #[.int .i64 (Bv.binN n k 0 0), .int .i64 (Bv.binK n k 0 0), .bool false] ∧ Bx W w b g cs at_ op n k (some l) qs w') (by kernel_rfl) rfl rfl (by kernel_rfl) (by kernel_rfl) ((hB1a.bin hq n k hu).mono fun e w' he => ⟨_, he.1, rfl, he.2⟩) (fun v w' hR => ⟨_, _, hR.2⟩) (fun v w' hR => ?_)
    obtain ⟨rfl, hB2a⟩ := hR
    have hS2a : Sb W w b g cs at_ op n k w' := ⟨_, _, hB2a⟩
    (try simp only [Act.put, sA, sB, sC])
    refine t1 11 8 (.tuple #[.int .i64 (Bv.binN n k 0 0), .int .i64 (Bv.binK n k 0 0), .bool false]) hS2a ?_
    (try simp only [Act.put, sA, sB, sC])
    refine t1 12 20 (.int .i64 (Bv.binN n k 0 0)) hS2a ?_
    (try simp only [Act.put, sA, sB, sC])
    refine t1 13 21 (.int .i64 (Bv.binK n k 0 0)) hS2a ?_
    (try simp only [Act.put, sA, sB, sC])
    refine t1 14 22 (.bool false) hS2a ?_
    (try simp only [Act.put, sA, sB, sC])
    refine t1 15 5 (.int .i64 (Bv.binN n k 0 0)) hS2a ?_
    (try simp only [Act.put, sA, sB, sC])
    refine t1 16 6 (.int .i64 (Bv.binK n k 0 0)) hS2a ?_
    (try simp only [Act.put, sA, sB, sC])
    refine t1 17 7 (.bool false) hS2a ?_
    (try simp only [Act.put, sA, sB, sC])
    refine wpL_done (by kernel_rfl) ?_ _
    have hBm := hB2a.drew
    have hSm : Sb W w b g cs at_ op n k _ := ⟨_, _, hBm⟩
    go_wp2
    refine wp_region_L (S := Sb W w b g cs at_ op n k) (Z := []) (by kernel_rfl) ?_
    refine t1 0 23 (.bool false) hSm ?_
    (try simp only [Act.put, sA, sB, sC])
    refine t1 1 24 (.bool false) hSm ?_
    (try simp only [Act.put, sA, sB, sC])
    refine t3 2 25 hSm ?_
    (try simp only [Act.put, sA, sB, sC])
    refine t3 3 26 hSm ?_
    (try simp only [Act.put, sA, sB, sC])
    refine t3 4 27 hSm ?_
    (try simp only [Act.put, sA, sB, sC])
    refine t3 5 28 hSm ?_
    (try simp only [Act.put, sA, sB, sC])
    refine t3 6 29 hSm ?_
    (try simp only [Act.put, sA, sB, sC])
    refine t3 7 30 hSm ?_
    (try simp only [Act.put, sA, sB, sC])
    refine t1 8 31 (.bool false) hSm ?_
    (try simp only [Act.put, sA, sB, sC])
    refine t1 9 32 (.bool false) hSm ?_
    (try simp only [Act.put, sA, sB, sC])
    refine t3 10 33 hSm ?_
    (try simp only [Act.put, sA, sB, sC])
    refine t3 11 34 hSm ?_
    (try simp only [Act.put, sA, sB, sC])
    refine t3 12 35 hSm ?_
    (try simp only [Act.put, sA, sB, sC])
    refine t3 13 36 hSm ?_
    (try simp only [Act.put, sA, sB, sC])
    refine t3 14 37 hSm ?_
    (try simp only [Act.put, sA, sB, sC])
    refine t3 15 38 hSm ?_
    (try simp only [Act.put, sA, sB, sC])
    refine t1 16 39 (.bool false) hSm ?_
    (try simp only [Act.put, sA, sB, sC])
    refine t1 17 40 (.bool false) hSm ?_
    (try simp only [Act.put, sA, sB, sC])
    refine t3 18 41 hSm ?_
    (try simp only [Act.put, sA, sB, sC])
    refine t3 19 42 hSm ?_
    (try simp only [Act.put, sA, sB, sC])
    refine t3 20 43 hSm ?_
    (try simp only [Act.put, sA, sB, sC])
    refine t1 21 44 (.bool false) hSm ?_
    (try simp only [Act.put, sA, sB, sC])
    refine t1 22 45 (.bool false) hSm ?_
    (try simp only [Act.put, sA, sB, sC])
    refine t3 23 46 hSm ?_
    (try simp only [Act.put, sA, sB, sC])
    refine t3 24 47 hSm ?_
    (try simp only [Act.put, sA, sB, sC])
    refine t1 25 48 (.bool false) hSm ?_
    (try simp only [Act.put, sA, sB, sC])
    refine t1 26 4 (.bool false) hSm ?_
    (try simp only [Act.put, sA, sB, sC])
    refine wpL_done (by kernel_rfl) ?_ _
    go_wp2
    go_ret
    exact RuP.no hBm.kp
end Go.Proofs.Ytlppifnepckpiaa
