/- Package code: the rules cast (written by mkcf.py). -/
import Derived.Test.YtlppifnepckpiaaCfF
namespace Go.Proofs.Ytlppifnepckpiaa
open Go.RowKit Go.Maps Go.WideMaps
open Cd (Kn)

set_option maxHeartbeats 2000000 in
set_option maxRecDepth 100000 in
theorem kcast_any (W : World) (b g : Nat) (cs : Array Value) (at_ : Nat) (c : Cd.Code) (l : List Int) (qs : Kn) (op n k : Int) (w : World) (h : At W w b g cs at_ c l qs) :
    Calls Try.prog 43 #[.pointer (some ⟨b, 0, none⟩), .agg #[.int .i64 op, .int .i64 n, .int .i64 k]] w (RuP W w b g cs at_ (if 0 < Bv.wid k then Cd.onTop l n (fun r => Cd.lead (k :: r) at_ 0 qs) else none)) := by
  have ha := h.ha
  have hls := h.sks
  have hq6 := h.q6
  have hco := h.co
  have hl64 := h.l64
  have hsk := h.sk
  have hs64 := h.s64
  have hq : 0 < qs.length := by omega
  have hB0 : Bx W w b g cs at_ op n k (some l) qs _ := Bx.new h.wk hq
  clear h
  by_cases hw : 0 < Bv.wid k
  · rw [if_pos hw]
    have hwk : decide (0 < Bv.wid k) = true := by simpa using hw
    have hk9 := Cd.wid_k hw
    rcases Cd.top_or l n with ⟨r, rfl⟩ | hno
    · rw [Cd.onTop_yes]
      have hl : r.length < 64 := hl64
      have hn9 := hsk.2 n (by simp)
      have hs : (r.length : Int) < c.stack := by have := hsk.1; simp only [List.length_cons] at this; omega
      have hS0 : Sb W w b g cs at_ op n k _ := ⟨_, _, hB0⟩
      have HB0 := Lib.hid hB0
      go_enter Try.func43, Try.ntmps43
      go_wp2
      refine wp_region_L (S := Sb W w b g cs at_ op n k) (Z := []) (by kernel_rfl) ?_
      refine t1 0 5 (.pointer (some ⟨w.heap.size, 2, none⟩)) hS0 ?_
      (try simp only [Act.put, sA, sB, sC])
      refine t2 1 6 (.int .i64 k) (fun w' hw' => ?_) hS0 ?_
      · have hc0 := hw'.c 2 rfl; clear hw'; go_simp
      (try simp only [Act.put, sA, sB, sC])
      refine wpL_call (i := 2) (d := 7) (R := fun v w' => v = .bool true ∧ Bx W w b g cs at_ op n k (some (n :: r)) qs w') (by kernel_rfl) rfl rfl (by kernel_rfl) (by kernel_rfl) ((hB0.kind k hwk).mono fun e w' he => ⟨_, he.1, rfl, he.2⟩) (fun v w' hR => ⟨_, _, hR.2⟩) (fun v w' hR => ?_)
      obtain ⟨rfl, hB0a⟩ := hR
      have hS0a : Sb W w b g cs at_ op n k w' := ⟨_, _, hB0a⟩
      (try simp only [Act.put, sA, sB, sC])
      refine t1 3 8 (.bool true) hS0a ?_
      (try simp only [Act.put, sA, sB, sC])
      refine t1 4 9 (.pointer (some ⟨b, 0, none⟩)) hS0a ?_
      (try simp only [Act.put, sA, sB, sC])
      refine t1 5 10 (.pointer (some ⟨b, 0, none⟩)) hS0a ?_
      (try simp only [Act.put, sA, sB, sC])
      refine t1 6 11 (.pointer (some ⟨b, 8, none⟩)) hS0a ?_
      (try simp only [Act.put, sA, sB, sC])
      refine t1 7 12 (.pointer (some ⟨w.heap.size, 1, none⟩)) hS0a ?_
      (try simp only [Act.put, sA, sB, sC])
      refine t2 8 13 (.int .i64 n) (fun w' hw' => ?_) hS0a ?_
      · have hc0 := hw'.c 1 rfl; clear hw'; go_simp
      (try simp only [Act.put, sA, sB, sC])
      refine wpL_call (i := 9) (d := 14) (R := fun v w' => v = .bool true ∧ Bx W w b g cs at_ op n k (some r) qs w') (by kernel_rfl) rfl rfl (by kernel_rfl) (by kernel_rfl) ((hB0a.take_yes hn9 hl).mono fun e w' he => ⟨_, he.1, rfl, he.2⟩) (fun v w' hR => ⟨_, _, hR.2⟩) (fun v w' hR => ?_)
      obtain ⟨rfl, hB1a⟩ := hR
      have hS1a : Sb W w b g cs at_ op n k w' := ⟨_, _, hB1a⟩
      (try simp only [Act.put, sA, sB, sC])
      refine t1 10 15 (.bool true) hS1a ?_
      (try simp only [Act.put, sA, sB, sC])
      refine t1 11 16 (.bool true) hS1a ?_
      (try simp only [Act.put, sA, sB, sC])
      refine t1 12 17 (.pointer (some ⟨b, 0, none⟩)) hS1a ?_
      (try simp only [Act.put, sA, sB, sC])
      refine t1 13 18 (.pointer (some ⟨w.heap.size, 2, none⟩)) hS1a ?_
      (try simp only [Act.put, sA, sB, sC])
      refine t2 14 19 (.int .i64 k) (fun w' hw' => ?_) hS1a ?_
      · have hc0 := hw'.c 2 rfl; clear hw'; go_simp
      (try simp only [Act.put, sA, sB, sC])
      refine wpL_call (i := 15) (d := 20) (R := fun v w' => v = .bool true ∧ Bx W w b g cs at_ op n k (some (k :: r)) qs w') (by kernel_rfl) rfl rfl (by kernel_rfl) (by kernel_rfl) ((hB1a.put_yes hco hk9 hl hs).mono fun e w' he => ⟨_, he.1, rfl, he.2⟩) (fun v w' hR => ⟨_, _, hR.2⟩) (fun v w' hR => ?_)
      obtain ⟨rfl, hB2a⟩ := hR
      have hS2a : Sb W w b g cs at_ op n k w' := ⟨_, _, hB2a⟩
      (try simp only [Act.put, sA, sB, sC])
      refine t1 16 21 (.bool true) hS2a ?_
      (try simp only [Act.put, sA, sB, sC])
      refine t1 17 22 (.bool true) hS2a ?_
      (try simp only [Act.put, sA, sB, sC])
      refine t1 18 23 (.pointer (some ⟨b, 0, none⟩)) hS2a ?_
      (try simp only [Act.put, sA, sB, sC])
      refine wpL_call (i := 19) (d := 24) (R := fun v w' => v = .bool (Cd.lead (k :: r) at_ 0 qs).isSome ∧ ∃ q', Bx W w b g cs at_ op n k (some (k :: r)) q' w' ∧ ∀ q, Cd.lead (k :: r) at_ 0 qs = some q → q' = q) (by kernel_rfl) rfl rfl (by kernel_rfl) (by kernel_rfl) ((hB2a.next ha hls hq6 (by (try simp only [List.length_cons]); omega)).mono fun e w' he => ⟨_, he.1, rfl, he.2⟩) (fun v w' hR => let ⟨q', h, _⟩ := hR.2; ⟨_, q', h⟩) (fun v w' hR => ?_)
      obtain ⟨rfl, hB3a⟩ := hR
      have hS3a : Sb W w b g cs at_ op n k w' := let ⟨q', h, _⟩ := hB3a; ⟨_, q', h⟩
      (try simp only [Act.put, sA, sB, sC])
      refine t1 20 25 (.bool (Cd.lead (k :: r) at_ 0 qs).isSome) hS3a ?_
      (try simp only [Act.put, sA, sB, sC])
      refine t1 21 4 (.bool (Cd.lead (k :: r) at_ 0 qs).isSome) hS3a ?_
      (try simp only [Act.put, sA, sB, sC])
      refine wpL_done (by kernel_rfl) ?_ _
      go_wp2
      go_ret
      exact Bx.ru hB3a
    · rw [Cd.onTop_no hno]
      have hS0 : Sb W w b g cs at_ op n k _ := ⟨_, _, hB0⟩
      have HB0 := Lib.hid hB0
      go_enter Try.func43, Try.ntmps43
      go_wp2
      refine wp_region_L (S := Sb W w b g cs at_ op n k) (Z := []) (by kernel_rfl) ?_
      refine t1 0 5 (.pointer (some ⟨w.heap.size, 2, none⟩)) hS0 ?_
      (try simp only [Act.put, sA, sB, sC])
      refine t2 1 6 (.int .i64 k) (fun w' hw' => ?_) hS0 ?_
      · have hc0 := hw'.c 2 rfl; clear hw'; go_simp
      (try simp only [Act.put, sA, sB, sC])
      refine wpL_call (i := 2) (d := 7) (R := fun v w' => v = .bool true ∧ Bx W w b g cs at_ op n k (some l) qs w') (by kernel_rfl) rfl rfl (by kernel_rfl) (by kernel_rfl) ((hB0.kind k hwk).mono fun e w' he => ⟨_, he.1, rfl, he.2⟩) (fun v w' hR => ⟨_, _, hR.2⟩) (fun v w' hR => ?_)
      obtain ⟨rfl, hB0a⟩ := hR
      have hS0a : Sb W w b g cs at_ op n k w' := ⟨_, _, hB0a⟩
      (try simp only [Act.put, sA, sB, sC])
      refine t1 3 8 (.bool true) hS0a ?_
      (try simp only [Act.put, sA, sB, sC])
      refine t1 4 9 (.pointer (some ⟨b, 0, none⟩)) hS0a ?_
      (try simp only [Act.put, sA, sB, sC])
      refine t1 5 10 (.pointer (some ⟨b, 0, none⟩)) hS0a ?_
      (try simp only [Act.put, sA, sB, sC])
      refine t1 6 11 (.pointer (some ⟨b, 8, none⟩)) hS0a ?_
      (try simp only [Act.put, sA, sB, sC])
      refine t1 7 12 (.pointer (some ⟨w.heap.size, 1, none⟩)) hS0a ?_
      (try simp only [Act.put, sA, sB, sC])
      refine t2 8 13 (.int .i64 n) (fun w' hw' => ?_) hS0a ?_
      · have hc0 := hw'.c 1 rfl; clear hw'; go_simp
      (try simp only [Act.put, sA, sB, sC])
      refine wpL_call (i := 9) (d := 14) (R := fun v w' => v = .bool false ∧ Bx W w b g cs at_ op n k (some l) qs w') (by kernel_rfl) rfl rfl (by kernel_rfl) (by kernel_rfl) ((hB0a.take_no (x := n) hq hl64 hsk.2 hno).mono fun e w' he => ⟨_, he.1, rfl, he.2⟩) (fun v w' hR => ⟨_, _, hR.2⟩) (fun v w' hR => ?_)
      obtain ⟨rfl, hB1a⟩ := hR
      have hS1a : Sb W w b g cs at_ op n k w' := ⟨_, _, hB1a⟩
      (try simp only [Act.put, sA, sB, sC])
      refine t1 10 15 (.bool false) hS1a ?_
      (try simp only [Act.put, sA, sB, sC])
      refine t1 11 16 (.bool false) hS1a ?_
      (try simp only [Act.put, sA, sB, sC])
      refine t3 12 17 hS1a ?_
      (try simp only [Act.put, sA, sB, sC])
      refine t3 13 18 hS1a ?_
      (try simp only [Act.put, sA, sB, sC])
      refine t3 14 19 hS1a ?_
      (try simp only [Act.put, sA, sB, sC])
      refine t3 15 20 hS1a ?_
      (try simp only [Act.put, sA, sB, sC])
      refine t1 16 21 (.bool false) hS1a ?_
      (try simp only [Act.put, sA, sB, sC])
      refine t1 17 22 (.bool false) hS1a ?_
      (try simp only [Act.put, sA, sB, sC])
      refine t3 18 23 hS1a ?_
      (try simp only [Act.put, sA, sB, sC])
      refine t3 19 24 hS1a ?_
      (try simp only [Act.put, sA, sB, sC])
      refine t1 20 25 (.bool false) hS1a ?_
      (try simp only [Act.put, sA, sB, sC])
      refine t1 21 4 (.bool false) hS1a ?_
      (try simp only [Act.put, sA, sB, sC])
      refine wpL_done (by kernel_rfl) ?_ _
      go_wp2
      go_ret
      exact RuP.no hB1a.kp
  · rw [if_neg hw]
    have hwk : decide (0 < Bv.wid k) = false := by simpa using hw
    have hS0 : Sb W w b g cs at_ op n k _ := ⟨_, _, hB0⟩
    have HB0 := Lib.hid hB0
    go_enter Try.func43, Try.ntmps43
    go_wp2
    refine wp_region_L (S := Sb W w b g cs at_ op n k) (Z := []) (by kernel_rfl) ?_
    refine t1 0 5 (.pointer (some ⟨w.heap.size, 2, none⟩)) hS0 ?_
    (try simp only [Act.put, sA, sB, sC])
    refine t2 1 6 (.int .i64 k) (fun w' hw' => ?_) hS0 ?_
    · have hc0 := hw'.c 2 rfl; clear hw'; go_simp
    (try simp only [Act.put, sA, sB, sC])
    refine wpL_call (i := 2) (d := 7) (R := fun v w' => v = .bool false ∧ Bx W w b g cs at_ op n k (some l) qs w') (by kernel_rfl) rfl rfl (by kernel_rfl) (by kernel_rfl) ((hB0.kind k hwk).mono fun e w' he => ⟨_, he.1, rfl, he.2⟩) (fun v w' hR => ⟨_, _, hR.2⟩) (fun v w' hR => ?_)
    obtain ⟨rfl, hB0a⟩ := hR
    have hS0a : Sb W w b g cs at_ op n k w' := ⟨_, _, hB0a⟩
    (try simp only [Act.put, sA, sB, sC])
    refine t1 3 8 (.bool false) hS0a ?_
    (try simp only [Act.put, sA, sB, sC])
    refine t3 4 9 hS0a ?_
    (try simp only [Act.put, sA, sB, sC])
    refine t3 5 10 hS0a ?_
    (try simp only [Act.put, sA, sB, sC])
    refine t3 6 11 hS0a ?_
    (try simp only [Act.put, sA, sB, sC])
    refine t3 7 12 hS0a ?_
    (try simp only [Act.put, sA, sB, sC])
    refine t3 8 13 hS0a ?_
    (try simp only [Act.put, sA, sB, sC])
    refine t3 9 14 hS0a ?_
    (try simp only [Act.put, sA, sB, sC])
    refine t1 10 15 (.bool false) hS0a ?_
    (try simp only [Act.put, sA, sB, sC])
    refine t1 11 16 (.bool false) hS0a ?_
    (try simp only [Act.put, sA, sB, sC])
    refine t3 12 17 hS0a ?_
    (try simp only [Act.put, sA, sB, sC])
    refine t3 13 18 hS0a ?_
    (try simp only [Act.put, sA, sB, sC])
    refine t3 14 19 hS0a ?_
    (try simp only [Act.put, sA, sB, sC])
    refine t3 15 20 hS0a ?_
    (try simp only [Act.put, sA, sB, sC])
    refine t1 16 21 (.bool false) hS0a ?_
    (try simp only [Act.put, sA, sB, sC])
    refine t1 17 22 (.bool false) hS0a ?_
    (try simp only [Act.put, sA, sB, sC])
    refine t3 18 23 hS0a ?_
    (try simp only [Act.put, sA, sB, sC])
    refine t3 19 24 hS0a ?_
    (try simp only [Act.put, sA, sB, sC])
    refine t1 20 25 (.bool false) hS0a ?_
    (try simp only [Act.put, sA, sB, sC])
    refine t1 21 4 (.bool false) hS0a ?_
    (try simp only [Act.put, sA, sB, sC])
    refine wpL_done (by kernel_rfl) ?_ _
    go_wp2
    go_ret
    exact RuP.no hB0a.kp
end Go.Proofs.Ytlppifnepckpiaa
