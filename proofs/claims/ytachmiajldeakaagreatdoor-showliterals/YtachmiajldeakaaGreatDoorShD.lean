/- show's printer: the blanks ahead of a line, lines, variables. -/
import Derived.Test.YtachmiajldeakaaGreatDoorShB
namespace Go.Proofs.YtachmiajldeakaaGreatDoor
open Go.RowKit

set_option maxRecDepth 100000 in
theorem repeat0 (s : ByteArray) (w : World) : Calls Tryz.prog 128 #[.string s, .int .i64 0] w fun e w' => e = .returned (.string ⟨#[]⟩) ∧ w' = w := by
  go_enter Tryz.func128, Tryz.ntmps128
  go_wp2
  go_ret
  exact ⟨rfl, rfl⟩
set_option maxRecDepth 100000 in
theorem repeat1 (s : ByteArray) (w : World) : Calls Tryz.prog 128 #[.string s, .int .i64 1] w fun e w' => e = .returned (.string s) ∧ w' = w := by
  go_enter Tryz.func128, Tryz.ntmps128
  go_wp2
  go_ret
  exact ⟨rfl, rfl⟩

set_option maxHeartbeats 1000000 in
theorem blanks0 (B b : Nat) (l : List UInt8) (w : World) (h : Pr B b l w) (hBw : B ≤ w.heap.size) (hlen : l.length ≤ 100000) :
    Calls Tryz.prog 83 #[.pointer (some ⟨b, 0, none⟩), .int .i64 0] w fun e w' => e = .returned (.tuple #[]) ∧ Pr B b l w' ∧ Kb B b w w' := by
  have hr := fun s wx => repeat0 s wx
  have hp := put_any B b l [⟨#[]⟩] w.heap.size 1 _ (h.alloc (.cells #[.string ⟨#[]⟩] 9)) (by simp; omega) (Tx.new w [⟨#[]⟩]) (by simp) (by simp [tx]; omega)
  rw [show l ++ tx [⟨#[]⟩] = l by simp [tx]] at hp
  go_enter Tryz.func83, Tryz.ntmps83
  go_wp2_with (first
    | (go_at_call 128; refine (hr _ _).mono ?_; rintro e w' ⟨rfl, hw⟩; obtain rfl := hw.symm)
    | (go_at_call 27; refine hp.mono ?_; rintro e w' ⟨rfl, h1, h2⟩))
  go_end0
  exact ⟨rfl, h1, ((Kb.refl B b w).alloc hBw _).trans h2⟩
set_option maxHeartbeats 1000000 in
theorem blanks1 (B b : Nat) (l : List UInt8) (w : World) (h : Pr B b l w) (hBw : B ≤ w.heap.size) (hlen : l.length ≤ 100000) :
    Calls Tryz.prog 83 #[.pointer (some ⟨b, 0, none⟩), .int .i64 1] w fun e w' => e = .returned (.tuple #[]) ∧ Pr B b (l ++ [32]) w' ∧ Kb B b w w' := by
  have hr := fun s wx => repeat1 s wx
  have hp := put_any B b l [⟨#[32]⟩] w.heap.size 1 _ (h.alloc (.cells #[.string ⟨#[32]⟩] 9)) (by simp; omega) (Tx.new w [⟨#[32]⟩]) (by simp) (by simp [tx]; omega)
  rw [show l ++ tx [⟨#[32]⟩] = l ++ [32] by simp [tx]] at hp
  go_enter Tryz.func83, Tryz.ntmps83
  go_wp2_with (first
    | (go_at_call 128; refine (hr _ _).mono ?_; rintro e w' ⟨rfl, hw⟩; obtain rfl := hw.symm)
    | (go_at_call 27; refine hp.mono ?_; rintro e w' ⟨rfl, h1, h2⟩))
  go_end0
  exact ⟨rfl, h1, ((Kb.refl B b w).alloc hBw _).trans h2⟩

/-- a line at the margin -/
theorem line0 (B b : Nat) (l : List UInt8) (ts : List ByteArray) (g cap : Nat) (w : World) (h : Pr B b l w) (hBw : B ≤ w.heap.size) (hg : Tx w g ts) (hn : ts.length ≤ 100) (hlen : l.length + (tx ts).length ≤ 90000) :
    Calls Tryz.prog 40 #[.pointer (some ⟨b, 0, none⟩), .int .i64 0, .slice (some ⟨g, 0, none⟩) ts.length cap] w fun e w' => e = .returned (.tuple #[]) ∧ Pr B b (l ++ tx ts ++ [10]) w' ∧ Kb B b w w' := by
  have hgb := hg.ne h
  have hb := blanks0 B b l w h hBw (by omega)
  go_enter Tryz.func40, Tryz.ntmps40
  go_wp2_with (go_at_call 83; refine hb.mono ?_; rintro e w1 ⟨rfl, h1, k1⟩; refine Hid.out ?_)
  have hp := put_any B b l ts g cap w1 h1 (by have := k1.below.size; omega) (hg.kept k1 hgb) hn (by omega)
  refine Lib.hid ?_
  go_wp2_with (go_at_call 27; refine hp.mono ?_; rintro e w2 ⟨rfl, h2, k2⟩; refine Hid.out ?_)
  have hp2 := put_any B b (l ++ tx ts) [⟨#[10]⟩] w2.heap.size 1 _ (h2.alloc (.cells #[.string ⟨#[10]⟩] 9)) (by have := k1.below.size; have := k2.below.size; simp; omega) (Tx.new w2 [⟨#[10]⟩]) (by simp) (by simp [tx] at hlen ⊢; omega)
  refine Lib.hid ?_
  go_wp2_with (go_at_call 27; refine hp2.mono ?_; rintro e w3 ⟨rfl, h3, k3⟩; refine Hid.out ?_)
  refine Lib.hid ?_
  go_wp2
  go_end0
  refine ⟨rfl, by simpa [tx] using h3, k1.trans (k2.trans (((Kb.refl B b w2).alloc (by have := k1.below.size; have := k2.below.size; omega) _).trans k3))⟩

end Go.Proofs.YtachmiajldeakaaGreatDoor
