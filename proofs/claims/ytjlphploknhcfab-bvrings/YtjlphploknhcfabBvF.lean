/- The walks of the laws' own operations of a kind (func1.do, func2.do): the two numbers are wrapped, Bin (or the opposite) is told. -/
import Derived.Test.YtjlphploknhcfabChecked
import Derived.Test.YtjlphploknhcfabBvR
import Derived.Test.YtjlphploknhcfabBvD
namespace Go.Proofs.Ytjlphploknhcfab
open Go.RowKit

theorem step {w w1 w2 : World} (h : Below w.heap.size w w1) (h2 : Below w1.heap.size w1 w2) : Below w.heap.size w w2 := h.trans (h2.mono h.size)

theorem stepd {w w1 w2 : World} (h : Below w.heap.size w w1) (h2 : Below w1.drew.heap.size w1.drew w2) : Below w.heap.size w w2 := h.drew.trans (h2.mono h.size)

theorem step1 {w w1 w2 : World} {o : Obj} (h : Below w.heap.size w w1) (h2 : Below (w1.alloc o).heap.size (w1.alloc o) w2) : Below w.heap.size w w2 := (h.alloc h.size o).trans (h2.mono (by have := h.size; simp; omega))

theorem step1d {w w1 w2 : World} {o : Obj} (h : Below w.heap.size w w1) (h2 : Below (w1.alloc o).drew.heap.size (w1.alloc o).drew w2) : Below w.heap.size w w2 := (h.alloc h.size o).drew.trans (h2.mono (by have := h.size; simp [World.drew]; omega))

theorem step2 {w w1 w2 : World} {o p : Obj} (h : Below w.heap.size w w1) (h2 : Below ((w1.alloc o).alloc p).heap.size ((w1.alloc o).alloc p) w2) : Below w.heap.size w w2 := bel_more h h2

/-- a cell that lay there reads as it did -/
theorem keeps {w w' : World} {b : Nat} {v : Value} (h : Below w.heap.size w w') (hlt : b < w.heap.size) (hc : w.cell? ⟨b, 0, none⟩ = some v) : w'.cell? ⟨b, 0, none⟩ = some v ∧ b < w'.heap.size :=
  ⟨by rw [h.cell (p := ⟨b, 0, none⟩) hlt]; exact hc, Nat.lt_of_lt_of_le hlt h.size⟩

theorem keepsd {w w' : World} {b : Nat} {v : Value} (h : Below w.drew.heap.size w.drew w') (hlt : b < w.heap.size) (hc : w.cell? ⟨b, 0, none⟩ = some v) : w'.cell? ⟨b, 0, none⟩ = some v ∧ b < w'.heap.size :=
  keeps (w := w.drew) h hlt hc

theorem keeps1 {w w' : World} {v : Value} {t : TypeId} (h : Below (w.alloc (.cells #[v] t)).heap.size (w.alloc (.cells #[v] t)) w') : w'.cell? ⟨w.heap.size, 0, none⟩ = some v ∧ w.heap.size < w'.heap.size :=
  keeps h (by simp) (by simp)

theorem keeps1d {w w' : World} {v : Value} {t : TypeId} (h : Below (w.alloc (.cells #[v] t)).drew.heap.size (w.alloc (.cells #[v] t)).drew w') : w'.cell? ⟨w.heap.size, 0, none⟩ = some v ∧ w.heap.size < w'.heap.size :=
  keepsd h (by simp) (by simp)

/-- what func1.do tells -/
def doN (op k a b : Int) : Int := Bv.binN op k (Bv.wrp k a) (Bv.wrp k b)
def doU (k a : Int) : Int := Bv.unN 1 k (Bv.wrp k a)

set_option maxHeartbeats 400000 in
theorem do_any (op k a b : Int) (h64 : Bv.I64 b) (w : World) :
    Calls Try.prog 12 #[.agg #[.int .i64 k], .int .i64 op, .int .i64 a, .int .i64 b] w fun e w' => e = .returned (.int .i64 (doN op k a b)) ∧ Below w.heap.size w w' := by
  have HI : Hid (Bv.I64 (Bv.wrp k b)) := Bv.wrp_i64 k b h64
  clear h64
  go_enter Try.func12, Try.ntmps12
  go_wp2_with (first | (go_at_call 10; refine (rwrap_any _ _ _).mono ?_; rintro e w' ⟨rfl, hw⟩; subst hw))
  refine (bin_any _ _ _ _ HI.out _).mono ?_
  rintro e w2 ⟨rfl, hB⟩
  go_wp2
  go_ret
  exact ⟨rfl, (bel1 _ _).trans (hB.mono (by simp))⟩

set_option maxHeartbeats 400000 in
theorem dou_any (k a : Int) (w : World) :
    Calls Try.prog 16 #[.agg #[.int .i64 k], .int .i64 a] w fun e w' => e = .returned (.int .i64 (doU k a)) ∧ Below w.heap.size w w' := by
  go_enter Try.func16, Try.ntmps16
  go_wp2
  go_region_with (first | (go_at_call 10; refine (rwrap_any _ _ _).mono ?_; rintro e w' ⟨rfl, hw⟩; subst hw) | (go_at_call 11; refine (un_any _ _ _ _).mono ?_; rintro e w2 ⟨rfl, hB⟩))
  all_goals go_wp2
  all_goals go_ret
  all_goals exact ⟨rfl, ((bel1 w _).drew).trans (hB.mono (by simp [World.drew]))⟩
end Go.Proofs.Ytjlphploknhcfab
