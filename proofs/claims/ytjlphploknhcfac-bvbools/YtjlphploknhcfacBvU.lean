/- The walks of bv.Un and bv.Cast: what each call answers, whatever the arguments; of the memory that was there nothing turns. -/
import Derived.Test.YtjlphploknhcfacChecked
import Derived.Test.YtjlphploknhcfacBvS
import Derived.Laws.EntriesVeiled
namespace Go.Proofs.Ytjlphploknhcfac
open Go.RowKit

theorem settle1 (kind to x a : Int) (g : Nat) (v : Value) (w : World) (blk : Nat) (hlt : blk < w.heap.size)
    (h0 : w.cell? ⟨blk, 0, none⟩ = some (.int .i64 a))
    (hcf : ∀ args w, (callFunc g args).run Try.prog w = .ok (.enter g args) w)
    (hwork : ∀ w, Calls Try.prog g #[v] w fun e w' => e = .returned (.int .i64 x) ∧ Below w.heap.size w w') :
    Calls Try.prog 11 #[.int .i64 kind, .int .i64 to, .func (.func g) #[v] #[], .slice (some ⟨blk, 0, none⟩) 1 1] w
      fun e w' => e = .returned (.tuple #[.int .i64 (Bv.setv kind to x [a]), .bool (Bv.allv kind [a])]) ∧ Below w.heap.size w w' :=
  settle_any kind to x [a] g v w blk hlt (by
    intro j y h
    match j with
    | 0 => simp at h; subst h; exact h0
    | j + 1 => simp at h) (by simp) hcf hwork

theorem settle2 (kind to x a b : Int) (g : Nat) (v : Value) (w : World) (blk : Nat) (hlt : blk < w.heap.size)
    (h0 : w.cell? ⟨blk, 0, none⟩ = some (.int .i64 a)) (h1 : w.cell? ⟨blk, 1, none⟩ = some (.int .i64 b))
    (hcf : ∀ args w, (callFunc g args).run Try.prog w = .ok (.enter g args) w)
    (hwork : ∀ w, Calls Try.prog g #[v] w fun e w' => e = .returned (.int .i64 x) ∧ Below w.heap.size w w') :
    Calls Try.prog 11 #[.int .i64 kind, .int .i64 to, .func (.func g) #[v] #[], .slice (some ⟨blk, 0, none⟩) 2 2] w
      fun e w' => e = .returned (.tuple #[.int .i64 (Bv.setv kind to x [a, b]), .bool (Bv.allv kind [a, b])]) ∧ Below w.heap.size w w' :=
  settle_any kind to x [a, b] g v w blk hlt (by
    intro j y h
    match j with
    | 0 => simp at h; subst h; exact h0
    | 1 => simp at h; subst h; exact h1
    | j + 2 => simp at h) (by simp) hcf hwork

theorem enters_run2 (args : Array Value) (w : World) : (callFunc 12 args).run Try.prog w = .ok (.enter 12 args) w := enters Try.func12 (by kernel_rfl) rfl args w

theorem enters_runc (args : Array Value) (w : World) : (callFunc 13 args).run Try.prog w = .ok (.enter 13 args) w := enters Try.func13 (by kernel_rfl) rfl args w

theorem bel_more {w w1 w2 : World} {o p : Obj} (h1 : Below w.heap.size w w1) (h2 : Below ((w1.alloc o).alloc p).heap.size ((w1.alloc o).alloc p) w2) : Below w.heap.size w w2 :=
  (h1.trans ((bel2 w1 o p).mono h1.size)).trans (h2.mono (by have := h1.size; simp; omega))

set_option maxHeartbeats 400000 in
theorem cast_any (frm to a : Int) (w : World) :
    Calls Try.prog 6 #[.int .i64 frm, .int .i64 to, .int .i64 a] w fun e w' => e = .returned (.tuple #[.int .i64 (Bv.casN frm to a), .bool (Bv.casB frm to a)]) ∧ Below w.heap.size w w' := by
  by_cases hz : Bv.wid to = 0
  · have e : Bv.casB frm to a = false := by simp [Bv.casB, hz]
    have e' : Bv.casN frm to a = 0 := by simp [Bv.casN, e]
    rw [e, e']
    have hz' : (Bv.wid to == 0) = true := by simp [hz]
    clear e e' hz
    go_enter Try.func6, Try.ntmps6
    go_wp2_with (go_at_call 8; refine (width_any _ _).mono ?_; rintro e w' ⟨rfl, rfl⟩)
    go_ret2
    exact ⟨rfl, Below.refl _ _⟩
  · have hp : 0 < Bv.wid to := by unfold Bv.wid at hz ⊢; repeat' split; all_goals simp_all
    have e : Bv.casB frm to a = Bv.allv frm [a] := by simp [Bv.casB, hp]
    have e' : Bv.casN frm to a = Bv.setv frm to (if to = 1 then Bv.one (a != 0) else a) [a] := by simp [Bv.casN, e, Bv.setv]
    rw [e, e']
    have hz' : (Bv.wid to == 0) = false := by simp [hz]
    clear e e' hz hp
    generalize hx : (if to = 1 then Bv.one (a != 0) else a) = x
    have HX : Hid ((if to = 1 then Bv.one (a != 0) else a) = x) := hx
    clear hx
    go_enter Try.func6, Try.ntmps6
    go_wp2_with (go_at_call 8; refine (width_any _ _).mono ?_; rintro e w' ⟨rfl, rfl⟩)
    refine (settle1 frm to x a 13 _ _ _ ?_ ?_ enters_runc ?_).mono ?_
    · simp
    · simp
    · intro w; have h := runc_any to frm a w; rw [HX.out] at h; exact h
    rintro e w2 ⟨rfl, hb2⟩
    go_wp2
    go_ret2
    exact ⟨rfl, (bel1 _ _).trans (hb2.mono (by simp))⟩
end Go.Proofs.Ytjlphploknhcfac
