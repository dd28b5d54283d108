/- Package code: a rule's region: the walker, and the instruction's own box. -/
import Derived.Test.YtlppifnepckpiaaCfE
namespace Go.Proofs.Ytlppifnepckpiaa
open Go.RowKit Go.Maps Go.WideMaps
open Cd (Kn)

/-- a world within a rule -/
structure Bx (W w : World) (b g : Nat) (cs : Array Value) (at_ : Nat) (op n k : Int) (s : Option (List Int)) (qs : Kn) (V : World) : Prop where
  wk : Wk W V b g cs at_ s qs
  kp : Kp [b, g] w V
  box : V.heap[w.heap.size]? = some (.cells #[.int .i64 op, .int .i64 n, .int .i64 k] 41 (0, 0))
  nb : w.heap.size ≠ b ∧ w.heap.size ≠ g
/-- .. with some stack -/
def Sb (W w : World) (b g : Nat) (cs : Array Value) (at_ : Nat) (op n k : Int) (V : World) : Prop := ∃ s qs, Bx W w b g cs at_ op n k s qs V

section
variable {W w V : World} {b g : Nat} {cs : Array Value} {at_ : Nat} {op n k : Int} {s : Option (List Int)} {qs : Kn}
theorem Bx.new (h : Wk W w b g cs at_ s qs) (hq : 0 < qs.length) : Bx W w b g cs at_ op n k s qs (w.alloc (.cells #[.int .i64 op, .int .i64 n, .int .i64 k] 41)).drew :=
  ⟨(h.on hq (World.grownBy_alloc w _ none)).drew, (Kp.of0 (World.grownBy_alloc w _ none) _).drew, heap_alloc_new w _, ⟨by have := h.bl; omega, by have := h.gl hq; omega⟩⟩
theorem Bx.c (h : Bx W w b g cs at_ op n k s qs V) (j : Nat) {v : Value} (hv : #[Value.int .i64 op, .int .i64 n, .int .i64 k][j]? = some v) : V.cell? ⟨w.heap.size, j, none⟩ = some v := by
  unfold World.cell?
  rw [h.box]
  simpa using hv
theorem Sb.c (h : Sb W w b g cs at_ op n k V) (j : Nat) {v : Value} (hv : #[Value.int .i64 op, .int .i64 n, .int .i64 k][j]? = some v) : V.cell? ⟨w.heap.size, j, none⟩ = some v := by
  obtain ⟨s, qs, h⟩ := h
  exact h.c j hv
theorem Sb.code (h : Sb W w b g cs at_ op n k V) (j : Nat) {v : Value} (hv : cs[j]? = some v) : V.cell? ⟨b, j, none⟩ = some v := by
  obtain ⟨s, qs, h⟩ := h
  exact cell_code h.wk j hv
theorem Sb.old (h : Sb W w b g cs at_ op n k V) {a : Addr} {v : Value} (hv : W.cell? a = some v) : V.cell? a = some v := by
  obtain ⟨s, qs, h⟩ := h
  exact h.wk.grown.cell hv (by simp)
/-- what is kept by what turns the walker alone -/
theorem Bx.step {V' : World} {s' : Option (List Int)} {q' : Kn} (h : Bx W w b g cs at_ op n k s qs V) (hk : Kp [b, g] V V') (hw : Wk W V' b g cs at_ s' q') : Bx W w b g cs at_ op n k s' q' V' :=
  ⟨hw, h.kp.trans hk, (hk.block _ (Array.getElem?_eq_some_iff.1 h.box).1 (by simp; exact h.nb)).trans h.box, h.nb⟩
theorem Bx.still {V' : World} (h : Bx W w b g cs at_ op n k s qs V) (hq : 0 < qs.length) (hk : V.grownBy V' none) : Bx W w b g cs at_ op n k s qs V' := h.step (Kp.of0 hk _) (h.wk.on hq hk)
theorem Bx.drew (h : Bx W w b g cs at_ op n k s qs V) : Bx W w b g cs at_ op n k s qs V.drew := ⟨h.wk.drew, h.kp.drew, h.box, h.nb⟩
theorem below_grown {w w' : World} (h : Below w.heap.size w w') : w.grownBy w' none := ⟨h.os, h.tape, h.output, h.size, fun k hk _ => h.block k hk⟩
end
section
variable {W w : World} {b g : Nat} {cs : Array Value} {at_ : Nat} {op n k : Int} {c : Cd.Code} {qs : Kn}
theorem Bx.put_yes (hc : Co cs c) {l : List Int} {x : Int} (hx : 1 ≤ x ∧ x ≤ 9) (hl : l.length < 64) (hlt : (l.length : Int) < c.stack) {V : World} (h : Bx W w b g cs at_ op n k (some l) qs V) :
    Calls Try.prog 52 #[.pointer (some ⟨b, 0, none⟩), .int .i64 x] V fun e w' => e = .returned (.bool true) ∧ Bx W w b g cs at_ op n k (some (x :: l)) qs w' :=
  (wput_yes W b g cs at_ c hc l qs x hx hl hlt V h.wk).mono fun _ _ H => ⟨H.1, h.step H.2.2 H.2.1⟩
theorem Bx.put_no (hc : Co cs c) (hq : 0 < qs.length) {l : List Int} {x : Int} (hl : l.length ≤ 64) (hno : c.stack ≤ l.length) {V : World} (h : Bx W w b g cs at_ op n k (some l) qs V) :
    Calls Try.prog 52 #[.pointer (some ⟨b, 0, none⟩), .int .i64 x] V fun e w' => e = .returned (.bool false) ∧ Bx W w b g cs at_ op n k (some l) qs w' :=
  (wput_no W b g cs at_ c hc l qs x hl hno V h.wk).mono fun _ _ H => ⟨H.1, h.still hq H.2⟩
theorem Bx.take_yes {r : List Int} {x : Int} (hx : 1 ≤ x ∧ x ≤ 9) (hl : r.length < 64) {V : World} (h : Bx W w b g cs at_ op n k (some (x :: r)) qs V) :
    Calls Try.prog 55 #[.pointer (some ⟨b, 8, none⟩), .int .i64 x] V fun e w' => e = .returned (.bool true) ∧ Bx W w b g cs at_ op n k (some r) qs w' :=
  (take_some W b g cs at_ r qs x hl hx V h.wk).mono fun _ _ H => ⟨H.1, h.step H.2.2 H.2.1⟩
theorem Bx.take_no (hq : 0 < qs.length) {l : List Int} {x : Int} (hl : l.length ≤ 64) (hall : ∀ x ∈ l, 1 ≤ x ∧ x ≤ 9) (hno : l.head? ≠ some x) {V : World} (h : Bx W w b g cs at_ op n k (some l) qs V) :
    Calls Try.prog 55 #[.pointer (some ⟨b, 8, none⟩), .int .i64 x] V fun e w' => e = .returned (.bool false) ∧ Bx W w b g cs at_ op n k (some l) qs w' :=
  (take_none W b g cs at_ l qs x hl hall hno V h.wk).mono fun _ _ H => ⟨H.1, h.still hq H.2⟩
theorem Bx.slot (hc : Co cs c) {s : Option (List Int)} (x : Int) {r : Bool} (hr : decide (0 ≤ x ∧ x < c.kinds.length) = r) {V : World} (h : Bx W w b g cs at_ op n k s qs V) :
    Calls Try.prog 54 #[.pointer (some ⟨b, 0, none⟩), .int .i64 x] V fun e w' => e = .returned (.bool r) ∧ Bx W w b g cs at_ op n k s qs w' :=
  (isSlot_any W b g cs at_ c hc s qs x V h.wk).mono fun _ _ H => ⟨by rw [H.1, hr], by rw [H.2]; exact h⟩
theorem Bx.next (ha : at_ < qs.length) (hls : ∀ l, some l ∈ qs → l.length ≤ 64) (hq : qs.length ≤ 60000) {m : List Int} (hm : m.length ≤ 64) {V : World} (h : Bx W w b g cs at_ op n k (some m) qs V) :
    Calls Try.prog 53 #[.pointer (some ⟨b, 0, none⟩)] V fun e w' => e = .returned (.bool (Cd.lead m at_ 0 qs).isSome) ∧ ∃ q', Bx W w b g cs at_ op n k (some m) q' w' ∧ ∀ q, Cd.lead m at_ 0 qs = some q → q' = q :=
  (next_any W b g cs at_ m qs hm hls hq ha V h.wk).mono fun _ _ H => by
    obtain ⟨h1, h2, q', -, h3, h4⟩ := H
    exact ⟨h1, q', h.step h2 h3, h4⟩
theorem Bx.ru {m : List Int} {w' : World} (h : ∃ q', Bx W w b g cs at_ op n k (some m) q' w' ∧ ∀ q, Cd.lead m at_ 0 qs = some q → q' = q) : RuP W w b g cs at_ (Cd.lead m at_ 0 qs) (.returned (.bool (Cd.lead m at_ 0 qs).isSome)) w' := by
  obtain ⟨q', h1, h2⟩ := h
  exact ⟨rfl, h1.kp, fun q hq => ⟨some m, by rw [← h2 q hq]; exact h1.wk⟩⟩
theorem zero_any (x : Int) (w : World) : Calls Try.prog 56 #[.int .i64 x] w fun e w' => e = .returned (.int .i64 0) ∧ w' = w := by
  go_enter Try.func56, Try.ntmps56
  go_wp2
  go_ret
  exact ⟨rfl, rfl⟩
theorem isKind_any (x : Int) (w : World) : Calls Try.prog 37 #[.int .i64 x] w fun e w' => e = .returned (.bool (decide (0 < Bv.wid x))) ∧ w' = w := by
  have hw := fun V => width_any x V
  go_enter Try.func37, Try.ntmps37
  go_wp2_with (go_at_call 26; refine (hw _).mono ?_; rintro e w' ⟨rfl, hw'⟩; obtain rfl := hw'.symm)
  go_ret
  exact ⟨rfl, rfl⟩
theorem Bx.zero {s : Option (List Int)} (x : Int) {V : World} (h : Bx W w b g cs at_ op n k s qs V) :
    Calls Try.prog 56 #[.int .i64 x] V fun e w' => e = .returned (.int .i64 0) ∧ Bx W w b g cs at_ op n k s qs w' := (zero_any x V).mono fun _ _ H => ⟨H.1, by rw [H.2]; exact h⟩
theorem Bx.kind {s : Option (List Int)} (x : Int) {r : Bool} (hr : decide (0 < Bv.wid x) = r) {V : World} (h : Bx W w b g cs at_ op n k s qs V) :
    Calls Try.prog 37 #[.int .i64 x] V fun e w' => e = .returned (.bool r) ∧ Bx W w b g cs at_ op n k s qs w' := (isKind_any x V).mono fun _ _ H => ⟨by rw [H.1, hr], by rw [H.2]; exact h⟩
theorem Bx.un (hq : 0 < qs.length) {s : Option (List Int)} (o x a : Int) {r : Bool} (hr : Bv.unB o x a = r) {V : World} (h : Bx W w b g cs at_ op n k s qs V) :
    Calls Try.prog 49 #[.int .i64 o, .int .i64 x, .int .i64 a] V fun e w' => e = .returned (.tuple #[.int .i64 (Bv.unN o x a), .bool r]) ∧ Bx W w b g cs at_ op n k s qs w' := (un_any o x a V).mono fun _ _ H => ⟨by rw [H.1, hr], h.still hq (below_grown H.2)⟩
theorem Bx.bin (hq : 0 < qs.length) {s : Option (List Int)} (o x : Int) {r : Bool} (hr : Bv.binB o x 0 0 = r) {V : World} (h : Bx W w b g cs at_ op n k s qs V) :
    Calls Try.prog 50 #[.int .i64 o, .int .i64 x, .int .i64 0, .int .i64 0] V fun e w' => e = .returned (.tuple #[.int .i64 (Bv.binN o x 0 0), .int .i64 (Bv.binK o x 0 0), .bool r]) ∧ Bx W w b g cs at_ op n k s qs w' := (bin_any o x 0 0 (by unfold Bv.I64; omega) V).mono fun _ _ H => ⟨by rw [H.1, hr], h.still hq (below_grown H.2)⟩
end
end Go.Proofs.Ytlppifnepckpiaa
