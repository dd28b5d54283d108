/- cnf.Parse: the formula under way. -/
import Derived.Test.YtdhgopcfjomjaaaDoorCqJ
namespace Go.Proofs.YtdhgopcfjomjaaaDoor
open Go.RowKit Go.Maps Go.WideMaps Go.Shelf
open Go.Lib hiding intOf run_convert_string_bytes
open Cn (I64)

def ClAt3 (p : Nat → Prop) (W : World) (x : Cl) : Prop := NumsIn p W x.1 x.2.2 ∧ x.2.2.length ≤ x.2.1 ∧ x.2.2.length ≤ 2000000 ∧ ∀ y ∈ x.2.2, I64 y
theorem ClAt3.on {p : Nat → Prop} {W W' : World} {x : Cl} (h : ClAt3 p W x) (hk : ∀ k, k < W.heap.size → p k → W'.heap[k]? = W.heap[k]?) : ClAt3 p W' x := ⟨h.1.onLt hk, h.2⟩
structure OfS (w0 : World) (bf rb : Nat) (vars : Int) (A : List Nat) (xs : List Cl) (r : List UInt8) (b : Bool) (v : Value) (W : World) : Prop where
  kp : Kp [bf, rb] w0 W
  lo : bf < w0.heap.size ∧ rb < w0.heap.size ∧ bf ≠ rb
  rf : W.heap[bf]? = some (.cells #[.int .i64 vars, v] 24 (0, 0))
  rd : Rd W rb r b
  own : W.ownsRow w0.heap.size 36 1 v xs.length (clV xs)
  far : ∀ k, v.ownBlock = some k → k ∉ A
  cl : ∀ x ∈ xs, ClAt3 (fun k => w0.heap.size + 2 ≤ k ∧ v.ownBlock ≠ some k) W x
  al : ∀ k ∈ A, w0.heap.size ≤ k ∧ k < W.heap.size
def OfJ (w0 : World) (bf rb : Nat) (vars : Int) : FamS := fun A s r b W => ∃ v xs, clsOf xs = s ∧ OfS w0 bf rb vars A xs r b v W
section
variable {w0 W W' : World} {bf rb : Nat} {vars : Int} {A : List Nat} {xs : List Cl} {r r' : List UInt8} {b b' : Bool} {v : Value}
theorem OfS.turn (h : OfS w0 bf rb vars A xs r b v W) (hk : Kp [rb] W W') (hr : Rd W' rb r' b') {X : List Nat} (hX : ∀ k ∈ X, W.heap.size ≤ k ∧ k < W'.heap.size) : OfS w0 bf rb vars (X ++ A) xs r' b' v W' := by
  have hl := h.lo
  exact ⟨h.kp.trans (hk.mono (fun k hk _ => by simp at hk ⊢; exact .inr hk)), h.lo, (hk.block _ (gl h.rf) (by simp; exact hl.2.2)).trans h.rf, hr, owns_on h.own (fun k e => hk.block k (h.own.lt k e).2 (by simp; have := (h.own.lt k e).1; omega)), fun k e hk2 => by
      rcases List.mem_append.1 hk2 with h1 | h1
      · have h2 := (hX k h1).1; have h3 := (h.own.lt k e).2; omega
      · exact h.far k e h1, fun x hx => (h.cl x hx).on (fun k hk2 hp => hk.block k hk2 (by simp; omega)), fun k hk2 => by
      rcases List.mem_append.1 hk2 with h1 | h1
      · have h2 := hX k h1; have h3 := h.kp.size; omega
      · have h2 := h.al k h1; have h3 := hk.size; omega⟩
theorem OfS.drop {X : List Nat} (h : OfS w0 bf rb vars (X ++ A) xs r b v W) : OfS w0 bf rb vars A xs r b v W :=
  ⟨h.kp, h.lo, h.rf, h.rd, h.own, fun k e hk => h.far k e (List.mem_append.2 (.inr hk)), h.cl, fun k hk => h.al k (List.mem_append.2 (.inr hk))⟩
theorem OfS.loop (h : OfS w0 bf rb vars A xs r b v W) {k0 : Nat} (hk : k0 ∈ A) (h1 : k0 < w0.heap.size + 2) (hg : W.grownBy W' (some k0)) : OfS w0 bf rb vars A xs r b v W' := by
  have hlo := (h.al k0 hk).1
  have hne : ∀ k, k ≠ k0 → k < W.heap.size → W'.heap[k]? = W.heap[k]? := fun k hn hl => hg.block k hl (by simp; exact hn)
  exact ⟨⟨hg.os.trans h.kp.os, hg.tape.trans h.kp.tape, hg.output.trans h.kp.output, Nat.le_trans h.kp.size hg.size, fun k hl hx => (hne k (by omega) (Nat.lt_of_lt_of_le hl h.kp.size)).trans (h.kp.block k hl hx)⟩, h.lo, (hne bf (by have := h.lo.1; omega) (gl h.rf)).trans h.rf, (hne rb (by have := h.lo.2.1; omega) (gl h.rd)).trans h.rd, h.own.kept hg (by cases hv : v.ownBlock with | none => simp | some b => simp; exact fun e => h.far b hv (by rw [e]; exact hk)), h.far, fun x hx => (h.cl x hx).on (fun k hl hp => hne k (by omega) hl), fun k hk => by have h2 := h.al k hk; have h3 := hg.size; omega⟩
theorem OfJ.turn : (OfJ w0 bf rb vars).turn rb := fun _ _ _ _ _ _ _ _ _ ⟨v, xs, e, h⟩ hk hr hX => ⟨v, xs, e, h.turn hk hr hX⟩
theorem OfJ.drop : (OfJ w0 bf rb vars).drop := fun _ _ _ _ _ _ ⟨v, xs, e, h⟩ => ⟨v, xs, e, h.drop⟩
theorem OfJ.loop {s : List (List Int)} (h : OfJ w0 bf rb vars A s r b W) {k0 : Nat} (hk : k0 ∈ A) (h1 : k0 < w0.heap.size + 2) (hg : W.grownBy W' (some k0)) : OfJ w0 bf rb vars A s r b W' := by
  obtain ⟨v, xs, e, h⟩ := h
  exact ⟨v, xs, e, h.loop hk h1 hg⟩
/-- one clause more -/
theorem OfS.next (h : OfS w0 bf rb vars A xs r b v W) {W2 W3 W4 : World} {ca : Option Addr} {cc : Nat} {x : List Int} (hn : NumsIn (fun k => k ∈ A ∧ w0.heap.size + 2 ≤ k) W ca x) (hc : x.length ≤ cc) (h3 : x.length ≤ 2000000) (h64 : ∀ y ∈ x, I64 y)
    (hg2 : W.grownBy W2 none) {v' : Value}
    (ho3 : W3.ownsRow w0.heap.size 36 1 v' (xs.length + 1) (clV xs ++ [.slice ca x.length cc])) (hg3 : W2.grownBy W3 v.ownBlock) (hat : v'.ownBlock = v.ownBlock ∨ v'.ownBlock = some W2.heap.size)
    (hk4 : Kp [bf] W3 W4) (hr4 : W4.heap[bf]? = some (.cells #[.int .i64 vars, v'] 24 (0, 0))) :
    OfS w0 bf rb vars A (xs ++ [(ca, cc, x)]) r b v' W4 ∧ ∀ k ∈ A, W4.heap[k]? = W.heap[k]? := by
  have s2 := hg2.size
  have s3 := hg3.size
  have hl := h.lo
  have hsz := h.kp.size
  have stay : ∀ k, k < W.heap.size → k ≠ bf → v.ownBlock ≠ some k → W4.heap[k]? = W.heap[k]? := fun k hk e1 e3 =>
    (hk4.block k (by omega) (by simp; exact e1)).trans ((hg3.block k (by omega) (fun e => e3 e.symm)).trans (hg2.block k (by omega) (by simp)))
  have hob := fun k e => h.own.lt k e
  have hkeep : ∀ k ∈ A, W4.heap[k]? = W.heap[k]? := fun k hk => by
    have h1 := h.al k hk
    exact stay k h1.2 (by omega) (fun e => h.far k e hk)
  have hfar : ∀ k, v'.ownBlock = some k → k ∉ A := fun k e hk => by
    rcases hat with h1 | h1
    · exact h.far k (h1.symm.trans e) hk
    · have e2 := Option.some.inj (h1.symm.trans e)
      have := (h.al k hk).2
      omega
  have hne4 : ∀ k, v'.ownBlock = some k → k ≠ bf := fun k e => by have := (ho3.lt k e).1; omega
  refine ⟨⟨⟨hk4.os.trans (hg3.os.trans (hg2.os.trans h.kp.os)), hk4.tape.trans (hg3.tape.trans (hg2.tape.trans h.kp.tape)), hk4.output.trans (hg3.output.trans (hg2.output.trans h.kp.output)), by have := hk4.size; omega, fun k hk hx => ?_⟩, h.lo, hr4, ?_, ?_, hfar, fun z hz => ?_, fun k hk => by have := h.al k hk; have := hk4.size; omega⟩, hkeep⟩
  · simp at hx
    exact (stay k (by omega) hx.1 (fun e => by have := (hob k e).1; omega)).trans (h.kp.block k hk (by simp; exact hx))
  · exact (stay rb (gl h.rd) (fun e => hl.2.2 e.symm) (fun e => by have := (hob rb e).1; omega)).trans h.rd
  · have ho4 : W4.ownsRow w0.heap.size 36 1 v' (xs.length + 1) (clV xs ++ [.slice ca x.length cc]) := by
      refine ⟨ho3.1, ho3.2.imp id ?_⟩
      rintro ⟨g, cap, cur, rfl, h1, h2, h4⟩
      exact ⟨g, cap, cur, rfl, h1, (hk4.block g (gl h2) (by simp; exact hne4 g rfl)).trans h2, h4⟩
    rw [List.length_append, List.length_singleton]
    unfold clV at ho4 ⊢
    rw [List.map_append]
    exact ho4
  · rcases List.mem_append.1 hz with hz | hz
    · refine ⟨?_, (h.cl z hz).2⟩
      have h1 := (h.cl z hz).1
      refine (h1.onLt (w' := W4) (fun k hk hp => stay k hk (by omega) hp.2)).monoLt2 h1 (fun k hk hp => ⟨hp.1, fun e => ?_⟩)
      rcases hat with h2 | h2
      · exact hp.2 (h2.symm.trans e)
      · have := Option.some.inj (h2.symm.trans e); omega
    · simp at hz
      subst hz
      refine ⟨?_, hc, h3, h64⟩
      refine ((hn.keep (w' := W4) (fun k hk => hkeep k hk.1)).mono (fun k hk => ⟨hk.2, fun e => hfar k e hk.1⟩))
/-- the clauses of a formula, as rows -/
theorem OfS.rows {a : Option Addr} {n c : Nat} (h : OfS w0 bf rb vars A xs r b (.slice a n c) W) (hA : w0.heap.size ∈ A) : n = xs.length ∧ xs.length ≤ c ∧ RowsIn (fun k => w0.heap.size < k) W a (clsOf xs) := by
  rcases h.own.2 with ⟨e, h0⟩ | ⟨g, cap, cur, e, hb, hg, hc, _, _, _⟩
  · have hx : xs = [] := List.eq_nil_of_length_eq_zero h0
    subst hx
    cases e
    exact ⟨rfl, Nat.zero_le _, RowsIn.nil _ _ _⟩
  · cases e
    have hne : g ≠ w0.heap.size := fun e2 => h.far g rfl (by rw [e2]; exact hA)
    refine ⟨rfl, hc, fun i l hi => ?_⟩
    unfold clsOf at hi
    rw [List.getElem?_map, Option.map_eq_some_iff] at hi
    obtain ⟨x, hx, rfl⟩ := hi
    have hcl := h.cl x (List.mem_of_getElem? hx)
    have hce := h.own.cells (g := g) rfl i (.slice x.1 x.2.2.length x.2.1) (by unfold clV; rw [List.getElem?_map, hx]; rfl)
    rw [addr_at] at hce
    exact ⟨g, 0, x.1, x.2.1, rfl, by omega, hce, frozen_of_row W g (0 + i) _ _ hg, hcl.1.mono (fun k hk => by omega), hcl.2.1, by have := hcl.2.2.1; omega, hcl.2.2.2⟩
end
end Go.Proofs.YtdhgopcfjomjaaaDoor
