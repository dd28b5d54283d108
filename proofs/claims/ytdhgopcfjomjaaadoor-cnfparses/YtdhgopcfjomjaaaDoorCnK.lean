/- cnf.Of: the formula under way. -/
import Derived.Test.YtdhgopcfjomjaaaDoorCnJ
import Derived.Maps.OwnIn
namespace Go.Proofs.YtdhgopcfjomjaaaDoor
open Go.RowKit Go.Maps Go.WideMaps Go.Shelf
open Cn (I64)

abbrev Cl := Option Addr × Nat × List Int
def clV (xs : List Cl) : List Value := xs.map fun x => .slice x.1 x.2.2.length x.2.1
def clsOf (xs : List Cl) : List (List Int) := xs.map fun x => x.2.2
theorem clsOf_len (xs : List Cl) : (clsOf xs).length = xs.length := by simp [clsOf]
theorem clV_len (xs : List Cl) : (clV xs).length = xs.length := by simp [clV]
/-- a clause that a formula under way holds -/
def ClAt (p : Nat → Prop) (W : World) (x : Cl) : Prop := NumsIn p W x.1 x.2.2 ∧ x.2.2.length ≤ x.2.1 ∧ x.2.2.length ≤ 3 ∧ ∀ y ∈ x.2.2, I64 y
structure OfR (w0 : World) (bf bz : Nat) (vars : Int) (A : List Nat) (xs : List Cl) (v : Value) (W : World) : Prop where
  kp : Kp [bf, bz] w0 W
  lo : bf < w0.heap.size ∧ bz < w0.heap.size ∧ bf ≠ bz
  rf : W.heap[bf]? = some (.cells #[.int .i64 vars, v] 24 (0, 0))
  rz : W.heap[bz]? = some (.cells #[.int .i64 (Cn.wt (clsOf xs) : Int)] 3 (0, 0))
  own : W.ownsRow w0.heap.size 36 1 v xs.length (clV xs)
  far : ∀ k, v.ownBlock = some k → k ∉ A
  cl : ∀ x ∈ xs, ClAt (fun k => w0.heap.size + 2 ≤ k ∧ v.ownBlock ≠ some k) W x
  al : ∀ k ∈ A, w0.heap.size ≤ k ∧ k < W.heap.size
def OfI (w0 : World) (bf bz : Nat) (vars : Int) : Fam := fun A s W => ∃ v xs, clsOf xs = s ∧ OfR w0 bf bz vars A xs v W
/-- the blocks being below the first world's end -/
theorem NumsIn.monoLt2 {p q : Nat → Prop} {w w' : World} {a : Option Addr} {l : List Int} (h : NumsIn p w' a l) (h0 : NumsIn p w a l) (hp : ∀ k, k < w.heap.size → p k → q k) : NumsIn q w' a l := fun i n hi => by
  obtain ⟨b, o, e, h1, h2, h3⟩ := h i n hi
  obtain ⟨b2, o2, e2, _, h4, _⟩ := h0 i n hi
  rw [e] at e2
  cases e2
  exact ⟨b, o, e, hp b (lt_of_some h4) h1, h2, h3⟩
section
variable {w0 W W' : World} {bf bz : Nat} {vars : Int} {A : List Nat} {xs : List Cl} {v : Value}
theorem ClAt.on {p : Nat → Prop} {x : Cl} (h : ClAt p W x) (hk : ∀ k, k < W.heap.size → p k → W'.heap[k]? = W.heap[k]?) : ClAt p W' x := ⟨h.1.onLt hk, h.2⟩
theorem OfR.fresh (h : OfR w0 bf bz vars A xs v W) (hg : W.grownBy W' none) {X : List Nat} (hX : ∀ k ∈ X, W.heap.size ≤ k ∧ k < W'.heap.size) : OfR w0 bf bz vars (X ++ A) xs v W' :=
  ⟨h.kp.trans (Kp.of0 hg _), h.lo, (hg.block _ (gl h.rf) (by simp)).trans h.rf, (hg.block _ (gl h.rz) (by simp)).trans h.rz, h.own.kept hg (by cases v.ownBlock <;> simp), fun k e hk => by
      rcases List.mem_append.1 hk with h1 | h1
      · have h2 := (hX k h1).1; have h3 := (h.own.lt k e).2; omega
      · exact h.far k e h1, fun x hx => (h.cl x hx).on (fun k hk _ => hg.block k hk (by simp)), fun k hk => by
      rcases List.mem_append.1 hk with h1 | h1
      · have h2 := hX k h1; have h3 := h.kp.size; omega
      · have h2 := h.al k h1; have h3 := hg.size; omega⟩
theorem OfR.drop {X : List Nat} (h : OfR w0 bf bz vars (X ++ A) xs v W) : OfR w0 bf bz vars A xs v W :=
  ⟨h.kp, h.lo, h.rf, h.rz, h.own, fun k e hk => h.far k e (List.mem_append.2 (.inr hk)), h.cl, fun k hk => h.al k (List.mem_append.2 (.inr hk))⟩
/-- what turns one of the loop's two blocks alone -/
theorem OfR.loop (h : OfR w0 bf bz vars A xs v W) {k0 : Nat} (hk : k0 ∈ A) (h1 : k0 < w0.heap.size + 2) (hg : W.grownBy W' (some k0)) : OfR w0 bf bz vars A xs v W' := by
  have hlo := (h.al k0 hk).1
  have hne : ∀ k, k ≠ k0 → k < W.heap.size → W'.heap[k]? = W.heap[k]? := fun k hn hl => hg.block k hl (by simp; exact hn)
  exact ⟨⟨hg.os.trans h.kp.os, hg.tape.trans h.kp.tape, hg.output.trans h.kp.output, Nat.le_trans h.kp.size hg.size, fun k hl hx => (hne k (by omega) (Nat.lt_of_lt_of_le hl h.kp.size)).trans (h.kp.block k hl hx)⟩, h.lo, (hne bf (by have := h.lo.1; omega) (gl h.rf)).trans h.rf, (hne bz (by have := h.lo.2.1; omega) (gl h.rz)).trans h.rz, h.own.kept hg (by cases hv : v.ownBlock with | none => simp | some b => simp; exact fun e => h.far b hv (by rw [e]; exact hk)), h.far, fun x hx => (h.cl x hx).on (fun k hl hp => hne k (by omega) hl), fun k hk => by have h2 := h.al k hk; have h3 := hg.size; omega⟩
theorem OfI.fresh : (OfI w0 bf bz vars).fresh := fun _ _ _ _ _ ⟨v, xs, e, h⟩ hg hX => ⟨v, xs, e, h.fresh hg hX⟩
theorem OfI.drop : (OfI w0 bf bz vars).drop := fun _ _ _ _ ⟨v, xs, e, h⟩ => ⟨v, xs, e, h.drop⟩
theorem OfI.loop {s : List (List Int)} (h : OfI w0 bf bz vars A s W) {k0 : Nat} (hk : k0 ∈ A) (h1 : k0 < w0.heap.size + 2) (hg : W.grownBy W' (some k0)) : OfI w0 bf bz vars A s W' := by
  obtain ⟨v, xs, e, h⟩ := h
  exact ⟨v, xs, e, h.loop hk h1 hg⟩
/-- the size is another: a clause is counted -/
theorem Kp.row (u : Value) : Kp [bz] W (W.setCell ⟨bz, 0, none⟩ u) := (Kp.refl _ W).set (by simp) u
/-- one clause more -/
theorem OfR.next (h : OfR w0 bf bz vars A xs v W) {W1 W2 W3 W4 : World} {ca : Option Addr} {cc : Nat} {x : List Int} (hn : NumsIn (fun k => k ∈ A ∧ w0.heap.size + 2 ≤ k) W ca x) (hc : x.length ≤ cc) (h3 : x.length ≤ 3) (h64 : ∀ y ∈ x, I64 y)
    (hk1 : Kp [bz] W W1) (hr1 : W1.heap[bz]? = some (.cells #[.int .i64 (Cn.wt (clsOf (xs ++ [(ca, cc, x)])) : Int)] 3 (0, 0))) (hg2 : W1.grownBy W2 none) {v' : Value}
    (ho3 : W3.ownsRow w0.heap.size 36 1 v' (xs.length + 1) (clV xs ++ [.slice ca x.length cc])) (hg3 : W2.grownBy W3 v.ownBlock) (hat : v'.ownBlock = v.ownBlock ∨ v'.ownBlock = some W2.heap.size)
    (hk4 : Kp [bf] W3 W4) (hr4 : W4.heap[bf]? = some (.cells #[.int .i64 vars, v'] 24 (0, 0))) :
    OfR w0 bf bz vars A (xs ++ [(ca, cc, x)]) v' W4 ∧ ∀ k ∈ A, W4.heap[k]? = W.heap[k]? := by
  have s1 := hk1.size
  have s2 := hg2.size
  have s3 := hg3.size
  have hl := h.lo
  have hsz := h.kp.size
  -- a block that is neither bf, bz, nor the list's own stays
  have stay : ∀ k, k < W.heap.size → k ≠ bf → k ≠ bz → v.ownBlock ≠ some k → W4.heap[k]? = W.heap[k]? := fun k hk e1 e2 e3 =>
    (hk4.block k (by omega) (by simp; exact e1)).trans ((hg3.block k (by omega) (fun e => e3 e.symm)).trans ((hg2.block k (by omega) (by simp)).trans (hk1.block k hk (by simp; exact e2))))
  have hob := fun k e => h.own.lt k e
  have hkeep : ∀ k ∈ A, W4.heap[k]? = W.heap[k]? := fun k hk => by
    have h1 := h.al k hk
    exact stay k h1.2 (by omega) (by omega) (fun e => h.far k e hk)
  have hfar : ∀ k, v'.ownBlock = some k → k ∉ A := fun k e hk => by
    rcases hat with h1 | h1
    · exact h.far k (h1.symm.trans e) hk
    · have e2 := Option.some.inj (h1.symm.trans e)
      have := (h.al k hk).2
      omega
  have hne4 : ∀ k, v'.ownBlock = some k → k ≠ bf := fun k e => by have := (ho3.lt k e).1; omega
  refine ⟨⟨⟨hk4.os.trans (hg3.os.trans (hg2.os.trans (hk1.os.trans h.kp.os))), hk4.tape.trans (hg3.tape.trans (hg2.tape.trans (hk1.tape.trans h.kp.tape))), hk4.output.trans (hg3.output.trans (hg2.output.trans (hk1.output.trans h.kp.output))), by have := hk4.size; omega, fun k hk hx => ?_⟩, h.lo, hr4, ?_, ?_, hfar, fun z hz => ?_, fun k hk => by have := h.al k hk; have := hk4.size; omega⟩, hkeep⟩
  · simp at hx
    exact (stay k (by omega) hx.1 hx.2 (fun e => by have := (hob k e).1; omega)).trans (h.kp.block k hk (by simp; exact hx))
  · have hz1 : v.ownBlock ≠ some bz := fun e => by have := (hob bz e).1; omega
    exact (hk4.block bz (by have := gl hr1; omega) (by simp; exact fun e => hl.2.2 e.symm)).trans ((hg3.block bz (by have := gl hr1; omega) (fun e => hz1 e.symm)).trans ((hg2.block bz (gl hr1) (by simp)).trans hr1))
  · have ho4 : W4.ownsRow w0.heap.size 36 1 v' (xs.length + 1) (clV xs ++ [.slice ca x.length cc]) := by
      refine ⟨ho3.1, ho3.2.imp id ?_⟩
      rintro ⟨g, cap, cur, rfl, h1, h2, h4⟩
      exact ⟨g, cap, cur, rfl, h1, (hk4.block g (gl h2) (by simp; exact hne4 g rfl)).trans h2, h4⟩
    rw [List.length_append, List.length_singleton]
    unfold clV at ho4 ⊢
    rw [List.map_append]
    exact ho4
  · rcases List.mem_append.1 hz with hz | hz
    · refine ⟨?_, (h.cl z hz).2⟩
      have h1 := (h.cl z hz).1
      refine (h1.onLt (w' := W4) (fun k hk hp => stay k hk (by omega) (by omega) hp.2)).monoLt2 h1 (fun k hk hp => ⟨hp.1, fun e => ?_⟩)
      rcases hat with h2 | h2
      · exact hp.2 (h2.symm.trans e)
      · have := Option.some.inj (h2.symm.trans e); omega
    · simp at hz
      subst hz
      refine ⟨?_, hc, h3, h64⟩
      refine ((hn.keep (w' := W4) (fun k hk => hkeep k hk.1)).mono (fun k hk => ⟨hk.2, fun e => hfar k e hk.1⟩))
/-- the clauses of a formula, as rows -/
theorem OfR.rows {a : Option Addr} {n c : Nat} (h : OfR w0 bf bz vars A xs (.slice a n c) W) (hA : w0.heap.size ∈ A) : n = xs.length ∧ xs.length ≤ c ∧ RowsIn (fun k => w0.heap.size < k) W a (clsOf xs) := by
  rcases h.own.2 with ⟨e, h0⟩ | ⟨g, cap, cur, e, hb, hg, hc, _, _, _⟩
  · have hx : xs = [] := List.eq_nil_of_length_eq_zero h0
    subst hx
    cases e
    exact ⟨rfl, Nat.zero_le _, RowsIn.nil _ _ _⟩
  · cases e
    have hne : g ≠ w0.heap.size := fun e2 => h.far g rfl (by rw [e2]; exact hA)
    refine ⟨rfl, hc, fun i l hi => ?_⟩
    unfold clsOf at hi
    rw [List.getElem?_map, Option.map_eq_some_iff] at hi
    obtain ⟨x, hx, rfl⟩ := hi
    have hcl := h.cl x (List.mem_of_getElem? hx)
    have hce := h.own.cells (g := g) rfl i (.slice x.1 x.2.2.length x.2.1) (by unfold clV; rw [List.getElem?_map, hx]; rfl)
    rw [addr_at] at hce
    exact ⟨g, 0, x.1, x.2.1, rfl, by omega, hce, frozen_of_row W g (0 + i) _ _ hg, hcl.1.mono (fun k hk => by omega), hcl.2.1, by have := hcl.2.2.1; omega, hcl.2.2.2⟩
end
end Go.Proofs.YtdhgopcfjomjaaaDoor
