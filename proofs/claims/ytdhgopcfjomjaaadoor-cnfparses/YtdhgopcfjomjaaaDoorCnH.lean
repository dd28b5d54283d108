/- A range over an iterator that tells clauses: it only makes memory; the body turns what is its own. -/
import Derived.Test.YtdhgopcfjomjaaaDoorCnG
namespace Go.Proofs.YtdhgopcfjomjaaaDoor
open Go.RowKit Go.Maps Go.WideMaps Go.Shelf
open Cn (I64)

/-- numbers in blocks that meet p, and that may be turned -/
def NumsIn (p : Nat → Prop) (w : World) (a : Option Addr) (l : List Int) : Prop := ∀ i n, l[i]? = some n → ∃ b o, a = some ⟨b, o, none⟩ ∧ p b ∧ w.cell? ⟨b, o + i, none⟩ = some (.int .i64 n) ∧ w.frozen? ⟨b, o + i, none⟩ = false
def RowsIn (p : Nat → Prop) (w : World) (a : Option Addr) (L : List (List Int)) : Prop := ∀ i l, L[i]? = some l → ∃ b o ra rc, a = some ⟨b, o, none⟩ ∧ p b ∧ w.cell? ⟨b, o + i, none⟩ = some (.slice ra l.length rc) ∧ w.frozen? ⟨b, o + i, none⟩ = false ∧ NumsIn p w ra l ∧ l.length ≤ rc ∧ l.length ≤ 140737488351232 ∧ ∀ y ∈ l, I64 y
section
variable {p q : Nat → Prop} {w w' : World} {a : Option Addr} {l : List Int} {L : List (List Int)}
theorem NumsIn.to (h : NumsIn p w a l) : NumsAt w a l := fun i n hi => by
  obtain ⟨b, o, e, _, h1, _⟩ := h i n hi
  exact ⟨b, o, e, h1⟩
theorem NumsIn.keep (h : NumsIn p w a l) (hk : ∀ k, p k → w'.heap[k]? = w.heap[k]?) : NumsIn p w' a l := fun i n hi => by
  obtain ⟨b, o, e, h0, h1, h2⟩ := h i n hi
  exact ⟨b, o, e, h0, (cell_of_block (hk b h0)).trans h1, (frozen_of_block (hk b h0)).trans h2⟩
theorem NumsIn.mono (h : NumsIn p w a l) (hp : ∀ k, p k → q k) : NumsIn q w a l := fun i n hi => by
  obtain ⟨b, o, e, h0, h1, h2⟩ := h i n hi
  exact ⟨b, o, e, hp b h0, h1, h2⟩
theorem NumsIn.monoLt (h : NumsIn p w a l) (hp : ∀ k, k < w.heap.size → p k → q k) : NumsIn q w a l := fun i n hi => by
  obtain ⟨b, o, e, h0, h1, h2⟩ := h i n hi
  exact ⟨b, o, e, hp b (lt_of_some h1) h0, h1, h2⟩
theorem RowsIn.to (h : RowsIn p w a L) : RowsAt w a L := fun i l hi => by
  obtain ⟨b, o, ra, rc, e, _, h1, _, h2, h3⟩ := h i l hi
  exact ⟨b, o, ra, rc, e, h1, h2.to, h3⟩
theorem RowsIn.keep (h : RowsIn p w a L) (hk : ∀ k, p k → w'.heap[k]? = w.heap[k]?) : RowsIn p w' a L := fun i l hi => by
  obtain ⟨b, o, ra, rc, e, h0, h1, h2, h3, h4⟩ := h i l hi
  exact ⟨b, o, ra, rc, e, h0, (cell_of_block (hk b h0)).trans h1, (frozen_of_block (hk b h0)).trans h2, h3.keep hk, h4⟩
theorem RowsIn.mono (h : RowsIn p w a L) (hp : ∀ k, p k → q k) : RowsIn q w a L := fun i l hi => by
  obtain ⟨b, o, ra, rc, e, h0, h1, h2, h3, h4⟩ := h i l hi
  exact ⟨b, o, ra, rc, e, hp b h0, h1, h2, h3.mono hp, h4⟩
theorem NumsIn.onLt (h : NumsIn p w a l) (hk : ∀ k, k < w.heap.size → p k → w'.heap[k]? = w.heap[k]?) : NumsIn p w' a l := fun i n hi => by
  obtain ⟨b, o, e, h0, h1, h2⟩ := h i n hi
  exact ⟨b, o, e, h0, (cell_of_block (hk b (lt_of_some h1) h0)).trans h1, (frozen_of_block (hk b (lt_of_some h1) h0)).trans h2⟩
theorem RowsIn.onLt (h : RowsIn p w a L) (hk : ∀ k, k < w.heap.size → p k → w'.heap[k]? = w.heap[k]?) : RowsIn p w' a L := fun i l hi => by
  obtain ⟨b, o, ra, rc, e, h0, h1, h2, h3, h4⟩ := h i l hi
  exact ⟨b, o, ra, rc, e, h0, (cell_of_block (hk b (lt_of_some h1) h0)).trans h1, (frozen_of_block (hk b (lt_of_some h1) h0)).trans h2, h3.onLt hk, h4⟩
theorem RowsIn.nil (p : Nat → Prop) (w : World) (a : Option Addr) : RowsIn p w a [] := fun i n h => by simp at h
end
theorem yieldAny' {m : Nat} (m' : Nat) {P : Program} {l : Nat} {args : Array Value} {W : World} {R : Ending → World → Prop} (h : YieldAt Fence.wide m P l args W R) : YieldAt Fence.wide m' P l args W R := by
  obtain ⟨fn, tmps, assign, body, hy, hR⟩ := h
  exact ⟨fn, tmps, assign, body, hy, hR.1, fun c cs _ => hR.2 c cs (room_wide _)⟩

section
variable {P : Program} {ops : Array Oper} {Q : Exit → Act → World → Prop} {md : Region.Mode} {S : World → Prop} {Z : List Nat} {l0 n : Nat}
theorem region_inZ {id : Nat} {a : Act} {w : World} (hm : P.follows .mixedOrders = true) (hLO : ¬ LetsOut Q) (hd : (ops.all fun o => match o.op with | .defer _ => false | _ => true) = true) (h : wpL P .any ops Q S Z ops.size (Array.replicate ops.size false) a w.drew) :
    (Code.region id ops true).wpIn (Fence.wide.inRound l0) n P Q a w :=
  wpIn_region_any hm (any_in hLO (fun j o c ho e => by
    have h1 := Array.all_eq_true.1 hd j (Array.getElem?_eq_some_iff.1 ho).1
    rw [(Array.getElem?_eq_some_iff.1 ho).2, e] at h1
    cases h1) _ _ _ _ (wpL_any _ _ _ _ h))
theorem wpL_as {f : Nat} {l : Array Bool} {a : Act} {w : World} (h : ∀ W, W = w → wpL P md ops Q S Z f l a W) : wpL P md ops Q S Z f l a w := h w rfl
theorem wpL_skip {P : Program} {ops : Array Oper} {Q : Exit → Act → World → Prop} {md : Region.Mode} {S : World → Prop} {Z : List Nat} {i : Nat} {oi : Oper} {f : Nat} {l : Array Bool} {a : Act} {w w' : World} (hr : Region.ready md ops l = [i]) (hi : ops[i]? = some oi)
    (hdst : oi.dst = none) (hw : Region.wanted oi (yielded ops a.tmps) = true) (hrun : (execOp a.eval oi).run P w = .ok .skip w') (hS : i ∉ Z → S w') (h : wpL P md ops Q S Z f (l.setIfInBounds i true) a w') : wpL P md ops Q S Z (f + 1) l a w := by
  refine wpL_one hr (wpOp_now hi hw (fun K' hK => ?_))
  unfold Oper.wp
  rw [hrun]
  refine hK _ _ ⟨hS, ?_⟩
  rw [hdst]
  exact h

end
/-- what is said of the clauses so far in a world, with blocks that the body does not turn -/
abbrev Fam := List Nat → List (List Int) → World → Prop
/-- what is made anew may be put to the blocks that are not turned -/
def Fam.fresh (J : Fam) : Prop := ∀ X A s W W', J A s W → W.grownBy W' none → (∀ k ∈ X, W.heap.size ≤ k ∧ k < W'.heap.size) → J (X ++ A) s W'
def Fam.drop (J : Fam) : Prop := ∀ X A s W, J (X ++ A) s W → J A s W
/-- an iterator that tells the clauses T -/
def SeqC (n : Nat) (g : Nat) (lb : Array Value) (Lk : World → Prop) (T : List (List Int)) : Prop :=
  ∀ (L : Nat) (J : Fam) (A0 : List Nat) (W : World), J.fresh → J.drop → (∀ A s W, J A s W → Lk W) →
    (∀ A m pre a c l W1, J A pre W1 → Cn.wt (pre ++ [l]) ≤ Cn.wt T → NumsIn (· ∈ A) W1 a l → l.length ≤ c → l.length ≤ 3 → (∀ y ∈ l, I64 y) → YieldAt Fence.wide m Tryd.prog L #[.slice a l.length c] W1 fun e W' => e = .returned (.bool true) ∧ J A (pre ++ [l]) W' ∧ ∀ k ∈ A, W'.heap[k]? = W1.heap[k]?) →
    J A0 [] W → CallsIn Fence.wide n Tryd.prog g (#[.func (.yield L) #[] #[]] ++ lb) W fun e W' => (∃ v, e = .returned v) ∧ J A0 T W'

variable {n : Nat}
theorem wpIn_rangeFunc_c {g : Operand} {ps : Array Tmp} {assign body : Code} {Q : Exit → Act → World → Prop} {a : Act} {w : World}
    (h1 : 1 ≤ n) {gf : Nat} {lb : Array Value} (hg : a.eval g = .func (.func gf) #[] lb) (eg : ∀ args w, (callFunc gf args).run Tryd.prog w = .ok (.enter gf args) w)
    {Lk : World → Prop} {T : List (List Int)} (hseq : SeqC (n - 1) gf lb Lk T) (hps : 1 = ps.size)
    (I : Fam) (i1 : I.fresh) (i2 : I.drop) (i3 : ∀ A s W, I A s W → Lk W) (i4 : ∀ A s W W', I A s W → w.heap.size + 1 ∈ A → W.grownBy W' (some (w.heap.size + 1)) → I A s W') (h0 : I [] [] w) (a₁ : Option Addr → Nat → List Int → Act)
    (hassign : ∀ (l : Nat) (ca : Option Addr) (cc : Nat) (x : List Int) (W : World) (K : Act → World → Prop), K (a₁ ca cc x) W →
      assign.wpIn (Fence.wide.inRound l) (n - 1 - 1) Tryd.prog (Exit.then K (fun _ _ _ => False)) { tmps := (ps.zip #[Value.slice ca x.length cc]).foldl (fun t (p, v) => t.setIfInBounds p v) a.tmps, defers := [] } W)
    (hbody : ∀ (l : Nat) (A : List Nat) (pre : List (List Int)) (ca : Option Addr) (cc : Nat) (x : List Int) (W : World), I A pre W → Cn.wt (pre ++ [x]) ≤ Cn.wt T → NumsIn (fun k => k ∈ A ∧ w.heap.size + 2 ≤ k) W ca x → x.length ≤ cc → x.length ≤ 3 → (∀ y ∈ x, I64 y) →
      body.wpIn (Fence.wide.inRound l) (n - 1 - 1) Tryd.prog (fun e _ W' => e = .normal ∧ I A (pre ++ [x]) W' ∧ ∀ k ∈ A, W'.heap[k]? = W.heap[k]?) (a₁ ca cc x) W)
    (hdone : ∀ (W : World), I [w.heap.size] T W → W.heap[w.heap.size]? = some (.deferred (some [])) → Q .normal { a with defers := { target := .collected w.heap.size, args := #[] } :: a.defers } W) :
    (Code.rangeFunc g ps assign body).wpIn Fence.wide n Tryd.prog Q a w := by
  refine wpIn_rangeFunc ?_
  intro fn hfn
  rw [show Fence.wide.round = none from rfl]
  obtain ⟨rec, hrec⟩ : ∃ rec : LoopState → Option Code → Loop, rec = fun st pe => { state := st, pending := pe, fn, tmps := a.tmps, params := ps, assign, body, defers := w.heap.size } := ⟨_, rfl⟩
  obtain ⟨W1, hW1⟩ : ∃ W1, (w.alloc (.deferred (some []))).alloc (.loop (rec .ready none)) = W1 := ⟨_, rfl⟩
  have hL1 : W1.heap[w.heap.size + 1]? = some (.loop (rec .ready none)) := by
    rw [← hW1]; have := World.alloc_heap_new (w.alloc (.deferred (some []))) (.loop (rec .ready none)); rwa [World.size_alloc] at this
  have hK1 : W1.heap[w.heap.size]? = some (.deferred (some [])) := by
    rw [← hW1]; exact (Below.heap_alloc _ _ _ (by simp)).trans (World.alloc_heap_new w _)
  have hs1 : W1.heap.size = w.heap.size + 2 := by rw [← hW1]; simp
  have hgw : w.grownBy W1 none := by rw [← hW1]; exact (World.grownBy_alloc w _ none).trans (World.grownBy_alloc _ _ none)
  have hI1 : I [w.heap.size + 1, w.heap.size] [] W1 := i1 [w.heap.size + 1, w.heap.size] [] [] w W1 h0 hgw (fun k hk => by simp at hk; omega)
  refine ⟨w.heap.size + 1, [{ target := .collected w.heap.size, args := #[] }], W1, { target := .fn (.func gf) lb, args := #[.func (.yield (w.heap.size + 1)) #[] #[]] }, W1, gf,
    #[.func (.yield (w.heap.size + 1)) #[] #[]] ++ lb, W1, ?_, ?_, ?_, ?_, fun _ => h1, ?_⟩
  · rw [← hW1, hrec]; exact run_enterLoop_outer _ _ _ _ _
  · simp only [resolve, hg]
    simp [go_sem]
  · intro f' hf'; trivial
  · simp [invoke, go_sem, eg]
  · refine (hseq (w.heap.size + 1)
      (fun A s W => I (A ++ [w.heap.size + 1, w.heap.size]) s W ∧ (∀ k ∈ A, w.heap.size + 2 ≤ k) ∧ W.heap[w.heap.size + 1]? = some (.loop (rec .ready none)) ∧ W.heap[w.heap.size]? = some (.deferred (some [])))
      [] W1 ?_ ?_ (fun A s W h => i3 _ _ _ h.1) ?_ ⟨hI1, (fun k hk => by cases hk), hL1, hK1⟩).mono ?_
    · rintro X A s W W' ⟨ha, hb, hc, hd⟩ hg hX
      have hlc := gl hc
      refine ⟨by rw [List.append_assoc]; exact i1 X _ s W W' ha hg hX, fun k h => ?_, (hg.block _ (gl hc) (by simp)).trans hc, (hg.block _ (gl hd) (by simp)).trans hd⟩
      rcases List.mem_append.1 h with h | h
      · have := (hX _ h).1; omega
      · exact hb k h
    · rintro X A s W ⟨ha, hb, hc, hd⟩
      rw [List.append_assoc] at ha
      exact ⟨i2 X _ s W ha, fun k h => hb k (List.mem_append.2 (.inr h)), hc, hd⟩
    · rintro A m pre ca cc x W ⟨hi, hb, hl, hk⟩ hwt hn hx1 hx2 hx3
      have hb1 : w.heap.size + 1 ∉ A := fun h => by have := hb _ h; omega
      have hlt : w.heap.size + 1 < W.heap.size := gl hl
      have hy := run_yield (P := Tryd.prog) (args := #[Value.slice ca x.length cc]) hl (by rw [hrec]; exact hps)
      rw [hrec] at hy
      refine yieldAny' (m := n - 1 - 1) m ⟨fn, _, assign, body, hy, roundIn_of_wpIn hfn (hassign _ ca cc x W _ ⟨_, run_beginRound hl (by rw [hrec]), ?_⟩)⟩
      have hgb := grownBy_putObj' W (w.heap.size + 1) (.loop { rec .ready none with state := .busy })
      have hl2 : (W.putObj (w.heap.size + 1) (.loop { rec .ready none with state := .busy })).heap[w.heap.size + 1]? = some (.loop { rec .ready none with state := .busy }) := World.putObj_heap_same hlt
      have hk2 : (W.putObj (w.heap.size + 1) (.loop { rec .ready none with state := .busy })).heap[w.heap.size]? = some (.deferred (some [])) := (World.putObj_heap_other (by omega)).trans hk
      have hkA : ∀ k ∈ A, (W.putObj (w.heap.size + 1) (.loop { rec .ready none with state := .busy })).heap[k]? = W.heap[k]? := fun k hkA => World.putObj_heap_other (fun e => hb1 (by rw [← e]; exact hkA))
      refine wpIn_mono (hbody _ _ pre ca cc x _ (i4 _ _ _ _ hi (by simp) hgb) hwt ((hn.keep hkA).mono (fun k hk => ⟨List.mem_append.2 (.inl hk), hb k hk⟩)) hx1 hx2 hx3) ?_
      rintro e a3 W3 ⟨rfl, hi3, hk3⟩
      have hl3 := (hk3 (w.heap.size + 1) (by simp)).trans hl2
      have hk4 := (hk3 w.heap.size (by simp)).trans hk2
      have hr := run_endRound (P := Tryd.prog) none hl3
      rw [hrec] at hr
      refine ⟨_, _, hr, rfl, ⟨i4 _ _ _ _ hi3 (by simp) (grownBy_putObj' W3 _ _), hb, ?_, (World.putObj_heap_other (by omega)).trans hk4⟩, ?_⟩
      · rw [hrec]; exact World.putObj_heap_same (gl hl3)
      · intro k hkA2
        refine (World.putObj_heap_other (fun e => hb1 (by rw [← e]; exact hkA2))).trans ((hk3 k (List.mem_append.2 (.inl hkA2))).trans (hkA k hkA2))
    · rintro e W2 ⟨⟨v, rfl⟩, hi, _, hl, hk⟩
      exact ⟨none, _, by have := run_endLoop (P := Tryd.prog) hl (by rw [hrec]; simp); rw [hrec] at this; exact this, hdone _ (i2 [w.heap.size + 1] [w.heap.size] _ _ (i4 _ _ _ _ hi (by simp) (grownBy_putObj' W2 _ _))) ((World.putObj_heap_other (by omega)).trans hk)⟩
end Go.Proofs.YtdhgopcfjomjaaaDoor
