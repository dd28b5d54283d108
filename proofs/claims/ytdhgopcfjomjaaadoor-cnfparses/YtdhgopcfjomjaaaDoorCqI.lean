/- A range over an iterator that tells clauses and turns the reader's block meanwhile. -/
import Derived.Test.YtdhgopcfjomjaaaDoorCqH
namespace Go.Proofs.YtdhgopcfjomjaaaDoor
open Go.RowKit Go.Maps Go.WideMaps Go.Shelf
open Go.Lib hiding intOf run_convert_string_bytes
open Cn (I64)

namespace Cn
theorem cnt_i64 (d : List UInt8) : I64 (cntVal d) := by
  unfold cntVal I64
  split
  · rename_i v h
    unfold atoiAll at h
    split at h
    · cases h
    · split at h
      · cases h
      · cases h
      · rename_i u hu
        have hlt := parseMag_lt hu
        simp only at h
        split at h
        · cases h
        · split at h
          · cases h
          · injection h with h
            subst h
            split <;> omega
  · unfold atoiSat
    split <;> omega
  · omega
theorem lit_i64 (r : List UInt8) : I64 (litVal r) := by
  unfold litVal
  split
  · unfold I64 wrap64
    omega
  · exact cnt_i64 _
theorem clGo_i64 : ∀ (n : Nat) (r : List UInt8) (b : Bool) (acc : List Int), (∀ y ∈ acc, I64 y) → ∀ y ∈ (clGo n r b acc).1, I64 y
  | 0, _, _, _, h => h
  | n + 1, r, b, acc, h => by
    rw [clGo]
    split
    · exact h
    · exact clGo_i64 n _ _ _ (fun y hy => by
        rcases List.mem_append.1 hy with hy | hy
        · exact h y hy
        · rw [List.mem_singleton.1 hy]; exact lit_i64 r)
theorem clP_i64 (r : List UInt8) (b : Bool) : ∀ y ∈ (clP r b).1, I64 y := clGo_i64 _ r b [] (fun y hy => by cases hy)
theorem clGo_len : ∀ (n : Nat) (r : List UInt8) (b : Bool) (acc : List Int), (clGo n r b acc).2.2 = false → (clGo n r b acc).1.length + (clGo n r b acc).2.1.length ≤ acc.length + r.length
  | 0, _, _, _, _ => Nat.le_refl _
  | n + 1, r, b, acc, h => by
    rw [clGo] at h ⊢
    split
    · exact Nat.le_refl _
    · rename_i hc
      rw [if_neg hc] at h
      have h1 := clGo_len n _ _ _ h
      have h2 := trimP_len (litRest r) [32]
      rw [List.length_append, List.length_singleton] at h1
      have h3 : litBad r = false := by
        cases hb : litBad r with
        | false => rfl
        | true =>
          exfalso
          rw [hb] at h
          have : (b || true || !hasPrefix (litRest r) [32]) = true := by simp
          rw [this, clGo_stop (.inl rfl)] at h
          cases h
      have h4 := litRest_lt h3
      omega
theorem clP_len {r : List UInt8} {b : Bool} (h : (clP r b).2.2 = false) : (clP r b).1.length + 1 + (clP r b).2.1.length ≤ r.length := by
  unfold clP at h ⊢
  simp only [Bool.or_eq_false_iff] at h
  have h1 := clGo_len (r.length + 2) r b [] h.1
  have hp : hasPrefix (clGo (r.length + 2) r b []).2.1 [48, 10] = true := by simpa using h.2
  have h2 : (trimPrefix (clGo (r.length + 2) r b []).2.1 [48, 10]).length + 2 ≤ (clGo (r.length + 2) r b []).2.1.length := by
    unfold trimPrefix
    rw [if_pos hp, List.length_drop]
    have h3 : ([48, 10] : List UInt8).length ≤ (clGo (r.length + 2) r b []).2.1.length := (List.isPrefixOf_iff_prefix.1 hp).length_le
    have h4 : ([48, 10] : List UInt8).length = 2 := rfl
    omega
  simp only [List.length_nil] at h1
  show (clGo (r.length + 2) r b []).1.length + 1 + (trimPrefix (clGo (r.length + 2) r b []).2.1 [48, 10]).length ≤ r.length
  omega
/-- clauses, one by one, up to the first that is bad -/
def csGo : Nat → List (List Int) → List UInt8 → Bool → List (List Int) × List UInt8 × Bool
  | 0, acc, r, b => (acc, r, b)
  | n + 1, acc, r, b => if (clP r b).2.2 = true then (acc, (clP r b).2.1, true) else csGo n (acc ++ [(clP r b).1]) (clP r b).2.1 false
end Cn

abbrev FamS := List Nat → List (List Int) → List UInt8 → Bool → World → Prop
def FamS.turn (rb : Nat) (J : FamS) : Prop := ∀ X A s r b r' b' W W', J A s r b W → Kp [rb] W W' → Rd W' rb r' b' → (∀ k ∈ X, W.heap.size ≤ k ∧ k < W'.heap.size) → J (X ++ A) s r' b' W'
def FamS.drop (J : FamS) : Prop := ∀ X A s r b W, J (X ++ A) s r b W → J A s r b W
def SeqS (n : Nat) (g : Nat) (lb : Array Value) (rb : Nat) (Lk : List UInt8 → Bool → World → Prop) (r0 : List UInt8) (b0 : Bool) (T : List (List Int) × List UInt8 × Bool) : Prop :=
  ∀ (L : Nat) (J : FamS) (A0 : List Nat) (W : World), J.turn rb → J.drop → (∀ A s r b W, J A s r b W → Lk r b W) →
    (∀ A m pre a c l r W1, J A pre r false W1 → Cn.wt (pre ++ [l]) ≤ r0.length → NumsIn (· ∈ A) W1 a l → l.length ≤ c → (∀ y ∈ l, I64 y) → YieldAt Fence.wide m Tryd.prog L #[.slice a l.length c] W1 fun e W' => e = .returned (.bool true) ∧ J A (pre ++ [l]) r false W' ∧ ∀ k ∈ A, W'.heap[k]? = W1.heap[k]?) →
    J A0 [] r0 b0 W → CallsIn Fence.wide n Tryd.prog g (#[.func (.yield L) #[] #[]] ++ lb) W fun e W' => (∃ v, e = .returned v) ∧ J A0 T.1 T.2.1 T.2.2 W'
theorem Kp.one {rb : Nat} {W W' : World} {r : Option Nat} (h : W.grownBy W' r) (hr : r = none ∨ r = some rb) : Kp [rb] W W' := Kp.of h [rb] (fun k e _ => by rcases hr with h | h <;> rw [h] at e <;> cases e; simp)

variable {n : Nat}
theorem wpIn_rangeFunc_s {g : Operand} {ps : Array Tmp} {assign body : Code} {Q : Exit → Act → World → Prop} {a : Act} {w : World}
    (h1 : 1 ≤ n) {gf : Nat} {lb : Array Value} (hg : a.eval g = .func (.func gf) #[] lb) (eg : ∀ args w, (callFunc gf args).run Tryd.prog w = .ok (.enter gf args) w)
    {rb : Nat} (hrb : rb < w.heap.size) {Lk : List UInt8 → Bool → World → Prop} {r0 : List UInt8} {b0 : Bool} {T : List (List Int) × List UInt8 × Bool} (hseq : SeqS (n - 1) gf lb rb Lk r0 b0 T) (hps : 1 = ps.size)
    (I : FamS) (i1 : I.turn rb) (i2 : I.drop) (i3 : ∀ A s r b W, I A s r b W → Lk r b W) (i5 : ∀ A s r b W, I A s r b W → Rd W rb r b) (i4 : ∀ A s r b W W', I A s r b W → w.heap.size + 1 ∈ A → W.grownBy W' (some (w.heap.size + 1)) → I A s r b W') (h0 : I [] [] r0 b0 w) (a₁ : Option Addr → Nat → List Int → Act)
    (hassign : ∀ (l : Nat) (ca : Option Addr) (cc : Nat) (x : List Int) (W : World) (K : Act → World → Prop), K (a₁ ca cc x) W →
      assign.wpIn (Fence.wide.inRound l) (n - 1 - 1) Tryd.prog (Exit.then K (fun _ _ _ => False)) { tmps := (ps.zip #[Value.slice ca x.length cc]).foldl (fun t (p, v) => t.setIfInBounds p v) a.tmps, defers := [] } W)
    (hbody : ∀ (l : Nat) (A : List Nat) (pre : List (List Int)) (ca : Option Addr) (cc : Nat) (x : List Int) (r : List UInt8) (W : World), I A pre r false W → Cn.wt (pre ++ [x]) ≤ r0.length → NumsIn (fun k => k ∈ A ∧ w.heap.size + 2 ≤ k) W ca x → x.length ≤ cc → (∀ y ∈ x, I64 y) →
      body.wpIn (Fence.wide.inRound l) (n - 1 - 1) Tryd.prog (fun e _ W' => e = .normal ∧ I A (pre ++ [x]) r false W' ∧ ∀ k ∈ A, W'.heap[k]? = W.heap[k]?) (a₁ ca cc x) W)
    (hdone : ∀ (W : World), I [w.heap.size] T.1 T.2.1 T.2.2 W → W.heap[w.heap.size]? = some (.deferred (some [])) → Q .normal { a with defers := { target := .collected w.heap.size, args := #[] } :: a.defers } W) :
    (Code.rangeFunc g ps assign body).wpIn Fence.wide n Tryd.prog Q a w := by
  refine wpIn_rangeFunc ?_
  intro fn hfn
  rw [show Fence.wide.round = none from rfl]
  obtain ⟨rec, hrec⟩ : ∃ rec : LoopState → Option Code → Loop, rec = fun st pe => { state := st, pending := pe, fn, tmps := a.tmps, params := ps, assign, body, defers := w.heap.size } := ⟨_, rfl⟩
  obtain ⟨W1, hW1⟩ : ∃ W1, (w.alloc (.deferred (some []))).alloc (.loop (rec .ready none)) = W1 := ⟨_, rfl⟩
  have hL1 : W1.heap[w.heap.size + 1]? = some (.loop (rec .ready none)) := by
    rw [← hW1]; have := World.alloc_heap_new (w.alloc (.deferred (some []))) (.loop (rec .ready none)); rwa [World.size_alloc] at this
  have hK1 : W1.heap[w.heap.size]? = some (.deferred (some [])) := by
    rw [← hW1]; exact (Below.heap_alloc _ _ _ (by simp)).trans (World.alloc_heap_new w _)
  have hs1 : W1.heap.size = w.heap.size + 2 := by rw [← hW1]; simp
  have hgw : w.grownBy W1 none := by rw [← hW1]; exact (World.grownBy_alloc w _ none).trans (World.grownBy_alloc _ _ none)
  have hI1 : I [w.heap.size + 1, w.heap.size] [] r0 b0 W1 := i1 [w.heap.size + 1, w.heap.size] [] [] r0 b0 r0 b0 w W1 h0 (Kp.of0 hgw _) ((i5 _ _ _ _ _ h0).on hgw) (fun k hk => by simp at hk; omega)
  refine ⟨w.heap.size + 1, [{ target := .collected w.heap.size, args := #[] }], W1, { target := .fn (.func gf) lb, args := #[.func (.yield (w.heap.size + 1)) #[] #[]] }, W1, gf,
    #[.func (.yield (w.heap.size + 1)) #[] #[]] ++ lb, W1, ?_, ?_, ?_, ?_, fun _ => h1, ?_⟩
  · rw [← hW1, hrec]; exact run_enterLoop_outer _ _ _ _ _
  · simp only [resolve, hg]
    simp [go_sem]
  · intro f' hf'; trivial
  · simp [invoke, go_sem, eg]
  · refine (hseq (w.heap.size + 1)
      (fun A s r b W => I (A ++ [w.heap.size + 1, w.heap.size]) s r b W ∧ (∀ k ∈ A, w.heap.size + 2 ≤ k) ∧ W.heap[w.heap.size + 1]? = some (.loop (rec .ready none)) ∧ W.heap[w.heap.size]? = some (.deferred (some [])))
      [] W1 ?_ ?_ (fun A s r b W h => i3 _ _ _ _ _ h.1) ?_ ⟨hI1, (fun k hk => by cases hk), hL1, hK1⟩).mono ?_
    · rintro X A s r b r' b' W W' ⟨ha, hb, hc, hd⟩ hk hrd hX
      have hlc := gl hc
      refine ⟨by rw [List.append_assoc]; exact i1 X _ s r b r' b' W W' ha hk hrd hX, fun k h => ?_, (hk.block _ (gl hc) (by simp; omega)).trans hc, (hk.block _ (gl hd) (by simp; omega)).trans hd⟩
      rcases List.mem_append.1 h with h | h
      · have := (hX _ h).1; omega
      · exact hb k h
    · rintro X A s r b W ⟨ha, hb, hc, hd⟩
      rw [List.append_assoc] at ha
      exact ⟨i2 X _ s r b W ha, fun k h => hb k (List.mem_append.2 (.inr h)), hc, hd⟩
    · rintro A m pre ca cc x r W ⟨hi, hb, hl, hk⟩ hwt hn hx1 hx3
      have hb1 : w.heap.size + 1 ∉ A := fun h => by have := hb _ h; omega
      have hlt : w.heap.size + 1 < W.heap.size := gl hl
      have hy := run_yield (P := Tryd.prog) (args := #[Value.slice ca x.length cc]) hl (by rw [hrec]; exact hps)
      rw [hrec] at hy
      refine yieldAny' (m := n - 1 - 1) m ⟨fn, _, assign, body, hy, roundIn_of_wpIn hfn (hassign _ ca cc x W _ ⟨_, run_beginRound hl (by rw [hrec]), ?_⟩)⟩
      have hgb := grownBy_putObj' W (w.heap.size + 1) (.loop { rec .ready none with state := .busy })
      have hl2 : (W.putObj (w.heap.size + 1) (.loop { rec .ready none with state := .busy })).heap[w.heap.size + 1]? = some (.loop { rec .ready none with state := .busy }) := World.putObj_heap_same hlt
      have hk2 : (W.putObj (w.heap.size + 1) (.loop { rec .ready none with state := .busy })).heap[w.heap.size]? = some (.deferred (some [])) := (World.putObj_heap_other (by omega)).trans hk
      have hkA : ∀ k ∈ A, (W.putObj (w.heap.size + 1) (.loop { rec .ready none with state := .busy })).heap[k]? = W.heap[k]? := fun k hkA => World.putObj_heap_other (fun e => hb1 (by rw [← e]; exact hkA))
      refine wpIn_mono (hbody _ _ pre ca cc x r _ (i4 _ _ _ _ _ _ hi (by simp) hgb) hwt ((hn.keep hkA).mono (fun k hk => ⟨List.mem_append.2 (.inl hk), hb k hk⟩)) hx1 hx3) ?_
      rintro e a3 W3 ⟨rfl, hi3, hk3⟩
      have hl3 := (hk3 (w.heap.size + 1) (by simp)).trans hl2
      have hk4 := (hk3 w.heap.size (by simp)).trans hk2
      have hr := run_endRound (P := Tryd.prog) none hl3
      rw [hrec] at hr
      refine ⟨_, _, hr, rfl, ⟨i4 _ _ _ _ _ _ hi3 (by simp) (grownBy_putObj' W3 _ _), hb, ?_, (World.putObj_heap_other (by omega)).trans hk4⟩, ?_⟩
      · rw [hrec]; exact World.putObj_heap_same (gl hl3)
      · intro k hkA2
        refine (World.putObj_heap_other (fun e => hb1 (by rw [← e]; exact hkA2))).trans ((hk3 k (List.mem_append.2 (.inl hkA2))).trans (hkA k hkA2))
    · rintro e W2 ⟨⟨v, rfl⟩, hi, _, hl, hk⟩
      exact ⟨none, _, by have := run_endLoop (P := Tryd.prog) hl (by rw [hrec]; simp); rw [hrec] at this; exact this, hdone _ (i2 [w.heap.size + 1] [w.heap.size] _ _ _ _ (i4 _ _ _ _ _ _ hi (by simp) (grownBy_putObj' W2 _ _))) ((World.putObj_heap_other (by omega)).trans hk)⟩
end Go.Proofs.YtdhgopcfjomjaaaDoor
