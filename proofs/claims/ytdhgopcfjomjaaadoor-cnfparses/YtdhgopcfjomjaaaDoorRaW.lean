/- A region that draws its order, step by step (GrL0, NmK0, NmK1 joined); frames. -/
import Derived.Test.YtdhgopcfjomjaaaDoorRaM
import Derived.Test.YtdhgopcfjomjaaaDoorProg
import Derived.WalkKit
import Derived.Lib.Hide
import Derived.Deep.MidRow
import Derived.Deep.RegionHeld3
import Derived.RangeFuncNested
import Derived.RangeFuncBound
import Derived.RangeFuncCalls
import Derived.RangeFuncLeaves
import Derived.Shelf.Abstract
import Derived.Shelf.RegionOpen
import Derived.OwnWalkIn
import Derived.TacticsInMore
import Derived.LoopNIn
import Derived.LoopIn
import Derived.Deep.LoopGhost
import Derived.Maps.AppendAt
import Derived.Handy
namespace Go.Proofs.YtdhgopcfjomjaaaDoor
open Go.RowKit Go.Maps Go.WideMaps Go.Shelf

theorem gl {w : World} {b : Nat} {o : Obj} (h : w.heap[b]? = some o) : b < w.heap.size := (Array.getElem?_eq_some_iff.1 h).1

/-- all orders go well; S is kept by all but those of Z -/
def wpL (P : Program) (md : Region.Mode) (ops : Array Oper) (Q : Exit → Act → World → Prop) (S : World → Prop) (Z : List Nat) : Nat → Array Bool → Act → World → Prop
  | 0, l, a, w => Region.ready md ops l = [] ∧ Q .normal a w
  | f + 1, l, a, w => (Region.ready md ops l = [] → Q .normal a w) ∧ ∀ j ∈ Region.ready md ops l, wpOp P ops Q j (fun a' w' => (j ∉ Z → S w') ∧ wpL P md ops Q S Z f (l.setIfInBounds j true) a' w') a w

section
variable {P : Program} {ops : Array Oper} {Q : Exit → Act → World → Prop} {md : Region.Mode} {S : World → Prop} {Z : List Nat}

theorem wpL_any : ∀ (f : Nat) (l : Array Bool) (a : Act) (w : World), wpL P md ops Q S Z f l a w → wpAny P md ops Q f l a w
  | 0, _, _, _, h => h
  | f + 1, _, _, _, h => ⟨h.1, fun j hj => wpOp_mono (fun a w hh => wpL_any f _ a w hh.2) (h.2 j hj)⟩

theorem wp_region_L {id : Nat} {a : Act} {w : World} (hm : P.follows .mixedOrders = true) (h : wpL P .any ops Q S Z ops.size (Array.replicate ops.size false) a w.drew) : (Code.region id ops true).wp P Q a w :=
  wp_region_any hm (wpL_any _ _ _ _ h)

/-- what stands behind i is not ready while i is not done -/
theorem not_ready {z i : Nat} {oz : Oper} {l : Array Bool} (hz : ops[z]? = some oz) (he : oz.after.any (fun e => Region.binds md e && e.on == i) = true) (hi : l.getD i true = false) : z ∉ Region.ready md ops l := by
  intro hr
  obtain ⟨_, o, ho, hall⟩ := mem_ready.1 hr
  have e0 := Option.some.inj (hz.symm.trans ho)
  subst e0
  rw [Array.any_eq_true] at he
  obtain ⟨n, hn, hb⟩ := he
  rw [Bool.and_eq_true, beq_iff_eq] at hb
  have h1 := hall _ (Array.getElem_mem hn) hb.1
  rw [hb.2] at h1
  simp only [Array.getD_eq_getD_getElem?] at hi h1
  cases hl : l[i]? with
  | none => rw [hl] at h1; simp at h1
  | some v => rw [hl] at hi h1; simp at hi h1; rw [hi] at h1; cases h1

theorem wpL_first {i : Nat} {oi : Oper} {v : Value} (hi : ops[i]? = some oi) (hsel : ∀ (j : Nat) (o : Oper) cs b, ops[j]? = some o → o.op ≠ .select cs b)
    (hQ : ∀ c a w, Q (.panic c) (a.put oi.dst v) w → Q (.panic c) a w) (hZ : ∀ z ∈ Z, ∃ oz, ops[z]? = some oz ∧ oz.after.any (fun e => Region.binds md e && e.on == i) = true) :
    ∀ (f : Nat) (l : Array Bool) (a : Act) (w : World), (∀ j oj, ops[j]? = some oj → j ≠ i → l.getD j true = false → (∀ e ∈ oj.after, Region.binds md e = true → e.on ≠ i) → oi.apart ops oj = true) →
      i ∈ Region.ready md ops l → YieldsIf P ops S oi v a → S w → wpL P md ops Q S Z f (l.setIfInBounds i true) (a.put oi.dst v) w → wpL P md ops Q S Z (f + 1) l a w
  | f, l, a, w, hfree, hr, hy, hS, H => by
    refine ⟨fun h => by rw [h] at hr; exact absurd hr (by simp), fun j hj => ?_⟩
    by_cases hji : j = i
    · subst hji
      exact hy.wpOp hi hS ⟨fun _ => hS, H⟩
    · have hin := ready_mono hj hji
      have hl0 := (mem_ready.1 hr).1
      cases f with
      | zero => rw [H.1] at hin; exact absurd hin (by simp)
      | succ f =>
        obtain ⟨hjun, oj, hoj, hall⟩ := mem_ready.1 hj
        have hnot : ∀ e ∈ oj.after, Region.binds md e = true → e.on ≠ i := fun e he hb heq => by
          have hz : j ∉ Region.ready md ops l := not_ready hoj (by rw [Array.any_eq_true]; obtain ⟨n, hn, hx⟩ := Array.getElem_of_mem he; exact ⟨n, hn, by rw [hx, hb, Bool.true_and, beq_iff_eq]; exact heq⟩) hl0
          exact hz hj
        have hjZ : j ∉ Z := fun hz => by
          obtain ⟨oz, h1, h2⟩ := hZ j hz
          exact not_ready h1 h2 hl0 hj
        have h2 := wpOp_putIf hoj (hfree j oj hoj hji hjun hnot) (fun cs b => hsel i oi cs b hi) (fun cs b => hsel j oj cs b hoj) hQ hy (H.2 j hin)
        refine wpOp_mono (fun a' w' h3 => ⟨fun _ => h3.2.1 hjZ, ?_⟩) h2
        refine wpL_first hi hsel hQ hZ f _ a' w' (fun k ok hk hki hun hno => hfree k ok hk hki ?_ hno) (ready_mono hr (Ne.symm hji)) h3.1 (h3.2.1 hjZ) ?_
        · by_cases hjk : j = k
          · subst hjk; exact hjun
          · rw [getD_set_ne true hjk] at hun; exact hun
        · rw [Array.setIfInBounds_comm _ _ hji]
          exact h3.2.2

/-- take number i first, which yields v in every world that meets S -/
theorem wpL_take {i : Nat} {oi : Oper} {v : Value} {f : Nat} {l : Array Bool} {a : Act} {w : World} (hi : ops[i]? = some oi)
    (hs : Region.noSelect ops = true) (hf : Region.free md ops l i = true) (hr : (Region.ready md ops l).contains i = true)
    (hQ : ∀ c a w, Q (.panic c) (a.put oi.dst v) w → Q (.panic c) a w) (hZ : (Z.all fun z => ((ops[z]?).map fun oz => oz.after.any fun e => Region.binds md e && e.on == i).getD false) = true) (hy : YieldsIf P ops S oi v a) (hS : S w)
    (h : wpL P md ops Q S Z f (l.setIfInBounds i true) (a.put oi.dst v) w) : wpL P md ops Q S Z (f + 1) l a w :=
  wpL_first hi (Region.noSelect_spec hs) hQ (fun z hz => by
    have h1 := List.all_eq_true.1 hZ z hz
    cases ho : ops[z]? with
    | none => rw [ho] at h1; cases h1
    | some oz => rw [ho] at h1; exact ⟨oz, rfl, h1⟩) f l a w (Region.free_spec hi hf) (by simpa using hr) hy hS h
/-- one alone may come up -/
theorem wpL_one {i : Nat} {f : Nat} {l : Array Bool} {a : Act} {w : World} (hr : Region.ready md ops l = [i])
    (h : wpOp P ops Q i (fun a' w' => (i ∉ Z → S w') ∧ wpL P md ops Q S Z f (l.setIfInBounds i true) a' w') a w) : wpL P md ops Q S Z (f + 1) l a w :=
  ⟨fun h0 => (by rw [hr] at h0; exact absurd h0 (by simp)), fun j hj => (by rw [hr] at hj; obtain rfl := List.mem_singleton.1 hj; exact h)⟩
theorem wpL_done {l : Array Bool} {a : Act} {w : World} (hr : Region.ready md ops l = []) (h : Q .normal a w) : ∀ f, wpL P md ops Q S Z f l a w
  | 0 => ⟨hr, h⟩
  | _ + 1 => ⟨fun _ => h, by rw [hr]; simp⟩
end


section
variable {P : Program} {ops : Array Oper} {Q : Exit → Act → World → Prop} {md : Region.Mode} {l0 n : Nat}
theorem op_in (hLO : ¬ LetsOut Q) {j : Nat} {K K' : Act → World → Prop} (hK : ∀ a w, K a w → K' a w) (hd : ∀ o c, ops[j]? = some o → o.op ≠ .defer c) {a : Act} {w : World} (h : wpOp P ops Q j K a w) : wpOpIn (Fence.wide.inRound l0) n P ops Q j K' a w := by
  unfold wpOp at h
  unfold wpOpIn
  cases ho : ops[j]? with
  | none => rw [ho] at h; exact hK _ _ h
  | some o =>
    rw [ho] at h
    simp only at h ⊢
    by_cases hw : Region.wanted o (yielded ops a.tmps) = true
    · rw [if_pos hw] at h ⊢
      have h1 : o.wp P a w K Q := h.resolve_right (fun e => hLO e.2)
      refine ⟨fun _ _ => trivial, ?_⟩
      show o.uponIn (Fence.wide.inRound l0) n P a K' Q ((o.semAt (some l0) a.eval).run P w)
      rw [Oper.semAt_some l0 a.eval o (fun c => hd o c ho)]
      unfold Oper.wp at h1
      generalize (execOp a.eval o).run P w = r at h1 ⊢
      cases r with
      | ok x w' =>
        cases x with
        | value v => exact hK _ _ h1
        | skip => exact hK _ _ h1
        | defer d => exact hK _ _ h1
        | enter f args =>
          refine ⟨fun e => (by cases e), ?_⟩
          refine CallsIn.inRound l0 (callsIn_wide.2 (Calls.mono h1 ?_))
          intro e w'' he
          cases e with
          | returned v => exact hK _ _ he
          | panicked ch => exact he
          | outgrown => exact he
        | row row args =>
          refine ⟨fun e => (by cases e), ?_⟩
          exact fun c cs _ => let ⟨v, w'', r, s⟩ := h1 c cs; ⟨v, w'', hK _ _ r, stepsIn_wide.2 s⟩
        | _ => exact h1.elim
      | halt x w' =>
        cases x <;> first | exact h1 | exact h1.elim
    · rw [if_neg hw] at h ⊢
      exact ⟨fun _ _ => trivial, hK _ _ h⟩
theorem wpOp_now {i : Nat} {o : Oper} {K : Act → World → Prop} {a : Act} {w : World} (hi : ops[i]? = some o) (hw : Region.wanted o (yielded ops a.tmps) = true) (h : ∀ K' : Act → World → Prop, (∀ a w, K a w → K' a w) → o.wp P a w K' Q) : wpOp P ops Q i K a w := by
  unfold wpOp
  rw [hi]
  simp only
  rw [if_pos hw]
  exact .inl (h K (fun _ _ h => h))
/-- number i first, which yields v into slot d in every world that meets S -/
theorem wpL_take2 {S : World → Prop} {Z : List Nat} {i d : Nat} {oi : Oper} {v : Value} {f : Nat} {l : Array Bool} {a : Act} {w : World} (hi : ops[i]? = some oi) (hdst : oi.dst = some d)
    (hs : Region.noSelect ops = true) (hf : Region.free md ops l i = true) (hr : (Region.ready md ops l).contains i = true)
    (hQ : ∀ c a w, Q (.panic c) (a.put (some d) v) w → Q (.panic c) a w) (hZ : (Z.all fun z => ((ops[z]?).map fun oz => oz.after.any fun e => Region.binds md e && e.on == i).getD false) = true) (hy : YieldsIf P ops S oi v a) (hS : S w)
    (h : wpL P md ops Q S Z f (l.setIfInBounds i true) (a.put (some d) v) w) : wpL P md ops Q S Z (f + 1) l a w :=
  wpL_take hi hs hf hr (by rw [hdst]; exact hQ) hZ hy hS (by rw [hdst]; exact h)
/-- the same, what can be reckoned being reckoned -/
theorem t2 {S : World → Prop} {Z : List Nat} (i d : Nat) (v : Value) {oi : Oper} {f : Nat} {l : Array Bool} {a : Act} {w : World} (hy : ∀ w, S w → (execOp a.eval oi).run P w = .ok (.value v) w) (hS : S w)
    (h : wpL P md ops Q S Z f (l.setIfInBounds i true) (a.put (some d) v) w) (hi : ops[i]? = some oi := by exact rfl)
    (hc : (oi.dst == some d && Region.noSelect ops && Region.free md ops l i && (Region.ready md ops l).contains i && (Z.all fun z => ((ops[z]?).map fun oz => oz.after.any fun e => Region.binds md e && e.on == i).getD false) && Region.wanted oi (yielded ops a.tmps)) = true := by kernel_rfl)
    (hQ : ∀ c a w, Q (.panic c) (a.put (some d) v) w → Q (.panic c) a w := by exact fun _ _ _ h => h) : wpL P md ops Q S Z (f + 1) l a w := by
  simp only [Bool.and_eq_true] at hc
  obtain ⟨⟨⟨⟨⟨h1, h2⟩, h3⟩, h4⟩, h5⟩, h6⟩ := hc
  exact wpL_take2 hi (eq_of_beq h1) h2 h3 h4 hQ h5 (.inl ⟨h6, hy⟩) hS h
theorem t1 {S : World → Prop} {Z : List Nat} (i d : Nat) (v : Value) {oi : Oper} {f : Nat} {l : Array Bool} {a : Act} {w : World} (hS : S w)
    (h : wpL P md ops Q S Z f (l.setIfInBounds i true) (a.put (some d) v) w) (hi : ops[i]? = some oi := by exact rfl)
    (hc : (oi.dst == some d && Region.noSelect ops && Region.free md ops l i && (Region.ready md ops l).contains i && (Z.all fun z => ((ops[z]?).map fun oz => oz.after.any fun e => Region.binds md e && e.on == i).getD false) && Region.wanted oi (yielded ops a.tmps)) = true := by kernel_rfl)
    (hQ : ∀ c a w, Q (.panic c) (a.put (some d) v) w → Q (.panic c) a w := by exact fun _ _ _ h => h) (hy : ∀ w, S w → (execOp a.eval oi).run P w = .ok (.value v) w := by intro _ _; kernel_rfl) : wpL P md ops Q S Z (f + 1) l a w := t2 i d v hy hS h hi hc hQ
theorem t3 {S : World → Prop} {Z : List Nat} (i d : Nat) {oi : Oper} {f : Nat} {l : Array Bool} {a : Act} {w : World} (hS : S w)
    (h : wpL P md ops Q S Z f (l.setIfInBounds i true) (a.put (some d) undef) w) (hi : ops[i]? = some oi := by exact rfl)
    (hc : (oi.dst == some d && Region.noSelect ops && Region.free md ops l i && (Region.ready md ops l).contains i && (Z.all fun z => ((ops[z]?).map fun oz => oz.after.any fun e => Region.binds md e && e.on == i).getD false) && !Region.wanted oi (yielded ops a.tmps)) = true := by kernel_rfl)
    (hQ : ∀ c a w, Q (.panic c) (a.put (some d) undef) w → Q (.panic c) a w := by exact fun _ _ _ h => h) : wpL P md ops Q S Z (f + 1) l a w := by
  simp only [Bool.and_eq_true, Bool.not_eq_true'] at hc
  obtain ⟨⟨⟨⟨⟨h1, h2⟩, h3⟩, h4⟩, h5⟩, h6⟩ := hc
  exact wpL_take2 hi (eq_of_beq h1) h2 h3 h4 hQ h5 (.inr ⟨h6, rfl⟩) hS h
theorem sA {α : Type} (l : List α) (i : Nat) (v : α) : l.toArray.setIfInBounds i v = (l.set i v).toArray := List.setIfInBounds_toArray ..
theorem sB {α : Type} (x : α) (l : List α) (v : α) : (x :: l).set 0 v = v :: l := rfl
theorem sC {α : Type} (x : α) (l : List α) (i : Nat) (v : α) : (x :: l).set (i + 1) v = x :: l.set i v := rfl
/-- a call that alone may come up -/
theorem wpL_call {S : World → Prop} {Z : List Nat} {i d g : Nat} {args : Array Value} {oi : Oper} {f : Nat} {l : Array Bool} {a : Act} {w : World} {R : Value → World → Prop} (hr : Region.ready md ops l = [i]) (hi : ops[i]? = some oi) (hdst : oi.dst = some d)
    (hw : Region.wanted oi (yielded ops a.tmps) = true) (hrun : (execOp a.eval oi).run P w = .ok (.enter g args) w) (hc : Calls P g args w fun e w' => ∃ v, e = .returned v ∧ R v w') (hS : ∀ v w', R v w' → S w')
    (h : ∀ v w', R v w' → wpL P md ops Q S Z f (l.setIfInBounds i true) (a.put (some d) v) w') : wpL P md ops Q S Z (f + 1) l a w := by
  refine wpL_one hr (wpOp_now hi hw (fun K' hK => ?_))
  unfold Oper.wp
  rw [hrun, Oper.upon_enter]
  refine hc.mono ?_
  rintro e w' ⟨v, rfl, hR⟩
  refine hK _ _ ⟨fun _ => hS v w' hR, ?_⟩
  rw [hdst]
  exact h v w' hR
theorem any_in (hLO : ¬ LetsOut Q) (hd : ∀ (j : Nat) o c, ops[j]? = some o → o.op ≠ .defer c) : ∀ (f : Nat) (l : Array Bool) (a : Act) (w : World), wpAny P md ops Q f l a w → wpAnyIn (Fence.wide.inRound l0) n P md ops Q f l a w
  | 0, _, _, _, h => h
  | f + 1, _, _, _, h => ⟨h.1, fun j hj => op_in hLO (fun a w hh => any_in hLO hd f _ a w hh) (hd j) (h.2 j hj)⟩
/-- S is kept by all; what a round leaves -/
theorem region_in {S : World → Prop} {id : Nat} {a : Act} {w : World} (hm : P.follows .mixedOrders = true) (hLO : ¬ LetsOut Q) (hd : (ops.all fun o => match o.op with | .defer _ => false | _ => true) = true) (h : wpL P .any ops Q S [] ops.size (Array.replicate ops.size false) a w.drew) :
    (Code.region id ops true).wpIn (Fence.wide.inRound l0) n P Q a w :=
  wpIn_region_any hm (any_in hLO (fun j o c ho e => by
    have h1 := Array.all_eq_true.1 hd j (Array.getElem?_eq_some_iff.1 ho).1
    rw [(Array.getElem?_eq_some_iff.1 ho).2, e] at h1
    cases h1) _ _ _ _ (wpL_any _ _ _ _ h))
end

theorem wpL_store {P : Program} {ops : Array Oper} {Q : Exit → Act → World → Prop} {md : Region.Mode} {S : World → Prop} {Z : List Nat} {i : Nat} {oi : Oper} {f : Nat} {l : Array Bool} {a : Act} {w : World} (g : Nat) (cells old : Array Value) (t ty : TypeId) (x y : Operand) (hr : Region.ready md ops l = [i]) (hi : ops[i]? = some oi) (hw : Region.wanted oi (yielded ops a.tmps) = true) (hdst : oi.dst = none)
    (ho : oi.op = .store ty x y) (hx : a.eval x = .pointer (some ⟨g, 0, none⟩)) (hy : a.eval y = .agg cells) (hg : w.heap[g]? = some (.cells old t (0, 0))) (hin : (P.info? ty).map (·.size) = some cells.size)
    (hold : old.size = cells.size) (h1 : cells.all (·.oneCell') = true)
    (h : ∀ w', w'.heap[g]? = some (.cells cells t (0, 0)) → w.grownBy w' (some g) → S w' ∧ wpL P md ops Q S Z f (l.setIfInBounds i true) a w') : wpL P md ops Q S Z (f + 1) l a w := by
  refine wpL_one hr (wpOp_now hi hw (fun K' hK => ?_))
  refine wp_store_row ty x y ho g cells hx hy t old hg hin hold h1 (hK _ _ ?_)
  have h2 := h (w.setRow g cells) (by simp [World.setRow, Array.getElem?_modify, hg]) (by
    refine ⟨rfl, rfl, rfl, by simp [World.setRow], fun k _ hk => ?_⟩
    have hne : g ≠ k := fun e => hk (by rw [e])
    simp [World.setRow, Array.getElem?_modify, hne])
  rw [hdst]
  exact ⟨fun _ => h2.1, h2.2⟩
section
variable {P : Program} {ops : Array Oper} {Q : Exit → Act → World → Prop} {md : Region.Mode} {S : World → Prop} {Z : List Nat}
/-- two may come up -/
theorem wpL_both {i j : Nat} {f : Nat} {l : Array Bool} {a : Act} {w : World} (hr : Region.ready md ops l = [i, j])
    (h1 : wpOp P ops Q i (fun a' w' => (i ∉ Z → S w') ∧ wpL P md ops Q S Z f (l.setIfInBounds i true) a' w') a w) (h2 : wpOp P ops Q j (fun a' w' => (j ∉ Z → S w') ∧ wpL P md ops Q S Z f (l.setIfInBounds j true) a' w') a w) : wpL P md ops Q S Z (f + 1) l a w :=
  ⟨fun h0 => (by rw [hr] at h0; exact absurd h0 (by simp)), fun k hk => (by
    rw [hr] at hk
    rcases List.mem_cons.1 hk with rfl | hk
    · exact h1
    · obtain rfl := List.mem_singleton.1 hk; exact h2)⟩
theorem wpOp_call {i d g : Nat} {args : Array Value} {oi : Oper} {a : Act} {w : World} {R : Value → World → Prop} {K : Act → World → Prop} (hi : ops[i]? = some oi) (hdst : oi.dst = some d)
    (hw : Region.wanted oi (yielded ops a.tmps) = true) (hrun : (execOp a.eval oi).run P w = .ok (.enter g args) w) (hc : Calls P g args w fun e w' => ∃ v, e = .returned v ∧ R v w') (h : ∀ v w', R v w' → K (a.put (some d) v) w') : wpOp P ops Q i K a w := by
  refine wpOp_now hi hw (fun K' hK => ?_)
  unfold Oper.wp
  rw [hrun, Oper.upon_enter]
  refine hc.mono ?_
  rintro e w' ⟨v, rfl, hR⟩
  refine hK _ _ ?_
  rw [hdst]
  exact h v w' hR
theorem wpOp_val {i d : Nat} {oi : Oper} {v : Value} {a : Act} {w w' : World} {K : Act → World → Prop} (hi : ops[i]? = some oi) (hdst : oi.dst = some d)
    (hw : Region.wanted oi (yielded ops a.tmps) = true) (hrun : (execOp a.eval oi).run P w = .ok (.value v) w') (h : K (a.put (some d) v) w') : wpOp P ops Q i K a w := by
  refine wpOp_now hi hw (fun K' hK => ?_)
  unfold Oper.wp
  rw [hrun, Oper.upon_value]
  refine hK _ _ ?_
  rw [hdst]
  exact h
theorem wpL_val {i d : Nat} {oi : Oper} {v : Value} {f : Nat} {l : Array Bool} {a : Act} {w w' : World} (hr : Region.ready md ops l = [i]) (hi : ops[i]? = some oi) (hdst : oi.dst = some d)
    (hw : Region.wanted oi (yielded ops a.tmps) = true) (hrun : (execOp a.eval oi).run P w = .ok (.value v) w') (hS : S w') (h : wpL P md ops Q S Z f (l.setIfInBounds i true) (a.put (some d) v) w') : wpL P md ops Q S Z (f + 1) l a w :=
  wpL_one hr (wpOp_val hi hdst hw hrun ⟨fun _ => hS, h⟩)
end
theorem grown_setRow (w : World) (g : Nat) (cs : Array Value) : w.grownBy (w.setRow g cs) (some g) := by
  refine ⟨rfl, rfl, rfl, by simp [World.setRow], fun k _ hk => ?_⟩
  have hne : g ≠ k := fun e => hk (by rw [e])
  simp [World.setRow, Array.getElem?_modify, hne]
end Go.Proofs.YtdhgopcfjomjaaaDoor
