/- Package code: a list of instructions is read. -/
import Derived.Test.YtcjainfcndlllaaCgH
namespace Go.Proofs.Ytcjainfcndlllaa
open Go.RowKit Go.Maps Go.WideMaps

namespace Cd
/-- one instruction -/
def rdX (l : List UInt8) : Option (Ins × List UInt8) := match rdN 3 l with
  | some ([a, b, c], r) => some (⟨a, b, c⟩, r)
  | _ => none
def rdI : Nat → List UInt8 → Option (List Ins × List UInt8)
  | 0, l => some ([], l)
  | k + 1, l => match rdX l with
    | none => none
    | some (x, r) => (rdI k r).map fun y => (x :: y.1, y.2)
end Cd
theorem rdI_up : ∀ (t : Nat) (l : List UInt8) (k : Nat), Cd.rdI (t + k) l = match Cd.rdI t l with | none => none | some (ns, r) => (Cd.rdI k r).map fun x => (ns ++ x.1, x.2)
  | 0, l, k => by
    rw [Nat.zero_add]
    show Cd.rdI k l = (Cd.rdI k l).map fun x => ([] ++ x.1, x.2)
    cases Cd.rdI k l <;> rfl
  | t + 1, l, k => by
    rw [show t + 1 + k = (t + k) + 1 by omega, Cd.rdI, Cd.rdI]
    cases Cd.rdX l with
    | none => rfl
    | some x =>
      obtain ⟨n, r⟩ := x
      simp only
      rw [rdI_up t r k]
      cases Cd.rdI t r with
      | none => rfl
      | some y =>
        obtain ⟨ns, r2⟩ := y
        simp only [Option.map_some]
        cases Cd.rdI k r2 <;> rfl
theorem rdI_len : ∀ (t : Nat) (l : List UInt8) (ns : List Cd.Ins) (r : List UInt8), Cd.rdI t l = some (ns, r) → ns.length = t
  | 0, _, _, _, h => by cases h; rfl
  | t + 1, l, ns, r, h => by
    rw [Cd.rdI] at h
    cases h1 : Cd.rdX l with
    | none => rw [h1] at h; cases h
    | some x =>
      rw [h1] at h
      simp only at h
      cases h2 : Cd.rdI t x.2 with
      | none => rw [h2] at h; cases h
      | some y =>
        rw [h2] at h
        cases h
        simp [rdI_len t _ _ _ h2]
theorem info_ins : (Try.prog.info? 33).map (fun i => (i.zero, i.size, i.bytes)) = some (some (.agg #[.int .i64 0, .int .i64 0, .int .i64 0]), 3, 24) := by kernel_rfl
theorem insC_up (l : List Cd.Ins) (x : Cd.Ins) : insC (l ++ [x]) = insC l ++ [Value.int .i64 x.op, .int .i64 x.n, .int .i64 x.k] := by simp [insC]
/-- what list leaves -/
def LxP (M : Nat) (w : World) (A B : Nat) (l : List UInt8) (p : Nat) (n most : Int) (e : Ending) (w' : World) : Prop := w.grownBy w' (some A) ∧ ∃ q, Rn M w' A B l q ∧ match (if n < 0 ∨ most < n then none else Cd.rdI n.toNat (l.drop p)) with
  | none => e = .returned (.tuple #[.slice none 0 0, .bool false])
  | some (ns, r) => ∃ v, e = .returned (.tuple #[v, .bool true]) ∧ w'.ownsRow w.heap.size 33 3 v ns.length (insC ns) ∧ l.drop q = r

set_option maxHeartbeats 4000000 in
set_option maxRecDepth 100000 in
theorem listIns_any (M : Nat) (w : World) (A B : Nat) (l : List UInt8) (p : Nat) (n most : Int) (hl : l.length ≤ 4000000) (hm : most ≤ 60000) (hR : Rn M w A B l p) (hMw : M ≤ w.heap.size) :
    Calls Try.prog 39 #[.int .i64 n, .int .i64 most, .func (.func 40) #[.agg (rdV A B)] #[]] w (LxP M w A B l p n most) := by
  by_cases hbad : n < 0 ∨ most < n
  · have HF : Hid (LxP M w A B l p n most (.returned (.tuple #[.slice none 0 0, .bool false])) w) := Lib.hid ⟨World.grownBy.refl _ _, p, hR, by rw [if_pos hbad]⟩
    clear hR
    by_cases h0 : n < 0
    · have d0 : decide (n < 0) = true := by simpa using h0
      go_enter Try.func39, Try.ntmps39
      go_wp2
      go_ret2
      exact HF.out
    · have d0 : decide (n < 0) = false := by simpa using h0
      have d1 : decide (most < n) = true := by rw [decide_eq_true_iff]; omega
      go_enter Try.func39, Try.ntmps39
      go_wp2
      go_ret2
      exact HF.out
  · obtain ⟨N, rfl⟩ : ∃ N : Nat, n = N := ⟨n.toNat, by omega⟩
    have hN : N ≤ 60000 := by omega
    have d0 : decide ((N : Int) < 0) = false := by rw [decide_eq_false_iff_not]; omega
    have d1 : decide (most < (N : Int)) = false := by rw [decide_eq_false_iff_not]; omega
    obtain ⟨i0, hi, hz0, hzs, hzb⟩ := info_parts info_ins
    have HNM := fun q V (h : Rn M V A B l q) (hv : M ≤ V.heap.size) => instruction_any M V A B l q hl h hv
    have HBD := Lib.hid hbad
    have HA := Lib.hid (show A < w.heap.size ∧ B < w.heap.size from ⟨gl hR.at_, by obtain ⟨a, c, h1, -⟩ := hR.box; exact gl h1⟩)
    have HR := Lib.hid hR
    have HMW := Lib.hid hMw
    clear hbad hR hMw
    go_enter Try.func39, Try.ntmps39
    go_wp2
    go_loopw [8, 19] (fun bv iv wr => ∃ t : Nat, t ≤ N ∧ iv = .int .i64 (t : Int) ∧ Hid (∃ q ns r, w.grownBy wr (some A) ∧ Rn M wr A B l q ∧ wr.ownsRow w.heap.size 33 3 bv ns.length (insC ns) ∧ Cd.rdI t (l.drop p) = some (ns, r) ∧ l.drop q = r)) (fun _ i _ => N - (intOf i).toNat)
    case atStart => exact ⟨0, Nat.zero_le _, rfl, Lib.hid ⟨p, [], _, World.grownBy.refl _ _, HR.out, World.ownsRow_nil _ _ _ _, rfl, rfl⟩⟩
    case round =>
      obtain ⟨t, ht, rfl, HT⟩ := hrel
      obtain ⟨q, ns, r, t1, t2, t3, t4, t5⟩ := HT.out
      clear HT
      obtain ⟨a1, c1, hbv, -⟩ := InssAt.own t3
      subst hbv
      have hns := rdI_len _ _ _ _ t4
      by_cases hlt : t < N
      · have hnum := HNM q wr t2 (Nat.le_trans HMW.out t1.size)
        have hno : Cd.rdX (l.drop q) = none → Cd.rdI N (l.drop p) = none := fun h1 => by
          rw [show N = t + (N - t - 1 + 1) by omega, rdI_up, t4]
          simp only
          rw [← t5, Cd.rdI, h1]
          rfl
        cases h1 : Cd.rdN 3 (l.drop q) with
        | none =>
          have HF : Hid (∀ V, wr.grownBy V (some A) → ∀ q', Rn M V A B l q' → LxP M w A B l p N most (.returned (.tuple #[.slice none 0 0, .bool false])) V) := Lib.hid (fun V hg q' hr => ⟨t1.trans hg, q', hr, by rw [if_neg HBD.out, Int.toNat_natCast, hno (by unfold Cd.rdX; rw [h1])]⟩)
          have hnum' : Calls Try.prog 40 #[.agg (rdV A B)] wr fun e w' => ∃ a b c : Int, e = .returned (.tuple #[.agg #[.int .i64 a, .int .i64 b, .int .i64 c], .bool false]) ∧ wr.grownBy w' (some A) ∧ ∃ q', Rn M w' A B l q' := hnum.mono fun e w' H => by
            obtain ⟨hg, q', hr, hm⟩ := H
            rw [h1] at hm
            obtain ⟨a, b, c, hm⟩ := hm
            exact ⟨a, b, c, hm, hg, q', hr⟩
          clear hnum t1 t2 t3 t4 t5 hns hno
          go_wp2_with (go_at_call 40; refine hnum'.mono ?_; rintro e V ⟨xa, xb, xc, rfl, hg, q', hr⟩; have HV := Lib.hid (HF.out (V.alloc (.cells #[.int .i64 xa, .int .i64 xb, .int .i64 xc] 33)) (hg.trans ⟨rfl, rfl, rfl, (by rw [World.size_alloc]; omega), fun k hk _ => (World.grownBy_alloc V _ none).block k hk (by simp)⟩) q' (hr.on (World.grownBy_alloc V _ none))); clear hg hr)
          go_ret2
          exact HV.out
        | some x =>
          obtain ⟨xs, r2⟩ := x
          obtain ⟨xa, xb, xc, rfl⟩ : ∃ a b c, xs = [a, b, c] := by
            have := rdN_len _ _ _ _ h1
            match xs, this with
            | [a, b, c], _ => exact ⟨a, b, c, rfl⟩
          have hnum' : Calls Try.prog 40 #[.agg (rdV A B)] wr fun e w' => e = .returned (.tuple #[.agg #[.int .i64 xa, .int .i64 xb, .int .i64 xc], .bool true]) ∧ wr.grownBy w' (some A) ∧ ∃ q', Rn M w' A B l q' ∧ l.drop q' = r2 := hnum.mono fun e w' H => by
            obtain ⟨hg, q', hr, hm⟩ := H
            rw [h1] at hm
            exact ⟨hm.1, hg, q', hr, hm.2⟩
          have HU := Lib.hid (And.intro t1 (And.intro t3 (And.intro t4 (And.intro t5 hns))))
          clear hnum t1 t2 t3 t4 t5 hns hno
          go_wp2_with (first | (go_at_call 40; refine hnum'.mono ?_; rintro e V ⟨rfl, hg, q', hr, hq⟩; have HV := Lib.hid (And.intro hg (And.intro hr hq)); clear hg hr hq) | (at_builtin; refine Hid.out ?_))
          refine Lib.hid ?_
          have hown2 : V.ownsRow w.heap.size 33 3 (.slice a1 ns.length c1) ns.length (insC ns) := HU.out.2.1.kept HV.out.1 (.inr (fun e => by
            have h2 := (HU.out.2.1.lt A e).1
            have h3 := HA.out
            omega))
          have hz1 := (hown2.alloc (.cells #[.int .i64 xa, .int .i64 xb, .int .i64 xc] 33)).alloc (.cells #[.int .i64 xa, .int .i64 xb, .int .i64 xc] 33)
          have HLN := Lib.hid (show ns.length ≤ 60000 by have := HU.out.2.2.2.2; omega)
          have hrow := heap_alloc_new (V.alloc (.cells #[.int .i64 xa, .int .i64 xb, .int .i64 xc] 33)) (.cells #[.int .i64 xa, .int .i64 xb, .int .i64 xc] 33)
          rw [World.size_alloc] at hrow
          refine wpList_append_own_at _ rfl _ _ 23 rfl w.heap.size 33 i0 _ 3 24 Try.underlying23 hi hz0 hzs hzb rfl (by decide) _ ns.length (insC ns) rfl hz1 ⟨V.heap.size + 1, 0, none⟩ 1 1 [.int .i64 xa, .int .i64 xb, .int .i64 xc] rfl rfl (row_cells hrow) (by intro u hu; simp at hu; rcases hu with rfl | rfl | rfl <;> rfl) (by have := HLN.out; unfold maxLen; omega) (by have := HLN.out; omega) (by have h1 := HU.out.1.size; have h2 := HV.out.1.size; rw [World.size_alloc, World.size_alloc]; omega) ?_
          intro v' w3 hown' hgr _ hat
          have HF : Hid (∃ q ns' r, w.grownBy w3 (some A) ∧ Rn M w3 A B l q ∧ w3.ownsRow w.heap.size 33 3 v' ns'.length (insC ns') ∧ Cd.rdI (t + 1) (l.drop p) = some (ns', r) ∧ l.drop q = r) := Lib.hid (by
            have hga := (World.grownBy_alloc V (.cells #[.int .i64 xa, .int .i64 xb, .int .i64 xc] 33) none).trans (World.grownBy_alloc _ (.cells #[.int .i64 xa, .int .i64 xb, .int .i64 xc] 33) none)
            refine ⟨q', ns ++ [⟨xa, xb, xc⟩], r2, ?_, ?_, ?_, ?_, HV.out.2.2⟩
            · have h1 : w.grownBy ((V.alloc (.cells #[.int .i64 xa, .int .i64 xb, .int .i64 xc] 33)).alloc (.cells #[.int .i64 xa, .int .i64 xb, .int .i64 xc] 33)) (some A) := (HU.out.1.trans HV.out.1).trans ⟨hga.os, hga.tape, hga.output, hga.size, fun k hk _ => hga.block k hk (by simp)⟩
              refine ⟨hgr.os.trans h1.os, hgr.tape.trans h1.tape, hgr.output.trans h1.output, Nat.le_trans h1.size hgr.size, fun k hk hne => ?_⟩
              rw [hgr.block k (Nat.lt_of_lt_of_le hk h1.size) (fun e => by have := (hz1.lt k e.symm).1; omega), h1.block k hk hne]
            · have h1 := HV.out.2.1.on hga
              refine h1.by_ hgr (fun k e => ?_)
              have h2 := (hz1.lt k e).1
              have h3 := HA.out
              have h4 := HR.out.hA
              exact ⟨by omega, by omega, by omega⟩
            · have e2 : ns.length + 1 = (ns ++ [(⟨xa, xb, xc⟩ : Cd.Ins)]).length := by simp
              rw [insC_up, ← e2]
              exact hown'
            · rw [rdI_up, HU.out.2.2.1]
              simp only
              rw [← HU.out.2.2.2.1, Cd.rdI]
              unfold Cd.rdX
              rw [h1]
              rfl)
          clear hown' hgr hat hz1 hown2 hrow
          go_wp2
          exact ⟨⟨t + 1, by omega, by go_num, HF⟩, by simp [intOf]; omega⟩
      · obtain rfl : t = N := by omega
        have HF : Hid (LxP M w A B l p t most (.returned (.tuple #[.slice a1 ns.length c1, .bool true])) wr) := Lib.hid ⟨t1, q, t2, by
          rw [if_neg HBD.out, Int.toNat_natCast, t4]
          exact ⟨_, rfl, t3, t5⟩⟩
        clear t1 t2 t3 t4 t5
        go_wp2
        go_ret2
        exact HF.out
end Go.Proofs.Ytcjainfcndlllaa
