/- Package code: a list of numbers is read. -/
import Derived.Test.YtcjainfcndlllaaCgG
namespace Go.Proofs.Ytcjainfcndlllaa
open Go.RowKit Go.Maps Go.WideMaps

theorem info_int : (Try.prog.info? 3).map (fun i => (i.zero, i.size, i.bytes)) = some (some (.int .i64 0), 1, 8) := by kernel_rfl
theorem Rn.by_ {M : Nat} {w w' : World} {row : Option Nat} {A B : Nat} {l : List UInt8} {p : Nat} (h : Rn M w A B l p) (hg : w.grownBy w' row) (hr : ∀ k, row = some k → k ≠ A ∧ k ≠ B ∧ M ≤ k) : Rn M w' A B l p :=
  h.kp (X := row.toList) (Kp.of hg _ (fun k e _ => by rw [e]; simp)) (fun hx => (hr A (by simpa using hx)).1 rfl) (fun hx => (hr B (by simpa using hx)).2.1 rfl) (fun x hx => (hr x (by simpa using hx)).2.2)
/-- what list leaves -/
def LiP (M : Nat) (w : World) (A B : Nat) (l : List UInt8) (p : Nat) (n most : Int) (e : Ending) (w' : World) : Prop := w.grownBy w' (some A) ∧ ∃ q, Rn M w' A B l q ∧ match (if n < 0 ∨ most < n then none else Cd.rdN n.toNat (l.drop p)) with
  | none => e = .returned (.tuple #[.slice none 0 0, .bool false])
  | some (ns, r) => ∃ v, e = .returned (.tuple #[v, .bool true]) ∧ w'.ownsRow w.heap.size 3 1 v ns.length (ns.map (Value.int .i64)) ∧ l.drop q = r

set_option maxHeartbeats 4000000 in
set_option maxRecDepth 100000 in
theorem listInt_any (M : Nat) (w : World) (A B : Nat) (l : List UInt8) (p : Nat) (n most : Int) (hl : l.length ≤ 4000000) (hm : most ≤ 60000) (hR : Rn M w A B l p) :
    Calls Try.prog 38 #[.int .i64 n, .int .i64 most, .func (.func 63) #[] #[.pointer (some ⟨A, 0, none⟩), .pointer (some ⟨B, 0, none⟩)]] w (LiP M w A B l p n most) := by
  by_cases hbad : n < 0 ∨ most < n
  · have HF : Hid (LiP M w A B l p n most (.returned (.tuple #[.slice none 0 0, .bool false])) w) := Lib.hid ⟨World.grownBy.refl _ _, p, hR, by rw [if_pos hbad]⟩
    clear hR
    by_cases h0 : n < 0
    · have d0 : decide (n < 0) = true := by simpa using h0
      go_enter Try.func38, Try.ntmps38
      go_wp2
      go_ret2
      exact HF.out
    · have d0 : decide (n < 0) = false := by simpa using h0
      have d1 : decide (most < n) = true := by rw [decide_eq_true_iff]; omega
      go_enter Try.func38, Try.ntmps38
      go_wp2
      go_ret2
      exact HF.out
  · obtain ⟨N, rfl⟩ : ∃ N : Nat, n = N := ⟨n.toNat, by omega⟩
    have hN : N ≤ 60000 := by omega
    have d0 : decide ((N : Int) < 0) = false := by rw [decide_eq_false_iff_not]; omega
    have d1 : decide (most < (N : Int)) = false := by rw [decide_eq_false_iff_not]; omega
    obtain ⟨i0, hi, hz0, hzs, hzb⟩ := info_parts info_int
    have HNM := fun q V (h : Rn M V A B l q) => number_any M A B l q hl V h
    have HBD := Lib.hid hbad
    have HA := Lib.hid (show A < w.heap.size ∧ B < w.heap.size from ⟨gl hR.at_, by obtain ⟨a, c, h1, -⟩ := hR.box; exact gl h1⟩)
    have HR := Lib.hid hR
    clear hbad hR
    go_enter Try.func38, Try.ntmps38
    go_wp2
    go_loopw [8, 19] (fun bv iv wr => ∃ t : Nat, t ≤ N ∧ iv = .int .i64 (t : Int) ∧ Hid (∃ q ns r, w.grownBy wr (some A) ∧ Rn M wr A B l q ∧ wr.ownsRow w.heap.size 3 1 bv ns.length (ns.map (Value.int .i64)) ∧ Cd.rdN t (l.drop p) = some (ns, r) ∧ l.drop q = r)) (fun _ i _ => N - (intOf i).toNat)
    case atStart => exact ⟨0, Nat.zero_le _, rfl, Lib.hid ⟨p, [], _, World.grownBy.refl _ _, HR.out, World.ownsRow_nil _ _ _ _, rfl, rfl⟩⟩
    case round =>
      obtain ⟨t, ht, rfl, HT⟩ := hrel
      obtain ⟨q, ns, r, t1, t2, t3, t4, t5⟩ := HT.out
      clear HT
      obtain ⟨a1, c1, hbv, -⟩ := NumsAt.own t3
      subst hbv
      have hns := rdN_len _ _ _ _ t4
      by_cases hlt : t < N
      · have hnum := HNM q wr t2
        cases h1 : Cd.rd1 (l.drop q) with
        | none =>
          have HF : Hid (∀ V, wr.grownBy V (some A) → ∀ q', Rn M V A B l q' → LiP M w A B l p N most (.returned (.tuple #[.slice none 0 0, .bool false])) V) := Lib.hid (fun V hg q' hr => ⟨t1.trans hg, q', hr, by
            have e : Cd.rdN N (l.drop p) = none := by
              rw [show N = t + (N - t - 1 + 1) by omega, rdN_up, t4]
              simp only
              rw [← t5, Cd.rdN, h1]
              rfl
            rw [if_neg HBD.out, Int.toNat_natCast, e]⟩)
          have hnum' : Calls Try.prog 63 #[.pointer (some ⟨A, 0, none⟩), .pointer (some ⟨B, 0, none⟩)] wr fun e w' => e = .returned (.tuple #[.int .i64 0, .bool false]) ∧ wr.grownBy w' (some A) ∧ ∃ q', Rn M w' A B l q' := hnum.mono fun e w' H => by
            obtain ⟨hg, q', hr, hm⟩ := H
            rw [h1] at hm
            exact ⟨hm, hg, q', hr⟩
          clear hnum t1 t2 t3 t4 t5 hns
          go_wp2_with (go_at_call 63; refine hnum'.mono ?_; rintro e V ⟨rfl, hg, q', hr⟩; have HV := Lib.hid (HF.out V hg q' hr); clear hg hr)
          go_ret2
          exact HV.out
        | some x =>
          obtain ⟨m, r2⟩ := x
          have hnum' : Calls Try.prog 63 #[.pointer (some ⟨A, 0, none⟩), .pointer (some ⟨B, 0, none⟩)] wr fun e w' => e = .returned (.tuple #[.int .i64 m, .bool true]) ∧ wr.grownBy w' (some A) ∧ ∃ q', Rn M w' A B l q' ∧ l.drop q' = r2 := hnum.mono fun e w' H => by
            obtain ⟨hg, q', hr, hm⟩ := H
            rw [h1] at hm
            exact ⟨hm.1, hg, q', hr, hm.2⟩
          have HU := Lib.hid (And.intro t1 (And.intro t3 (And.intro t4 (And.intro t5 hns))))
          clear hnum t1 t2 t3 t4 t5 hns
          go_wp2_with (first | (go_at_call 63; refine hnum'.mono ?_; rintro e V ⟨rfl, hg, q', hr, hq⟩; have HV := Lib.hid (And.intro hg (And.intro hr hq)); clear hg hr hq) | (at_builtin; refine Hid.out ?_))
          refine Lib.hid ?_
          have hown2 : V.ownsRow w.heap.size 3 1 (.slice a1 ns.length c1) ns.length (ns.map (Value.int .i64)) := HU.out.2.1.kept HV.out.1 (.inr (fun e => by
            have h2 := (HU.out.2.1.lt A e).1
            have h3 := HA.out
            omega))
          have hz1 := hown2.alloc (.cells #[.int .i64 m] 3)
          have HLN := Lib.hid (show ns.length ≤ 60000 by have := HU.out.2.2.2.2; omega)
          refine wpList_append_own_at _ rfl _ _ 22 rfl w.heap.size 3 i0 _ 1 8 Try.underlying22 hi hz0 hzs hzb rfl (by decide) _ ns.length (ns.map (Value.int .i64)) rfl hz1 ⟨V.heap.size, 0, none⟩ 1 1 [.int .i64 m] rfl rfl (row_cells (heap_alloc_new V _)) (by intro u hu; simp at hu; subst hu; rfl) (by have := HLN.out; unfold maxLen; omega) (by have := HLN.out; omega) (by have h1 := HU.out.1.size; have h2 := HV.out.1.size; rw [World.size_alloc]; omega) ?_
          intro v' w3 hown' hgr _ hat
          have HF : Hid (∃ q ns' r, w.grownBy w3 (some A) ∧ Rn M w3 A B l q ∧ w3.ownsRow w.heap.size 3 1 v' ns'.length (ns'.map (Value.int .i64)) ∧ Cd.rdN (t + 1) (l.drop p) = some (ns', r) ∧ l.drop q = r) := Lib.hid (by
            refine ⟨q', ns ++ [m], r2, ?_, ?_, ?_, ?_, HV.out.2.2⟩
            · have h1 : w.grownBy (V.alloc (.cells #[.int .i64 m] 3)) (some A) := (HU.out.1.trans HV.out.1).trans ⟨rfl, rfl, rfl, by rw [World.size_alloc]; omega, fun k hk _ => (World.grownBy_alloc V _ none).block k hk (by simp)⟩
              refine ⟨hgr.os.trans h1.os, hgr.tape.trans h1.tape, hgr.output.trans h1.output, Nat.le_trans h1.size hgr.size, fun k hk hne => ?_⟩
              rw [hgr.block k (Nat.lt_of_lt_of_le hk h1.size) (fun e => by have := (hz1.lt k e.symm).1; omega), h1.block k hk hne]
            · have h1 := HV.out.2.1.on (World.grownBy_alloc V (.cells #[.int .i64 m] 3) none)
              refine h1.by_ hgr (fun k e => ?_)
              have h2 := (hz1.lt k e).1
              have h3 := HA.out
              have h4 := HR.out.hA
              exact ⟨by omega, by omega, by omega⟩
            · have e1 : ns.map (Value.int .i64) ++ [Value.int .i64 m] = (ns ++ [m]).map (Value.int .i64) := by simp
              have e2 : ns.length + 1 = (ns ++ [m]).length := by simp
              rw [← e1, ← e2]
              exact hown'
            · rw [rdN_up, HU.out.2.2.1]
              simp only
              rw [← HU.out.2.2.2.1, Cd.rdN, h1]
              rfl)
          clear hown' hgr hat hz1 hown2
          go_wp2
          exact ⟨⟨t + 1, by omega, by go_num, HF⟩, by simp [intOf]; omega⟩
      · obtain rfl : t = N := by omega
        have HF : Hid (LiP M w A B l p t most (.returned (.tuple #[.slice a1 ns.length c1, .bool true])) wr) := Lib.hid ⟨t1, q, t2, by
          rw [if_neg HBD.out, Int.toNat_natCast, t4]
          exact ⟨_, rfl, t3, t5⟩⟩
        clear t1 t2 t3 t4 t5
        go_wp2
        go_ret2
        exact HF.out
end Go.Proofs.Ytcjainfcndlllaa
