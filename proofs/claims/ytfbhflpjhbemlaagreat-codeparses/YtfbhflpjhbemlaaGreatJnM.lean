/- Texts joined: CgI, CgJ, CgK, CgL. -/
import Derived.Test.YtfbhflpjhbemlaaGreatJnL
/- Package code: a list of instructions is read. -/
namespace Go.Proofs.YtfbhflpjhbemlaaGreat
open Go.RowKit Go.Maps Go.WideMaps

namespace Cd
/-- one instruction -/
def rdX (l : List UInt8) : Option (Ins × List UInt8) := match rdN 3 l with
  | some ([a, b, c], r) => some (⟨a, b, c⟩, r)
  | _ => none
def rdI : Nat → List UInt8 → Option (List Ins × List UInt8)
  | 0, l => some ([], l)
  | k + 1, l => match rdX l with
    | none => none
    | some (x, r) => (rdI k r).map fun y => (x :: y.1, y.2)
end Cd
theorem rdI_up : ∀ (t : Nat) (l : List UInt8) (k : Nat), Cd.rdI (t + k) l = match Cd.rdI t l with | none => none | some (ns, r) => (Cd.rdI k r).map fun x => (ns ++ x.1, x.2)
  | 0, l, k => by
    rw [Nat.zero_add]
    show Cd.rdI k l = (Cd.rdI k l).map fun x => ([] ++ x.1, x.2)
    cases Cd.rdI k l <;> rfl
  | t + 1, l, k => by
    rw [show t + 1 + k = (t + k) + 1 by omega, Cd.rdI, Cd.rdI]
    cases Cd.rdX l with
    | none => rfl
    | some x =>
      obtain ⟨n, r⟩ := x
      simp only
      rw [rdI_up t r k]
      cases Cd.rdI t r with
      | none => rfl
      | some y =>
        obtain ⟨ns, r2⟩ := y
        simp only [Option.map_some]
        cases Cd.rdI k r2 <;> rfl
theorem rdI_len : ∀ (t : Nat) (l : List UInt8) (ns : List Cd.Ins) (r : List UInt8), Cd.rdI t l = some (ns, r) → ns.length = t
  | 0, _, _, _, h => by cases h; rfl
  | t + 1, l, ns, r, h => by
    rw [Cd.rdI] at h
    cases h1 : Cd.rdX l with
    | none => rw [h1] at h; cases h
    | some x =>
      rw [h1] at h
      simp only at h
      cases h2 : Cd.rdI t x.2 with
      | none => rw [h2] at h; cases h
      | some y =>
        rw [h2] at h
        cases h
        simp [rdI_len t _ _ _ h2]
theorem info_ins : (Tryz.prog.info? 32).map (fun i => (i.zero, i.size, i.bytes)) = some (some (.agg #[.int .i64 0, .int .i64 0, .int .i64 0]), 3, 24) := by kernel_rfl
theorem insC_up (l : List Cd.Ins) (x : Cd.Ins) : insC (l ++ [x]) = insC l ++ [Value.int .i64 x.op, .int .i64 x.n, .int .i64 x.k] := by simp [insC]
/-- what list leaves -/
def LxP (M : Nat) (w : World) (A B : Nat) (l : List UInt8) (p : Nat) (n most : Int) (e : Ending) (w' : World) : Prop := w.grownBy w' (some A) ∧ ∃ q, Rn M w' A B l q ∧ match (if n < 0 ∨ most < n then none else Cd.rdI n.toNat (l.drop p)) with
  | none => e = .returned (.tuple #[.slice none 0 0, .bool false])
  | some (ns, r) => ∃ v, e = .returned (.tuple #[v, .bool true]) ∧ w'.ownsRow w.heap.size 32 3 v ns.length (insC ns) ∧ l.drop q = r

set_option maxHeartbeats 4000000 in
set_option maxRecDepth 100000 in
theorem listIns_any (M : Nat) (w : World) (A B : Nat) (l : List UInt8) (p : Nat) (n most : Int) (hl : l.length ≤ 4000000) (hm : most ≤ 60000) (hR : Rn M w A B l p) (hMw : M ≤ w.heap.size) :
    Calls Tryz.prog 25 #[.int .i64 n, .int .i64 most, .func (.func 26) #[.agg (rdV A B)] #[]] w (LxP M w A B l p n most) := by
  by_cases hbad : n < 0 ∨ most < n
  · have HF : Hid (LxP M w A B l p n most (.returned (.tuple #[.slice none 0 0, .bool false])) w) := Lib.hid ⟨World.grownBy.refl _ _, p, hR, by rw [if_pos hbad]⟩
    clear hR
    by_cases h0 : n < 0
    · have d0 : decide (n < 0) = true := by simpa using h0
      go_enter Tryz.func25, Tryz.ntmps25
      go_wp2
      go_ret2
      exact HF.out
    · have d0 : decide (n < 0) = false := by simpa using h0
      have d1 : decide (most < n) = true := by rw [decide_eq_true_iff]; omega
      go_enter Tryz.func25, Tryz.ntmps25
      go_wp2
      go_ret2
      exact HF.out
  · obtain ⟨N, rfl⟩ : ∃ N : Nat, n = N := ⟨n.toNat, by omega⟩
    have hN : N ≤ 60000 := by omega
    have d0 : decide ((N : Int) < 0) = false := by rw [decide_eq_false_iff_not]; omega
    have d1 : decide (most < (N : Int)) = false := by rw [decide_eq_false_iff_not]; omega
    obtain ⟨i0, hi, hz0, hzs, hzb⟩ := info_parts info_ins
    have HNM := fun q V (h : Rn M V A B l q) (hv : M ≤ V.heap.size) => instruction_any M V A B l q hl h hv
    have HBD := Lib.hid hbad
    have HA := Lib.hid (show A < w.heap.size ∧ B < w.heap.size from ⟨gl hR.at_, by obtain ⟨a, c, h1, -⟩ := hR.box; exact gl h1⟩)
    have HR := Lib.hid hR
    have HMW := Lib.hid hMw
    clear hbad hR hMw
    go_enter Tryz.func25, Tryz.ntmps25
    go_wp2
    go_loopw [8, 19] (fun bv iv wr => ∃ t : Nat, t ≤ N ∧ iv = .int .i64 (t : Int) ∧ Hid (∃ q ns r, w.grownBy wr (some A) ∧ Rn M wr A B l q ∧ wr.ownsRow w.heap.size 32 3 bv ns.length (insC ns) ∧ Cd.rdI t (l.drop p) = some (ns, r) ∧ l.drop q = r)) (fun _ i _ => N - (intOf i).toNat)
    case atStart => exact ⟨0, Nat.zero_le _, rfl, Lib.hid ⟨p, [], _, World.grownBy.refl _ _, HR.out, World.ownsRow_nil _ _ _ _, rfl, rfl⟩⟩
    case round =>
      obtain ⟨t, ht, rfl, HT⟩ := hrel
      obtain ⟨q, ns, r, t1, t2, t3, t4, t5⟩ := HT.out
      clear HT
      obtain ⟨a1, c1, hbv, -⟩ := InssAt.own t3
      subst hbv
      have hns := rdI_len _ _ _ _ t4
      by_cases hlt : t < N
      · have hnum := HNM q wr t2 (Nat.le_trans HMW.out t1.size)
        have hno : Cd.rdX (l.drop q) = none → Cd.rdI N (l.drop p) = none := fun h1 => by
          rw [show N = t + (N - t - 1 + 1) by omega, rdI_up, t4]
          simp only
          rw [← t5, Cd.rdI, h1]
          rfl
        cases h1 : Cd.rdN 3 (l.drop q) with
        | none =>
          have HF : Hid (∀ V, wr.grownBy V (some A) → ∀ q', Rn M V A B l q' → LxP M w A B l p N most (.returned (.tuple #[.slice none 0 0, .bool false])) V) := Lib.hid (fun V hg q' hr => ⟨t1.trans hg, q', hr, by rw [if_neg HBD.out, Int.toNat_natCast, hno (by unfold Cd.rdX; rw [h1])]⟩)
          have hnum' : Calls Tryz.prog 26 #[.agg (rdV A B)] wr fun e w' => ∃ a b c : Int, e = .returned (.tuple #[.agg #[.int .i64 a, .int .i64 b, .int .i64 c], .bool false]) ∧ wr.grownBy w' (some A) ∧ ∃ q', Rn M w' A B l q' := hnum.mono fun e w' H => by
            obtain ⟨hg, q', hr, hm⟩ := H
            rw [h1] at hm
            obtain ⟨a, b, c, hm⟩ := hm
            exact ⟨a, b, c, hm, hg, q', hr⟩
          clear hnum t1 t2 t3 t4 t5 hns hno
          go_wp2_with (go_at_call 26; refine hnum'.mono ?_; rintro e V ⟨xa, xb, xc, rfl, hg, q', hr⟩; have HV := Lib.hid (HF.out (V.alloc (.cells #[.int .i64 xa, .int .i64 xb, .int .i64 xc] 32)) (hg.trans ⟨rfl, rfl, rfl, (by rw [World.size_alloc]; omega), fun k hk _ => (World.grownBy_alloc V _ none).block k hk (by simp)⟩) q' (hr.on (World.grownBy_alloc V _ none))); clear hg hr)
          go_ret2
          exact HV.out
        | some x =>
          obtain ⟨xs, r2⟩ := x
          obtain ⟨xa, xb, xc, rfl⟩ : ∃ a b c, xs = [a, b, c] := by
            have := rdN_len _ _ _ _ h1
            match xs, this with
            | [a, b, c], _ => exact ⟨a, b, c, rfl⟩
          have hnum' : Calls Tryz.prog 26 #[.agg (rdV A B)] wr fun e w' => e = .returned (.tuple #[.agg #[.int .i64 xa, .int .i64 xb, .int .i64 xc], .bool true]) ∧ wr.grownBy w' (some A) ∧ ∃ q', Rn M w' A B l q' ∧ l.drop q' = r2 := hnum.mono fun e w' H => by
            obtain ⟨hg, q', hr, hm⟩ := H
            rw [h1] at hm
            exact ⟨hm.1, hg, q', hr, hm.2⟩
          have HU := Lib.hid (And.intro t1 (And.intro t3 (And.intro t4 (And.intro t5 hns))))
          clear hnum t1 t2 t3 t4 t5 hns hno
          go_wp2_with (first | (go_at_call 26; refine hnum'.mono ?_; rintro e V ⟨rfl, hg, q', hr, hq⟩; have HV := Lib.hid (And.intro hg (And.intro hr hq)); clear hg hr hq) | (at_builtin; refine Hid.out ?_))
          refine Lib.hid ?_
          have hown2 : V.ownsRow w.heap.size 32 3 (.slice a1 ns.length c1) ns.length (insC ns) := HU.out.2.1.kept HV.out.1 (.inr (fun e => by
            have h2 := (HU.out.2.1.lt A e).1
            have h3 := HA.out
            omega))
          have hz1 := (hown2.alloc (.cells #[.int .i64 xa, .int .i64 xb, .int .i64 xc] 32)).alloc (.cells #[.int .i64 xa, .int .i64 xb, .int .i64 xc] 32)
          have HLN := Lib.hid (show ns.length ≤ 60000 by have := HU.out.2.2.2.2; omega)
          have hrow := heap_alloc_new (V.alloc (.cells #[.int .i64 xa, .int .i64 xb, .int .i64 xc] 32)) (.cells #[.int .i64 xa, .int .i64 xb, .int .i64 xc] 32)
          rw [World.size_alloc] at hrow
          refine wpList_append_own_at _ rfl _ _ 25 rfl w.heap.size 32 i0 _ 3 24 Tryz.underlying25 hi hz0 hzs hzb rfl (by decide) _ ns.length (insC ns) rfl hz1 ⟨V.heap.size + 1, 0, none⟩ 1 1 [.int .i64 xa, .int .i64 xb, .int .i64 xc] rfl rfl (row_cellz hrow) (by intro u hu; simp at hu; rcases hu with rfl | rfl | rfl <;> rfl) (by have := HLN.out; unfold maxLen; omega) (by have := HLN.out; omega) (by have h1 := HU.out.1.size; have h2 := HV.out.1.size; rw [World.size_alloc, World.size_alloc]; omega) ?_
          intro v' w3 hown' hgr _ hat
          have HF : Hid (∃ q ns' r, w.grownBy w3 (some A) ∧ Rn M w3 A B l q ∧ w3.ownsRow w.heap.size 32 3 v' ns'.length (insC ns') ∧ Cd.rdI (t + 1) (l.drop p) = some (ns', r) ∧ l.drop q = r) := Lib.hid (by
            have hga := (World.grownBy_alloc V (.cells #[.int .i64 xa, .int .i64 xb, .int .i64 xc] 32) none).trans (World.grownBy_alloc _ (.cells #[.int .i64 xa, .int .i64 xb, .int .i64 xc] 32) none)
            refine ⟨q', ns ++ [⟨xa, xb, xc⟩], r2, ?_, ?_, ?_, ?_, HV.out.2.2⟩
            · have h1 : w.grownBy ((V.alloc (.cells #[.int .i64 xa, .int .i64 xb, .int .i64 xc] 32)).alloc (.cells #[.int .i64 xa, .int .i64 xb, .int .i64 xc] 32)) (some A) := (HU.out.1.trans HV.out.1).trans ⟨hga.os, hga.tape, hga.output, hga.size, fun k hk _ => hga.block k hk (by simp)⟩
              refine ⟨hgr.os.trans h1.os, hgr.tape.trans h1.tape, hgr.output.trans h1.output, Nat.le_trans h1.size hgr.size, fun k hk hne => ?_⟩
              rw [hgr.block k (Nat.lt_of_lt_of_le hk h1.size) (fun e => by have := (hz1.lt k e.symm).1; omega), h1.block k hk hne]
            · have h1 := HV.out.2.1.on hga
              refine h1.by_ hgr (fun k e => ?_)
              have h2 := (hz1.lt k e).1
              have h3 := HA.out
              have h4 := HR.out.hA
              exact ⟨by omega, by omega, by omega⟩
            · have e2 : ns.length + 1 = (ns ++ [(⟨xa, xb, xc⟩ : Cd.Ins)]).length := by simp
              rw [insC_up, ← e2]
              exact hown'
            · rw [rdI_up, HU.out.2.2.1]
              simp only
              rw [← HU.out.2.2.2.1, Cd.rdI]
              unfold Cd.rdX
              rw [h1]
              rfl)
          clear hown' hgr hat hz1 hown2 hrow
          go_wp2
          exact ⟨⟨t + 1, by omega, by go_num, HF⟩, by simp [intOf]; omega⟩
      · obtain rfl : t = N := by omega
        have HF : Hid (LxP M w A B l p t most (.returned (.tuple #[.slice a1 ns.length c1, .bool true])) wr) := Lib.hid ⟨t1, q, t2, by
          rw [if_neg HBD.out, Int.toNat_natCast, t4]
          exact ⟨_, rfl, t3, t5⟩⟩
        clear t1 t2 t3 t4 t5
        go_wp2
        go_ret2
        exact HF.out
end Go.Proofs.YtfbhflpjhbemlaaGreat

/- Package code: the mark is cut off. -/
namespace Go.Proofs.YtfbhflpjhbemlaaGreat
open Go.RowKit Go.Maps Go.WideMaps

theorem cv4 (w : World) (g o cp : Nat) (h : ∀ j b, Cd.magic[j]? = some b → w.cell? ⟨g, o + j, none⟩ = some (.int .u8 b.toNat)) : (convert 22 9 (.slice (some ⟨g, o, none⟩) 4 cp)).run Tryz.prog w = .ok (.string ⟨#[77, 84, 82, 49]⟩) w := by
  have hh := run_convert_bytes_back (P := Tryz.prog) w 22 9 5 ⟨g, o, none⟩ cp [77, 84, 82, 49] Tryz.underlying22 Tryz.underlying5 Tryz.underlying9 (fun j hj => by
    have hj4 : j < 4 := hj
    rw [Addr.add_mid]
    rcases (show j = 0 ∨ j = 1 ∨ j = 2 ∨ j = 3 by omega) with rfl | rfl | rfl | rfl
    · exact h 0 _ rfl
    · exact h 1 _ rfl
    · exact h 2 _ rfl
    · exact h 3 _ rfl)
  exact hh

set_option maxHeartbeats 2000000 in
theorem cutPrefix_any (w : World) (a : Option Addr) (c G : Nat) (l1 : List UInt8) (hb : BytesAt w a (Cd.magic ++ l1)) (hc : (Cd.magic ++ l1).length ≤ c) (hl : (Cd.magic ++ l1).length ≤ 4000000) (hG : ∀ j b, Cd.magic[j]? = some b → w.cell? ⟨G, 0 + j, none⟩ = some (.int .u8 b.toNat)) :
    Calls Tryz.prog 21 #[.slice a (Cd.magic ++ l1).length c, .slice (some ⟨G, 0, none⟩) 4 4] w fun e w' => w' = w ∧ ∃ a' c', e = .returned (.tuple #[.slice a' l1.length c', .bool true]) ∧ BytesAt w a' l1 ∧ (∀ g o, a' = some ⟨g, o, none⟩ → l1 ≠ [] → ∃ o', a = some ⟨g, o', none⟩) := by
  obtain ⟨g, o, rfl, -⟩ := hb 0 77 rfl
  have hm : ∀ j b, Cd.magic[j]? = some b → w.cell? ⟨g, o + j, none⟩ = some (.int .u8 b.toNat) := fun j b hj => by
    obtain ⟨g', o', e, h⟩ := hb j b (by rw [List.getElem?_append_left (by have := (List.getElem?_eq_some_iff.1 hj).1; exact this), hj])
    cases e
    exact h
  have k1 := fun cp => cv4 w g o cp hm
  have k2 := fun cp => cv4 w G 0 cp hG
  have hlen : (Cd.magic ++ l1).length = l1.length + 4 := by simp [Cd.magic]
  have HB : Hid (BytesAt w (some ⟨g, o + 4, none⟩) l1) := Lib.hid (fun i b hi => by
    obtain ⟨g', o', e, h⟩ := hb (4 + i) b (by rw [List.getElem?_append_right (by simp [Cd.magic])]; simpa [Cd.magic] using hi)
    cases e
    exact ⟨g, o + 4, rfl, by rw [Nat.add_assoc]; exact h⟩)
  rw [hlen] at hc hl ⊢
  have HL : Hid (c = 4 → l1 = []) := Lib.hid (fun e => List.eq_nil_of_length_eq_zero (by omega))
  clear hb hm hG hlen
  obtain ⟨L, hL⟩ : ∃ L, L = l1.length := ⟨_, rfl⟩
  rw [← hL] at hc hl ⊢
  have HLL := Lib.hid hL
  clear hL
  have d1 : decide ((4 : Int) ≤ ((L + 4 : Nat) : Int)) = true := by rw [decide_eq_true_iff]; omega
  by_cases hc4 : c = 4
  · go_enter Tryz.func21, Tryz.ntmps21
    go_wp2
    go_ret2
    exact ⟨rfl, _, _, rfl, (by rw [HL.out hc4]; exact fun i b h => by simp at h), fun g' o' e hne => absurd (HL.out hc4) hne⟩
  · go_enter Tryz.func21, Tryz.ntmps21
    go_wp2
    go_ret2
    exact ⟨rfl, _, _, rfl, HB.out, fun g' o' e _ => by cases e; exact ⟨o, rfl⟩⟩
end Go.Proofs.YtfbhflpjhbemlaaGreat

/- Package code: codeOf of bytes that are read to their end. -/
namespace Go.Proofs.YtfbhflpjhbemlaaGreat
open Go.RowKit Go.Maps Go.WideMaps

/-- bytes that are read as code to their end -/
structure Rds (l1 : List UInt8) (c : Cd.Code) : Prop where
  all : ∃ l2 l3 l4 l5 l6, Cd.rd1 l1 = some ((c.kinds.length : Int), l2) ∧ Cd.rdN 4 l2 = some ([c.ins, c.outs, c.cells, c.stack], l3) ∧ Cd.rdN c.kinds.length l3 = some (c.kinds, l4) ∧ Cd.rdN c.init.length l4 = some (c.init, l5) ∧ Cd.rd1 l5 = some ((c.body.length : Int), l6) ∧ Cd.rdI c.body.length l6 = some (c.body, [])
  k8 : c.kinds.length ≤ 8000
  ic : (c.init.length : Int) = c.cells
  ik : c.init.length ≤ c.kinds.length
  b6 : c.body.length ≤ 60000
theorem rdN_nums : ∀ (l : List Int) (r : List UInt8), (∀ n ∈ l, Cd.I64 n) → Cd.rdN l.length (Cd.nums l ++ r) = some (l, r)
  | [], r, _ => rfl
  | a :: l, r, h => by
    rw [Cd.nums_cons, List.append_assoc, List.length_cons, Cd.rdN, Cd.rd1_num (h a (by simp))]
    simp only
    rw [rdN_nums l r (fun n hn => h n (by simp [hn]))]
    rfl
theorem rdI_nums : ∀ (l : List Cd.Ins) (r : List UInt8), (∀ x ∈ l, Cd.I64 x.op ∧ Cd.I64 x.n ∧ Cd.I64 x.k) → Cd.rdI l.length (Cd.nums (Cd.insL l) ++ r) = some (l, r)
  | [], r, _ => rfl
  | x :: l, r, h => by
    have e : Cd.insL (x :: l) = [x.op, x.n, x.k] ++ Cd.insL l := rfl
    have h1 := h x (by simp)
    have h2 := rdN_nums [x.op, x.n, x.k] (Cd.nums (Cd.insL l) ++ r) (fun n hn => by simp at hn; rcases hn with rfl | rfl | rfl; exact h1.1; exact h1.2.1; exact h1.2.2)
    have h3 : Cd.rdX (Cd.nums [x.op, x.n, x.k] ++ (Cd.nums (Cd.insL l) ++ r)) = some (x, Cd.nums (Cd.insL l) ++ r) := by
      unfold Cd.rdX
      have h2 : Cd.rdN 3 (Cd.nums [x.op, x.n, x.k] ++ (Cd.nums (Cd.insL l) ++ r)) = some ([x.op, x.n, x.k], Cd.nums (Cd.insL l) ++ r) := h2
      rw [h2]
    rw [e, Cd.nums_append, List.append_assoc, List.length_cons, Cd.rdI, h3]
    simp only
    rw [rdI_nums l r (fun y hy => h y (by simp [hy]))]
    rfl
theorem rds_write {c : Cd.Code} (h : Cd.check c = 0) (h64 : I64s c) : ∃ l1, Cd.write c = Cd.magic ++ l1 ∧ Rds l1 c := by
  obtain ⟨l1, l2, l3⟩ := check_lens h
  have hic : (c.init.length : Int) = c.cells ∧ c.cells ≤ c.kinds.length := by
    unfold Cd.check at h
    by_cases h1 : 60000 < c.body.length ∨ 8000 < c.kinds.length ∨ 64 < c.stack
    · rw [if_pos h1] at h; cases h
    rw [if_neg h1, bad_is] at h
    change (if (!fmB c) = true then (40 : Int) else _) = 0 at h
    cases hf : fmB c with
    | false => rw [hf] at h; cases h
    | true =>
      have h2 := (formed_of hf).1
      have h3 : iniB c = true := by
        unfold fmB at hf
        simp only [Bool.and_eq_true] at hf
        exact hf.2.2.1
      unfold iniB at h3
      simp only [Bool.and_eq_true, beq_iff_eq] at h3
      exact ⟨h3.1, h2.2.2.1.2⟩
  refine ⟨_, rfl, ⟨Cd.nums ([c.ins, c.outs, c.cells, c.stack] ++ (c.kinds ++ (c.init ++ ((c.body.length : Int) :: Cd.insL c.body)))), Cd.nums (c.kinds ++ (c.init ++ ((c.body.length : Int) :: Cd.insL c.body))), Cd.nums (c.init ++ ((c.body.length : Int) :: Cd.insL c.body)), Cd.nums ((c.body.length : Int) :: Cd.insL c.body), Cd.nums (Cd.insL c.body), ?_, ?_, ?_, ?_, ?_, ?_⟩, l1, hic.1, by omega, l3⟩
  · exact Cd.rd1_num (by unfold Cd.I64; omega) _
  · have := rdN_nums [c.ins, c.outs, c.cells, c.stack] (Cd.nums (c.kinds ++ (c.init ++ ((c.body.length : Int) :: Cd.insL c.body)))) (fun n hn => by simp at hn; rcases hn with rfl | rfl | rfl | rfl; exact h64.1; exact h64.2.1; exact h64.2.2.1; exact h64.2.2.2.1)
    rw [← Cd.nums_append] at this
    exact this
  · rw [Cd.nums_append]
    exact rdN_nums c.kinds _ h64.2.2.2.2.1
  · rw [Cd.nums_append]
    exact rdN_nums c.init _ h64.2.2.2.2.2.1
  · exact Cd.rd1_num (by unfold Cd.I64; omega) _
  · have := rdI_nums c.body [] h64.2.2.2.2.2.2.1
    rw [List.append_nil] at this
    exact this

/-- codeOf under way: its reader, and the code that it answers in block X -/
structure Cs (w : World) (A B R : Nat) (l1 : List UInt8) (p : Nat) (row : Array Value) (V : World) : Prop where
  rn : Rn w.heap.size V A B l1 p
  xr : V.heap[w.heap.size]? = some (.cells row 27 (0, 0))
  rr : V.heap[R]? = some (.cells (rdV A B) 58 (0, 0))
  gr : w.grownBy V none
  lt : w.heap.size < A ∧ w.heap.size < B ∧ w.heap.size < R ∧ R ≠ A ∧ R ≠ B
theorem Cs.kp {w V V' : World} {A B R : Nat} {l1 : List UInt8} {p q : Nat} {row : Array Value} (h : Cs w A B R l1 p row V) (hg : V.grownBy V' (some A)) (hr : Rn w.heap.size V' A B l1 q) : Cs w A B R l1 q row V' :=
  ⟨hr, (hg.block _ (gl h.xr) (by simp; have := h.lt; omega)).trans h.xr, (hg.block _ (gl h.rr) (by simp; exact h.lt.2.2.2.1)).trans h.rr, Kp.grown h.gr (Kp.of hg [A] (fun k e _ => by cases e; simp)) (fun k hk => by simp at hk; have := h.lt; omega), h.lt⟩
theorem Cs.set {w V : World} {A B R : Nat} {l1 : List UInt8} {p : Nat} {row : Array Value} (h : Cs w A B R l1 p row V) (i : Nat) (v : Value) : Cs w A B R l1 p (row.setIfInBounds i v) (V.setCell ⟨w.heap.size, i, none⟩ v) := by
  have hk : Kp [w.heap.size] V (V.setCell ⟨w.heap.size, i, none⟩ v) := (Kp.refl _ _).set (by simp) _
  have := h.lt
  exact ⟨h.rn.kp hk (by simp; omega) (by simp; omega) (fun x hx => by simp at hx; omega), heap_setCell_same _ _ _ _ _ _ h.xr, (hk.block _ (gl h.rr) (by simp; omega)).trans h.rr, Kp.grown h.gr hk (fun k hk => by simp at hk; omega), h.lt⟩
theorem Cs.alloc {w V : World} {A B R : Nat} {l1 : List UInt8} {p : Nat} {row : Array Value} (h : Cs w A B R l1 p row V) (o : Obj) : Cs w A B R l1 p row (V.alloc o) := ⟨h.rn.on (World.grownBy_alloc V o none), row_alloc h.xr _, row_alloc h.rr _, h.gr.trans (World.grownBy_alloc V o none), h.lt⟩
theorem Cs.fn {w V : World} {A B R : Nat} {l1 : List UInt8} {p : Nat} {row : Array Value} (h : Cs w A B R l1 p row V) : V.cell? ⟨R, 0, none⟩ = some (.func (.func 37) #[] #[.pointer (some ⟨A, 0, none⟩), .pointer (some ⟨B, 0, none⟩)]) ∧ V.cell? ⟨R, 1, none⟩ = some (.func (.func 39) #[] #[.pointer (some ⟨A, 0, none⟩), .pointer (some ⟨B, 0, none⟩)]) := by
  unfold World.cell?
  rw [h.rr]
  exact ⟨rfl, rfl⟩
/-- a list apart from A and X -/
def Na (V : World) (A X : Nat) (a : Option Addr) (l : List Int) : Prop := NumsAt V a l ∧ ∀ b o, a = some ⟨b, o, none⟩ → l ≠ [] → b ≠ A ∧ X < b
theorem Na.kp {V V' : World} {A X : Nat} {a : Option Addr} {l : List Int} (h : Na V A X a l) (hk : Kp [A, X] V V') : Na V' A X a l := ⟨fun i n hi => by
  obtain ⟨b, o, e, hc⟩ := h.1 i n hi
  have := h.2 b o e (fun e2 => by rw [e2] at hi; simp at hi)
  exact ⟨b, o, e, hk.cell hc (by simp; omega)⟩, h.2⟩
theorem Na.kq {V V' : World} {A X : Nat} {Z : List Nat} {a : Option Addr} {l : List Int} (h : Na V A X a l) (hk : Kp Z V V') (hZ : ∀ z ∈ Z, z = A ∨ z ≤ X) : Na V' A X a l := ⟨fun i n hi => by
  obtain ⟨b, o, e, hc⟩ := h.1 i n hi
  have := h.2 b o e (fun e2 => by rw [e2] at hi; simp at hi)
  exact ⟨b, o, e, hk.cell hc (fun hz => by have := hZ _ hz; omega)⟩, h.2⟩
theorem Na.own {V V0 : World} {A X : Nat} {a : Option Addr} {c : Nat} {l : List Int} (h : V.ownsRow V0.heap.size 3 1 (.slice a l.length c) l.length (l.map (Value.int .i64))) (hA : A < V0.heap.size) (hX : X < V0.heap.size) : Na V A X a l := by
  obtain ⟨a', c', e, hn⟩ := NumsAt.own h
  cases e
  refine ⟨hn, fun b o e hl => ?_⟩
  have := (h.lt b (by rw [e]; rfl)).1
  exact ⟨by omega, by omega⟩
theorem own_cap {V : World} {B : Nat} {T : TypeId} {s : Nat} {a : Option Addr} {n c : Nat} {xs : List Value} (h : V.ownsRow B T s (.slice a n c) n xs) : n ≤ c := by
  rcases h.2 with ⟨_, h0⟩ | ⟨g, cap, cur, e, _, _, h1, _⟩
  · omega
  · cases e; exact h1

theorem and2 {a b : Prop} (h1 : a) (h2 : a → b) : a ∧ b := ⟨h1, h2 h1⟩

def CoP (w : World) (c : Cd.Code) (e : Ending) (w' : World) : Prop :=
  w.grownBy w' none ∧ ∃ ka kc ia ic ba bc, e = .returned (.tuple #[.agg (codeV c ka kc ia ic ba bc), .bool true]) ∧ (∀ X V, X < w.heap.size → Kp [X] w' V → CodeAt V c ka ia ba) ∧ c.kinds.length ≤ kc

set_option maxHeartbeats 8000000 in
set_option maxRecDepth 100000 in
theorem codeOf_any (w : World) (c : Cd.Code) (l1 : List UInt8) (a : Option Addr) (cap : Nat) (hr : Rds l1 c) (hb : BytesAt w a (Cd.magic ++ l1)) (hcap : (Cd.magic ++ l1).length ≤ cap) (hl : (Cd.magic ++ l1).length ≤ 4000000) :
    Calls Tryz.prog 12 #[.slice a (Cd.magic ++ l1).length cap] w (CoP w c) := by
  obtain ⟨⟨l2, l3, l4, l5, l6, r1, r2, r3, r4, r5, r6⟩, k8, ic, ik, b6⟩ := hr
  obtain ⟨W1, hW1⟩ : ∃ W1, W1 = w.alloc (.cells #[.slice none 0 0, .int .i64 0, .int .i64 0, .int .i64 0, .int .i64 0, .slice none 0 0, .slice none 0 0] 27) := ⟨_, rfl⟩
  have hz1 : W1.heap.size = w.heap.size + 1 := by rw [hW1, World.size_alloc]
  have hX1 : W1.heap[w.heap.size]? = some (.cells #[.slice none 0 0, .int .i64 0, .int .i64 0, .int .i64 0, .int .i64 0, .slice none 0 0, .slice none 0 0] 27 (0, 0)) := by rw [hW1]; exact heap_alloc_new w _
  obtain ⟨W2, hW2⟩ : ∃ W2, W2 = W1.alloc (.cells #[.int .u8 77, .int .u8 84, .int .u8 82, .int .u8 49] 5 (4, 5)) := ⟨_, rfl⟩
  have hg2 : w.grownBy W2 none := by rw [hW2, hW1]; exact (World.grownBy_alloc w _ none).trans (World.grownBy_alloc _ _ none)
  have hX2 : W2.heap[w.heap.size]? = some (.cells #[.slice none 0 0, .int .i64 0, .int .i64 0, .int .i64 0, .int .i64 0, .slice none 0 0, .slice none 0 0] 27 (0, 0)) := by rw [hW2]; exact row_alloc hX1 _
  have hcvt : (convert 22 22 (.slice (some ⟨w.heap.size + 1, 0, none⟩) 4 4)).run Tryz.prog (W1.alloc (.cells #[.int .u8 77, .int .u8 84, .int .u8 82, .int .u8 49] 5)) = .ok (.slice (some ⟨w.heap.size + 1, 0, none⟩) 4 4) W2 := by
    have := Lib.run_convert_bytes_const (P := Tryz.prog) W1 22 5 #[.int .u8 77, .int .u8 84, .int .u8 82, .int .u8 49] 4 4 Tryz.underlying22 Tryz.underlying5
    rw [hz1] at this
    rw [hW2]
    exact this
  have hG : ∀ j b, Cd.magic[j]? = some b → W2.cell? ⟨w.heap.size + 1, 0 + j, none⟩ = some (.int .u8 b.toNat) := fun j b hj => by
    have hr := heap_alloc_new W1 (.cells #[.int .u8 77, .int .u8 84, .int .u8 82, .int .u8 49] 5 (4, 5))
    rw [hz1, ← hW2] at hr
    unfold World.cell?
    rw [hr]
    have hi : j < 4 := (List.getElem?_eq_some_iff.1 hj).1
    rcases (show j = 0 ∨ j = 1 ∨ j = 2 ∨ j = 3 by omega) with rfl | rfl | rfl | rfl <;> (cases hj; rfl)
  have hb2 : BytesAt W2 a (Cd.magic ++ l1) := fun i b h => by
    obtain ⟨g, o, e, hc⟩ := hb i b h
    exact ⟨g, o, e, hg2.cell hc (by simp)⟩
  have hcut := cutPrefix_any W2 a cap (w.heap.size + 1) l1 hb2 hcap hl hG
  have hbM : ∀ g o, a = some ⟨g, o, none⟩ → g < w.heap.size := fun g o e => by
    obtain ⟨g', o', e', hc⟩ := hb 0 77 rfl
    rw [e] at e'
    cases e'
    exact lt_of_cell? hc
  have hl1 : l1.length ≤ 4000000 := by rw [List.length_append] at hl; omega
  rw [hW1] at hcvt
  have HX2 := Lib.hid (And.intro hX2 (And.intro hg2 hbM))
  have HRD := Lib.hid (And.intro r1 (And.intro r2 (And.intro r3 (And.intro r4 (And.intro r5 r6)))))
  have HZ2 : Hid (W2.heap.size = w.heap.size + 1 + 1) := Lib.hid (by rw [hW2, World.size_alloc, hz1])
  obtain ⟨LL, hLL⟩ : ∃ LL, LL = (Cd.magic ++ l1).length := ⟨_, rfl⟩
  rw [← hLL] at hcut hcap hl ⊢
  clear hW1 hW2 hX1 hX2 hg2 hG hb2 hb hbM hz1 r1 r2 r3 r4 r5 r6 hLL hcap hl
  go_enter Tryz.func12, Tryz.ntmps12
  go_wp2_with (first | (go_at_call 21; refine hcut.mono ?_; rintro e w' ⟨hw', a1, c1, rfl, hb1, hm1⟩; obtain rfl := hw'.symm; refine Hid.out ?_))
  have hnew := newReader_any w.heap.size W2 a1 c1 l1 hb1 (by rw [HZ2.out]; omega) (fun g o e hne => by obtain ⟨o', e2⟩ := hm1 g o e hne; exact HX2.out.2.2 g o' e2)
  refine Lib.hid ?_
  clear hcut hcvt
  unfold rdV at hnew
  go_wp2_with (go_at_call 22; refine hnew.mono ?_; rintro e V1 ⟨A, B, rfl, hR1, hg1, hA1, hB1⟩; refine Hid.out ?_)
  refine Lib.hid ?_
  have hC1 : Cs w A B V1.heap.size l1 0 #[.slice none 0 0, .int .i64 0, .int .i64 0, .int .i64 0, .int .i64 0, .slice none 0 0, .slice none 0 0] (V1.alloc (.cells (rdV A B) 58)) := by
    have h1 := HZ2.out
    have h2 := gl hR1.at_
    have h3 : B < V1.heap.size := by obtain ⟨x, y, h4, -⟩ := hR1.box; exact gl h4
    exact ⟨hR1.on (World.grownBy_alloc V1 _ none), row_alloc ((hg1.block _ (gl HX2.out.1) (by simp)).trans HX2.out.1) _, heap_alloc_new V1 _, (HX2.out.2.1.trans hg1).trans (World.grownBy_alloc V1 _ none), by omega, by omega, by omega, by omega, by omega⟩
  obtain ⟨R, hRR⟩ : ∃ R, R = V1.heap.size := ⟨_, rfl⟩
  have HC1 := Lib.hid hC1
  have y0 := hC1.fn
  have hnum := number_any w.heap.size A B l1 0 hl1 _ hC1.rn
  unfold rdV at y0 hnum
  obtain ⟨y0, y0'⟩ := y0
  have hnum' : Calls Tryz.prog 37 #[.pointer (some ⟨A, 0, none⟩), .pointer (some ⟨B, 0, none⟩)] (V1.alloc (.cells #[.func (.func 37) #[] #[.pointer (some ⟨A, 0, none⟩), .pointer (some ⟨B, 0, none⟩)], .func (.func 39) #[] #[.pointer (some ⟨A, 0, none⟩), .pointer (some ⟨B, 0, none⟩)]] 58)) fun e w' => e = .returned (.tuple #[.int .i64 (c.kinds.length : Int), .bool true]) ∧ ∃ q, Cs w A B V1.heap.size l1 q #[.slice none 0 0, .int .i64 0, .int .i64 0, .int .i64 0, .int .i64 0, .slice none 0 0, .slice none 0 0] w' ∧ l1.drop q = l2 := hnum.mono fun e w' H => by
    obtain ⟨hg, q, hr, hm⟩ := H
    rw [List.drop_zero, HRD.out.1] at hm
    exact ⟨hm.1, q, HC1.out.kp hg hr, hm.2⟩
  clear hnum hC1 hnew hb1 hm1 hR1 hg1 hA1 hB1 hRR R
  go_wp2_with (go_at_call 37; refine hnum'.mono ?_; rintro e V2 ⟨rfl, q2, hC2, hq2⟩; refine Hid.out ?_)
  refine Lib.hid ?_
  clear hnum' y0 y0' HC1
  generalize V1.heap.size = R at hC2 ⊢
  have HC2 := Lib.hid hC2
  have hW3 := hC2.alloc (.cells (ptrs w.heap.size 1 4).toArray 62)
  have hY : (V2.alloc (.cells (ptrs w.heap.size 1 4).toArray 62)).heap[V2.heap.size]? = some (.cells (ptrs w.heap.size 1 4).toArray 62 (0, 0)) := heap_alloc_new V2 _
  have hlt2 := hC2.lt
  have hA2 := gl hC2.rn.at_
  have hX2' := gl hC2.xr
  have hns := numbers_any w.heap.size _ A B w.heap.size V2.heap.size 27 1 4 _ l1 q2 hl1 (by decide) hW3.rn hW3.xr (by decide) hY ⟨by omega, by omega, by omega, by omega⟩ (Nat.le_refl _)
  have y0 := hC2.fn
  obtain ⟨y0, y0'⟩ := y0
  have hns' : Calls Tryz.prog 23 #[.agg (rdV A B), .slice (some ⟨V2.heap.size, 0, none⟩) 4 4] (V2.alloc (.cells (ptrs w.heap.size 1 4).toArray 62)) fun e w' => e = .returned (.bool true) ∧ ∃ q, Cs w A B R l1 q #[.slice none 0 0, .int .i64 c.ins, .int .i64 c.outs, .int .i64 c.cells, .int .i64 c.stack, .slice none 0 0, .slice none 0 0] w' ∧ l1.drop q = l3 := hns.mono fun e w' H => by
    obtain ⟨hk, q, ms, hr, hx, -, hm⟩ := H
    rw [hq2, HRD.out.2.1] at hm
    obtain ⟨h1, h2, rfl⟩ := hm
    exact ⟨h1, q, ⟨hr, hx, (hk.block _ (gl hW3.rr) (by simp; have := hC2.lt; omega)).trans hW3.rr, Kp.grown hW3.gr hk (fun k hk => by simp at hk; have := hC2.lt; omega), hC2.lt⟩, h2⟩
  clear hns hW3 hY hlt2 hA2 hX2' hC2 hq2
  unfold rdV at hns'
  generalize hKK : c.kinds.length = K at k8 ik ⊢
  have HKK := Lib.hid hKK
  clear hKK
  go_wp2_with (go_at_call 23; refine hns'.mono ?_; rintro e V3 ⟨rfl, q3, hC3, hq3⟩; refine Hid.out ?_)
  refine Lib.hid ?_
  clear hns' y0 y0' HC2
  have HC3 := Lib.hid hC3
  obtain ⟨y0, y0'⟩ := hC3.fn
  have x0 := cell_of_row V3 _ 0 _ _ _ hC3.xr
  have f0 : V3.frozen? ⟨w.heap.size, 0, none⟩ = false := by simp [World.frozen?, hC3.xr]
  have hli := listInt_any w.heap.size V3 A B l1 q3 (K : Int) 8000 hl1 (by decide) hC3.rn
  have hli' : Calls Tryz.prog 24 #[.int .i64 (K : Int), .int .i64 8000, .func (.func 37) #[] #[.pointer (some ⟨A, 0, none⟩), .pointer (some ⟨B, 0, none⟩)]] V3 fun e w' => ∃ ka kc, e = .returned (.tuple #[.slice ka K kc, .bool true]) ∧ Na w' A w.heap.size ka c.kinds ∧ K ≤ kc ∧ ∃ q, Cs w A B R l1 q #[.slice none 0 0, .int .i64 c.ins, .int .i64 c.outs, .int .i64 c.cells, .int .i64 c.stack, .slice none 0 0, .slice none 0 0] w' ∧ l1.drop q = l4 := hli.mono fun e w' H => by
    obtain ⟨hg, q, hr, hm⟩ := H
    have e3 := HRD.out.2.2.1
    rw [HKK.out] at e3
    rw [if_neg (by omega), Int.toNat_natCast, hq3, e3] at hm
    obtain ⟨v, h1, h2, h3⟩ := hm
    obtain ⟨ka, kc, hv, -⟩ := NumsAt.own h2
    subst hv
    have h4 := own_cap h2
    rw [HKK.out] at h1 h4
    exact ⟨ka, kc, h1, Na.own h2 (gl HC3.out.rn.at_) (gl HC3.out.xr), h4, q, HC3.out.kp hg hr, h3⟩
  clear hli hq3 hC3
  go_wp2_with (go_at_call 24; refine hli'.mono ?_; rintro e V4 ⟨ka, kc, rfl, hna, hkc, q4, hC4, hq4⟩; have x0 := cell_of_row V4 _ 0 _ _ _ hC4.xr; have f0 : V4.frozen? ⟨w.heap.size, 0, none⟩ = false := (by simp [World.frozen?, hC4.xr]); refine Hid.out ?_)
  refine Lib.hid ?_
  have hC4s := hC4.set 0 (.slice ka K kc)
  have hC4s : Cs w A B R l1 q4 #[.slice ka K kc, .int .i64 c.ins, .int .i64 c.outs, .int .i64 c.cells, .int .i64 c.stack, .slice none 0 0, .slice none 0 0] (V4.setCell ⟨w.heap.size, 0, none⟩ (.slice ka K kc)) := hC4s
  have HN4 : Hid (Na (V4.setCell ⟨w.heap.size, 0, none⟩ (.slice ka K kc)) A w.heap.size ka c.kinds) := Lib.hid (hna.kp ((Kp.refl _ _).set (by simp) _))
  have HC4 := Lib.hid hC4s
  have yy0 := hC4s.fn.1
  have x3 := cell_of_row _ _ 3 _ _ _ hC4s.xr
  have hlj := listInt_any w.heap.size _ A B l1 q4 c.cells (K : Int) hl1 (by omega) hC4s.rn
  have hlj' : Calls Tryz.prog 24 #[.int .i64 c.cells, .int .i64 (K : Int), .func (.func 37) #[] #[.pointer (some ⟨A, 0, none⟩), .pointer (some ⟨B, 0, none⟩)]] (V4.setCell ⟨w.heap.size, 0, none⟩ (.slice ka K kc)) fun e w' => ∃ ia ic', e = .returned (.tuple #[.slice ia c.init.length ic', .bool true]) ∧ Na w' A w.heap.size ia c.init ∧ Na w' A w.heap.size ka c.kinds ∧ ∃ q, Cs w A B R l1 q #[.slice ka K kc, .int .i64 c.ins, .int .i64 c.outs, .int .i64 c.cells, .int .i64 c.stack, .slice none 0 0, .slice none 0 0] w' ∧ l1.drop q = l5 := hlj.mono fun e w' H => by
    obtain ⟨hg, q, hr, hm⟩ := H
    have e3 := HRD.out.2.2.2.1
    rw [if_neg (by omega), show c.cells.toNat = c.init.length by omega, hq4, e3] at hm
    obtain ⟨v, h1, h2, h3⟩ := hm
    obtain ⟨ia, ic', hv, -⟩ := NumsAt.own h2
    subst hv
    exact ⟨ia, ic', h1, Na.own h2 (gl HC4.out.rn.at_) (gl HC4.out.xr), HN4.out.kp (Kp.of hg _ (fun k e _ => by cases e; simp)), q, HC4.out.kp hg hr, h3⟩
  have HKC := Lib.hid hkc
  clear hlj hq4 hC4 hC4s hna hli' y0 y0' HC3 hkc
  go_wp2_with (go_at_call 24; refine hlj'.mono ?_; rintro e V5 ⟨ia, ic', rfl, hni, hnk, q5, hC5, hq5⟩; have x5 := cell_of_row V5 _ 5 _ _ _ hC5.xr; have f5 : V5.frozen? ⟨w.heap.size, 5, none⟩ = false := (by simp [World.frozen?, hC5.xr]); refine Hid.out ?_)
  refine Lib.hid ?_
  have hC5s : Cs w A B R l1 q5 #[.slice ka K kc, .int .i64 c.ins, .int .i64 c.outs, .int .i64 c.cells, .int .i64 c.stack, .slice ia c.init.length ic', .slice none 0 0] (V5.setCell ⟨w.heap.size, 5, none⟩ (.slice ia c.init.length ic')) := hC5.set 5 (.slice ia c.init.length ic')
  have hks : Kp [A, w.heap.size] V5 (V5.setCell ⟨w.heap.size, 5, none⟩ (.slice ia c.init.length ic')) := (Kp.refl _ _).set (by simp) _
  have HN5 : Hid (Na (V5.setCell ⟨w.heap.size, 5, none⟩ (.slice ia c.init.length ic')) A w.heap.size ka c.kinds ∧ Na (V5.setCell ⟨w.heap.size, 5, none⟩ (.slice ia c.init.length ic')) A w.heap.size ia c.init) := Lib.hid ⟨hnk.kp hks, hni.kp hks⟩
  have HC5 := Lib.hid hC5s
  have yy1 := hC5s.fn.1
  have hnum := number_any w.heap.size A B l1 q5 hl1 _ hC5s.rn
  have hnum' : Calls Tryz.prog 37 #[.pointer (some ⟨A, 0, none⟩), .pointer (some ⟨B, 0, none⟩)] (V5.setCell ⟨w.heap.size, 5, none⟩ (.slice ia c.init.length ic')) fun e w' => e = .returned (.tuple #[.int .i64 (c.body.length : Int), .bool true]) ∧ (Na w' A w.heap.size ka c.kinds ∧ Na w' A w.heap.size ia c.init) ∧ ∃ q, Cs w A B R l1 q #[.slice ka K kc, .int .i64 c.ins, .int .i64 c.outs, .int .i64 c.cells, .int .i64 c.stack, .slice ia c.init.length ic', .slice none 0 0] w' ∧ l1.drop q = l6 := hnum.mono fun e w' H => by
    obtain ⟨hg, q, hr, hm⟩ := H
    rw [hq5, HRD.out.2.2.2.2.1] at hm
    have hk : Kp [A, w.heap.size] _ w' := Kp.of hg _ (fun k e _ => by cases e; simp)
    exact ⟨hm.1, ⟨HN5.out.1.kp hk, HN5.out.2.kp hk⟩, q, HC5.out.kp hg hr, hm.2⟩
  clear hnum hq5 hC5 hC5s hks hni hnk hlj' yy0 x3 HC4 HN4
  go_wp2_with (go_at_call 37; refine hnum'.mono ?_; rintro e V6 ⟨rfl, hn6, q6, hC6, hq6⟩; refine Hid.out ?_)
  refine Lib.hid ?_
  have HN6 := Lib.hid hn6
  have HC6 := Lib.hid hC6
  obtain ⟨z0, z1⟩ := hC6.fn
  have hlx := listIns_any w.heap.size V6 A B l1 q6 (c.body.length : Int) 60000 hl1 (by decide) hC6.rn (by have := gl hC6.xr; omega)
  have hlx' : Calls Tryz.prog 25 #[.int .i64 (c.body.length : Int), .int .i64 60000, .func (.func 26) #[.agg (rdV A B)] #[]] V6 fun e w' => ∃ ba bc, e = .returned (.tuple #[.slice ba c.body.length bc, .bool true]) ∧ InssAt w' ba c.body ∧ (∀ b o, ba = some ⟨b, o, none⟩ → c.body ≠ [] → b ≠ A ∧ w.heap.size < b) ∧ (Na w' A w.heap.size ka c.kinds ∧ Na w' A w.heap.size ia c.init) ∧ ∃ q, Cs w A B R l1 q #[.slice ka K kc, .int .i64 c.ins, .int .i64 c.outs, .int .i64 c.cells, .int .i64 c.stack, .slice ia c.init.length ic', .slice none 0 0] w' ∧ l1.drop q = [] := hlx.mono fun e w' H => by
    obtain ⟨hg, q, hr, hm⟩ := H
    rw [if_neg (by omega), Int.toNat_natCast, hq6, HRD.out.2.2.2.2.2] at hm
    obtain ⟨v, h1, h2, h3⟩ := hm
    obtain ⟨ba, bc, hv, hin⟩ := InssAt.own h2
    subst hv
    have hk : Kp [A, w.heap.size] _ w' := Kp.of hg _ (fun k e _ => by cases e; simp)
    refine ⟨ba, bc, h1, hin, fun b o e _ => ?_, ⟨HN6.out.1.kp hk, HN6.out.2.kp hk⟩, q, HC6.out.kp hg hr, h3⟩
    have h4 := (h2.lt b (by rw [e]; rfl)).1
    have h5 := gl HC6.out.rn.at_
    have h6 := gl HC6.out.xr
    exact ⟨by omega, by omega⟩
  clear hlx hq6 hC6 hn6 hnum' yy1 HC5 HN5
  unfold rdV at hlx'
  generalize hBB : c.body.length = Bn at b6 hlx' ⊢
  have HBB := Lib.hid hBB
  clear hBB
  go_wp2_with (go_at_call 25; refine hlx'.mono ?_; rintro e V7 ⟨ba, bc, rfl, hin, hbn, hn7, q7, hC7, hq7⟩; have x6 := cell_of_row V7 _ 6 _ _ _ hC7.xr; have f6 : V7.frozen? ⟨w.heap.size, 6, none⟩ = false := (by simp [World.frozen?, hC7.xr]); refine Hid.out ?_)
  refine Lib.hid ?_
  obtain ⟨V8, hV8⟩ : ∃ V8, V8 = V7.setCell ⟨w.heap.size, 6, none⟩ (.slice ba Bn bc) := ⟨_, rfl⟩
  have hC8 : Cs w A B R l1 q7 #[.slice ka K kc, .int .i64 c.ins, .int .i64 c.outs, .int .i64 c.cells, .int .i64 c.stack, .slice ia c.init.length ic', .slice ba Bn bc] V8 := by rw [hV8]; exact hC7.set 6 (.slice ba Bn bc)
  have hks : Kp [A, w.heap.size] V7 V8 := by rw [hV8]; exact (Kp.refl _ _).set (by simp) _
  have hq : q7 = l1.length := by
    have h1 := hC8.rn.le
    have h2 := congrArg List.length hq7
    rw [List.length_drop] at h2
    simp at h2
    omega
  have HF : Hid (∀ Z V, (∀ z ∈ Z, z = A ∨ z ≤ w.heap.size) → Kp Z V8 V → CodeAt V c ka ia ba) := Lib.hid (fun Z V hZ hk => ⟨((hn7.1.kp hks).kq hk hZ).1, ((hn7.2.kp hks).kq hk hZ).1, fun i x hi => by
    obtain ⟨b, o, e, h1, h2, h3⟩ := hin i x hi
    have hb := hbn b o e (fun e2 => by rw [e2] at hi; simp at hi)
    have hz : b ∉ Z := fun hz => by have := hZ _ hz; omega
    have hy : b ∉ [A, w.heap.size] := by simp; omega
    exact ⟨b, o, e, hk.cell (hks.cell h1 hy) hz, hk.cell (hks.cell h2 hy) hz, hk.cell (hks.cell h3 hy) hz⟩⟩)
  have HV8 := Lib.hid hV8
  have HC8 := Lib.hid hC8
  clear hks hq7 hC7 hn7 hin hbn hlx' HC6 HN6 z0 z1
  go_wp2
  rw [← hV8]
  have hS0 : Cs w A B R l1 q7 #[.slice ka K kc, .int .i64 c.ins, .int .i64 c.outs, .int .i64 c.cells, .int .i64 c.stack, .slice ia c.init.length ic', .slice ba Bn bc] V8.drew := ⟨⟨hC8.rn.at_, hC8.rn.box, hC8.rn.hA, hC8.rn.hB, hC8.rn.ne, hC8.rn.le⟩, hC8.xr, hC8.rr, ⟨hC8.gr.os, hC8.gr.tape, hC8.gr.output, hC8.gr.size, hC8.gr.block⟩, hC8.lt⟩
  have hend := atEnd_any w.heap.size A B l1 q7 V8.drew hS0.rn
  rw [decide_eq_true hq] at hend
  clear hV8 hC8 hq
  refine wp_region_L (S := fun V => Cs w A B R l1 q7 #[.slice ka K kc, .int .i64 c.ins, .int .i64 c.outs, .int .i64 c.cells, .int .i64 c.stack, .slice ia c.init.length ic', .slice ba Bn bc] V) (Z := []) (by kernel_rfl) ?_
  have HD : Hid (Kp [A, w.heap.size] V8 V8.drew) := Lib.hid (Kp.refl _ _).drew
  generalize V8.drew = V9 at hS0 hend HD ⊢
  refine t2 0 80 (.agg #[.slice ka K kc, .int .i64 c.ins, .int .i64 c.outs, .int .i64 c.cells, .int .i64 c.stack, .slice ia c.init.length ic', .slice ba Bn bc]) (fun w' hw' => ?_) hS0 ?_
  · exact exec_load_mid 27 _ rfl w.heap.size 0 rfl _ _ (row_range hw'.xr) Tryz.underlying27 rfl (by kernel_rfl)
  (try simp only [Act.put, sA, sB, sC])
  refine t1 1 81 (.bool true) hS0 ?_
  (try simp only [Act.put, sA, sB, sC])
  refine t1 2 82 (.bool true) hS0 ?_
  (try simp only [Act.put, sA, sB, sC])
  refine t1 3 83 (.pointer (some ⟨R, 1, none⟩)) hS0 ?_
  (try simp only [Act.put, sA, sB, sC])
  refine t2 4 84 (.func (.func 39) #[] #[.pointer (some ⟨A, 0, none⟩), .pointer (some ⟨B, 0, none⟩)]) (fun w' hw' => ?_) hS0 ?_
  · have hc0 := hw'.fn.2; clear hw'; go_simp
  (try simp only [Act.put, sA, sB, sC])
  refine wpL_call (i := 5) (d := 85) (R := fun v w' => v = .bool true ∧ w' = V9) (by kernel_rfl) rfl rfl (by kernel_rfl) (by kernel_rfl) (hend.mono fun e w' he => ⟨_, he.1, rfl, he.2⟩) (fun v w' hR => by rw [hR.2]; exact hS0) (fun v w' hR => ?_)
  obtain ⟨rfl, hw⟩ := hR
  obtain rfl := hw.symm
  (try simp only [Act.put, sA, sB, sC])
  refine t1 6 86 (.bool true) hS0 ?_
  (try simp only [Act.put, sA, sB, sC])
  refine wpL_store (i := 7) w.heap.size #[.slice ka K kc, .int .i64 c.ins, .int .i64 c.outs, .int .i64 c.cells, .int .i64 c.stack, .slice ia c.init.length ic', .slice ba Bn bc] #[.slice ka K kc, .int .i64 c.ins, .int .i64 c.outs, .int .i64 c.cells, .int .i64 c.stack, .slice ia c.init.length ic', .slice ba Bn bc] 27 27 (.tmp 2) (.tmp 80) (by kernel_rfl) rfl (by kernel_rfl) rfl rfl rfl rfl hS0.xr (by kernel_rfl) rfl (by simp [Value.oneCell']) (fun V hbV hgV => and2 ?_ (fun hSV => ?_))
  · have hk : Kp [w.heap.size] V9 V := Kp.of hgV _ (fun k e _ => by cases e; simp)
    have := hS0.lt
    exact ⟨hS0.rn.kp hk (by simp; omega) (by simp; omega) (fun x hx => by simp at hx; omega), hbV, (hk.block _ (gl hS0.rr) (by simp; omega)).trans hS0.rr, Kp.grown hS0.gr hk (fun k hk => by simp at hk; omega), hS0.lt⟩
  have hk : Kp [A, w.heap.size] V8 V := HD.out.trans (Kp.of hgV _ (fun k e _ => by cases e; simp))
  have HE : Hid (w.grownBy V none ∧ ∀ X V', X < w.heap.size → Kp [X] V V' → CodeAt V' c ka ia ba) := Lib.hid ⟨Kp.grown HC8.out.gr hk (fun k hk => by simp at hk; have := HC8.out.lt; omega), fun X V' hX hk2 => HF.out [A, w.heap.size, X] V' (fun z hz => by simp at hz; omega) ((hk.mono (fun k hk _ => by simp at hk ⊢; omega)).trans (hk2.mono (fun k hk _ => by simp at hk ⊢; omega)))⟩
  have HB := Lib.hid hbV
  have HO : Hid (#[.slice ka K kc, .int .i64 c.ins, .int .i64 c.outs, .int .i64 c.cells, .int .i64 c.stack, .slice ia c.init.length ic', .slice ba Bn bc] = codeV c ka kc ia ic' ba bc) := Lib.hid (by unfold codeV; rw [HKK.out, HBB.out])
  clear hk hbV hgV hS0 hend
  refine t1 8 3 (.bool true) hSV ?_
  (try simp only [Act.put, sA, sB, sC])
  clear hSV
  refine wpL_done (by kernel_rfl) ?_ _
  go_wp2
  exact bodyPost_ret (results_row_tmp rfl _ _ w.heap.size 27 _ (0, 0) _ (.bool true) rfl rfl HB.out Tryz.underlying27 rfl (by kernel_rfl)) rfl ⟨HE.out.1, ka, kc, ia, ic', ba, bc, by rw [← HO.out], HE.out.2, by rw [HKK.out]; exact HKC.out⟩
end Go.Proofs.YtfbhflpjhbemlaaGreat

/- Package code: Parse of what was written. -/
namespace Go.Proofs.YtfbhflpjhbemlaaGreat
open Go.RowKit Go.Maps Go.WideMaps

/-- Parse answers the code -/
def PrP (w : World) (c : Cd.Code) (e : Ending) (w' : World) : Prop :=
  w.grownBy w' none ∧ ∃ ka kc ia ic ba bc, e = .returned (.tuple #[.agg (codeV c ka kc ia ic ba bc), .int .i64 0]) ∧ CodeAt w' c ka ia ba
/-- code.Parse reads what was written -/
def CRead2 : Prop := ∀ (W : World) (c : Cd.Code) (a : Option Addr) (cap : Nat), BytesAt W a (Cd.write c) → (Cd.write c).length ≤ cap → (Cd.write c).length ≤ 4000000 → Cd.check c = 0 → I64s c →
  Calls Tryz.prog 5 #[.slice a (Cd.write c).length cap] W (PrP W c)

theorem store_rowL {P : Program} {w : World} {ops : Array Oper} {rest : List Oper} {d : Option Tmp} {p v : Operand} {t ty t0 : TypeId} {s : String} {af : Array Edge} {a : Act} {Q : Exit → Act → World → Prop}
    (g : Nat) (cells old : Array Value) (hp : a.eval p = .pointer (some ⟨g, 0, none⟩)) (hv : a.eval v = .agg cells) (hg : w.heap[g]? = some (.cells old t0 (0, 0))) (hi : (P.info? t).map (·.size) = some cells.size) (ho : old.size = cells.size) (h1 : cells.all (·.oneCell') = true)
    (hK : ∀ w', w'.heap[g]? = some (.cells cells t0 (0, 0)) → w.grownBy w' (some g) → wpList P ops Q rest (a.put d undef) w') :
    wpList P ops Q ({ dst := d, op := Op.store t p v, type := ty, pos := s, after := af, guard := none } :: rest) a w := by
  refine wpList_plain rfl fun K hK' => ?_
  refine wp_store_row t p v rfl g cells hp hv t0 old hg hi ho h1 (hK' _ _ (hK _ ?_ ?_))
  · simp [World.setRow, Array.getElem?_modify, hg]
  · refine ⟨rfl, rfl, rfl, by simp [World.setRow], fun k _ hk => ?_⟩
    have hne : g ≠ k := fun e => hk (by rw [e])
    simp [World.setRow, Array.getElem?_modify, hne]

set_option maxHeartbeats 8000000 in
set_option maxRecDepth 100000 in
theorem cread_any : CRead2 := by
  intro w c a cap hb hcap hl hz h64
  obtain ⟨l1, hw, hr⟩ := rds_write hz h64
  rw [hw] at hb hcap hl ⊢
  obtain ⟨W1, hW1⟩ : ∃ W1, W1 = w.alloc (.cells #[.slice none 0 0, .int .i64 0, .int .i64 0, .int .i64 0, .int .i64 0, .slice none 0 0, .slice none 0 0] 27) := ⟨_, rfl⟩
  have hz1 : W1.heap.size = w.heap.size + 1 := by rw [hW1, World.size_alloc]
  have hX1 : W1.heap[w.heap.size]? = some (.cells #[.slice none 0 0, .int .i64 0, .int .i64 0, .int .i64 0, .int .i64 0, .slice none 0 0, .slice none 0 0] 27 (0, 0)) := by rw [hW1]; exact heap_alloc_new w _
  have hg1 : w.grownBy W1 none := by rw [hW1]; exact World.grownBy_alloc w _ none
  have hb1 : BytesAt W1 a (Cd.magic ++ l1) := fun i b h => by
    obtain ⟨g, o, e, hc⟩ := hb i b h
    exact ⟨g, o, e, hg1.cell hc (by simp)⟩
  have hco := codeOf_any W1 c l1 a cap hr hb1 hcap hl
  obtain ⟨LL, hLL⟩ : ∃ LL, LL = (Cd.magic ++ l1).length := ⟨_, rfl⟩
  rw [← hLL] at hco hl ⊢
  have e1 : decide ((4000000 : Int) < (LL : Int)) = false := by rw [decide_eq_false_iff_not]; omega
  rw [hW1] at hco
  have HX1 := Lib.hid (And.intro hz1 (And.intro hX1 hg1))
  have HW1 := Lib.hid hW1
  have HCK := Lib.hid (fun V ka kc ia ic ba bc h hk => ccheck_any V c ka kc ia ic ba bc h h64 hk)
  have HZ := Lib.hid hz
  clear hW1 hX1 hg1 hb1 hb hcap hr hw h64 hz hz1 hLL
  go_enter Tryz.func5, Tryz.ntmps5
  go_wp2_with (first | (go_at_call 12; refine hco.mono ?_; rintro e w1 ⟨hg1, ka, kc, ia, ic, ba, bc, rfl, hcode, hkc⟩; refine Hid.out ?_))
  refine Lib.hid ?_
  clear hco
  unfold codeV
  rw [← HW1.out] at hg1 hcode
  have hX2 := (hg1.block _ (gl HX1.out.2.1) (by simp)).trans HX1.out.2.1
  have hchk := HCK.out (w1.alloc (.cells (codeV c ka kc ia ic ba bc) 27)) ka kc ia ic ba bc (hcode w.heap.size _ (by rw [HX1.out.1]; omega) (Kp.of0 (World.grownBy_alloc w1 _ none) _)) hkc
  rw [HZ.out] at hchk
  have HH : Hid (w1.heap[w.heap.size]? = some (.cells #[.slice none 0 0, .int .i64 0, .int .i64 0, .int .i64 0, .int .i64 0, .slice none 0 0, .slice none 0 0] 27 (0, 0)) ∧ w.grownBy w1 none ∧ ∀ V, Kp [w.heap.size] w1 V → CodeAt V c ka ia ba) := Lib.hid ⟨hX2, HX1.out.2.2.trans hg1, fun V hk => hcode _ V (by rw [HX1.out.1]; omega) hk⟩
  have HO : Hid (∀ v, (#[.agg #[.slice ka c.kinds.length kc, .int .i64 c.ins, .int .i64 c.outs, .int .i64 c.cells, .int .i64 c.stack, .slice ia c.init.length ic, .slice ba c.body.length bc], v] : Array Value) = #[.agg (codeV c ka kc ia ic ba bc), v]) := Lib.hid (fun v => rfl)
  clear hX2 hcode hg1 hkc HX1 HW1 HCK HZ
  unfold codeV at hchk
  go_wp2_with (with_reducible refine hold_st ?_)
  refine Lib.hid ?_
  refine store_lastc #[.slice ka c.kinds.length kc, .int .i64 c.ins, .int .i64 c.outs, .int .i64 c.cells, .int .i64 c.stack, .slice ia c.init.length ic, .slice ba c.body.length bc] ?hp ?hv ?hi ?ho ?h1 ?hK
  case hp => rfl
  case hv => rfl
  case hi => kernel_rfl
  case ho => rfl
  case h1 => simp [Value.oneCell']
  obtain ⟨w2, hw2⟩ : ∃ w2, w2 = w1.alloc (.cells #[.slice ka c.kinds.length kc, .int .i64 c.ins, .int .i64 c.outs, .int .i64 c.cells, .int .i64 c.stack, .slice ia c.init.length ic, .slice ba c.body.length bc] 27) := ⟨_, rfl⟩
  have hr2 := heap_alloc_new w1 (.cells #[.slice ka c.kinds.length kc, .int .i64 c.ins, .int .i64 c.outs, .int .i64 c.cells, .int .i64 c.stack, .slice ia c.init.length ic, .slice ba c.body.length bc] 27)
  have hg2 := World.grownBy_alloc w1 (.cells #[.slice ka c.kinds.length kc, .int .i64 c.ins, .int .i64 c.outs, .int .i64 c.cells, .int .i64 c.stack, .slice ia c.init.length ic, .slice ba c.body.length bc] 27) none
  rw [← hw2] at hr2 hg2 hchk ⊢
  have HR := Lib.hid (And.intro hr2 hg2)
  generalize w1.heap.size = R at *
  have y0 := cell_of_row w2 _ 0 _ _ _ hr2
  have y1 := cell_of_row w2 _ 1 _ _ _ hr2
  have y2 := cell_of_row w2 _ 2 _ _ _ hr2
  have y3 := cell_of_row w2 _ 3 _ _ _ hr2
  have y4 := cell_of_row w2 _ 4 _ _ _ hr2
  have y5 := cell_of_row w2 _ 5 _ _ _ hr2
  have y6 := cell_of_row w2 _ 6 _ _ _ hr2
  clear hw2 hr2 hg2
  go_wp2_with (first | (go_at_call 10; refine hchk.mono ?_; rintro e w3 ⟨rfl, hg3⟩; refine Hid.out ?_))
  refine Lib.hid ?_
  have hr3 := (hg3.block _ (gl HR.out.1) (by simp)).trans HR.out.1
  have hx3 := ((HR.out.2.trans hg3).block _ (gl HH.out.1) (by simp)).trans HH.out.1
  have HX3 := Lib.hid hx3
  have HG3 := Lib.hid (HR.out.2.trans hg3)
  clear y0 y1 y2 y3 y4 y5 y6 hchk hg3 hx3
  have y0 := cell_of_row w3 _ 0 _ _ _ hr3
  have y1 := cell_of_row w3 _ 1 _ _ _ hr3
  have y2 := cell_of_row w3 _ 2 _ _ _ hr3
  have y3 := cell_of_row w3 _ 3 _ _ _ hr3
  have y4 := cell_of_row w3 _ 4 _ _ _ hr3
  have y5 := cell_of_row w3 _ 5 _ _ _ hr3
  have y6 := cell_of_row w3 _ 6 _ _ _ hr3
  clear hr3
  go_wp2_with (with_reducible refine hold_st ?_)
  refine Lib.hid ?_
  refine store_rowL (t0 := 27) w.heap.size #[.slice ka c.kinds.length kc, .int .i64 c.ins, .int .i64 c.outs, .int .i64 c.cells, .int .i64 c.stack, .slice ia c.init.length ic, .slice ba c.body.length bc] #[.slice none 0 0, .int .i64 0, .int .i64 0, .int .i64 0, .int .i64 0, .slice none 0 0, .slice none 0 0] ?qhp ?qhv ?qhg ?qhi ?qho ?qh1 ?qhK
  case qhp => rfl
  case qhv => rfl
  case qhg => exact HX3.out
  case qhi => kernel_rfl
  case qho => rfl
  case qh1 => simp [Value.oneCell']
  intro V hV hgV
  have hk : Kp [w.heap.size] w1 V := (Kp.of0 HG3.out _).trans (Kp.of hgV _ (fun k e _ => by cases e; simp))
  have HE : Hid (PrP w c (.returned (.tuple #[.agg #[.slice ka c.kinds.length kc, .int .i64 c.ins, .int .i64 c.outs, .int .i64 c.cells, .int .i64 c.stack, .slice ia c.init.length ic, .slice ba c.body.length bc], .int .i64 0])) V) := Lib.hid ⟨Kp.grown HH.out.2.1 hk (fun k hk => by simp at hk; omega), ka, kc, ia, ic, ba, bc, rfl, HH.out.2.2 V hk⟩
  have HB := Lib.hid hV
  clear hk hV hgV y0 y1 y2 y3 y4 y5 y6 HX3 HG3 HR HH
  go_wp2
  exact bodyPost_ret (results_row_tmp rfl _ _ w.heap.size 27 _ (0, 0) _ (.int .i64 0) rfl rfl HB.out Tryz.underlying27 rfl (by kernel_rfl)) rfl HE.out
end Go.Proofs.YtfbhflpjhbemlaaGreat
