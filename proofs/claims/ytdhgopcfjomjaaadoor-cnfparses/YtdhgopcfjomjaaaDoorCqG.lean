/- cnf: the reader: clause. -/
import Derived.Test.YtdhgopcfjomjaaaDoorCqF
namespace Go.Proofs.YtdhgopcfjomjaaaDoor
open Go.RowKit Go.Maps Go.WideMaps
open Go.Lib hiding intOf run_convert_string_bytes
open Cn (I64)

namespace Cn
/-- literals, up to a 0 or the first that is bad -/
def clGo : Nat → List UInt8 → Bool → List Int → List Int × List UInt8 × Bool
  | 0, r, b, acc => (acc, r, b)
  | n + 1, r, b, acc => if b = true ∨ hasPrefix r [48] = true then (acc, r, b) else clGo n (trimPrefix (litRest r) [32]) (b || litBad r || !hasPrefix (litRest r) [32]) (acc ++ [litVal r])
theorem clGo_stop {r : List UInt8} {b : Bool} (h : b = true ∨ hasPrefix r [48] = true) (n : Nat) (acc : List Int) : clGo n r b acc = (acc, r, b) := by
  cases n with
  | zero => rfl
  | succ n => rw [clGo, if_pos h]
theorem clGo_step {r : List UInt8} {b : Bool} (h : ¬ (b = true ∨ hasPrefix r [48] = true)) (n : Nat) (acc : List Int) : clGo (n + 1) r b acc = clGo n (trimPrefix (litRest r) [32]) (b || litBad r || !hasPrefix (litRest r) [32]) (acc ++ [litVal r]) := by
  rw [clGo, if_neg h]
/-- what clause reads -/
def clP (r : List UInt8) (b : Bool) : List Int × List UInt8 × Bool :=
  ((clGo (r.length + 2) r b []).1, trimPrefix (clGo (r.length + 2) r b []).2.1 [48, 10], (clGo (r.length + 2) r b []).2.2 || !hasPrefix (clGo (r.length + 2) r b []).2.1 [48, 10])
theorem litRest_len (r : List UInt8) : (litRest r).length ≤ r.length := Nat.le_trans (trimL_len _) (trimP_len _ _)
theorem litRest_lt {r : List UInt8} (h : litBad r = false) : (litRest r).length < r.length := by
  have h1 := digs_len (trimPrefix r [45])
  have h2 := trimP_len r [45]
  have h3 : 0 < (digs (trimPrefix r [45])).length := by
    rcases Nat.eq_zero_or_pos (digs (trimPrefix r [45])).length with h0 | h0
    · have : litBad r = true := by
        unfold litBad
        rw [List.eq_nil_of_length_eq_zero h0]
        rfl
      rw [this] at h
      cases h
    · exact h0
  unfold litRest
  omega
end Cn
theorem Kp.ov {X : List Nat} {a b c : World} {r : Option Nat} (h : Kp X a b) (g : b.grownBy c r) (hr : ∀ k, r = some k → a.heap.size ≤ k) : Kp X a c :=
  ⟨g.os.trans h.os, g.tape.trans h.tape, g.output.trans h.output, Nat.le_trans h.size g.size, fun k hk hx => (g.block k (Nat.lt_of_lt_of_le hk h.size) (fun e => by have := hr k e.symm; omega)).trans (h.block k hk hx)⟩
def vlen : Value → Nat
  | .slice _ n _ => n
  | _ => 0
structure ClI (w : World) (rb L0 : Nat) (R : List Int × List UInt8 × Bool) (cv : Value) (wr : World) (acc : List Int) (r1 : List UInt8) (b1 : Bool) : Prop where
  own : wr.ownsRow w.heap.size 3 1 cv acc.length (ints acc)
  rd : Rd wr rb r1 b1
  kp : Kp [rb] w wr
  go : ∃ n, n + acc.length = L0 + 2 ∧ Cn.clGo n r1 b1 acc = R
  l1 : b1 = false → acc.length + r1.length ≤ L0
  l2 : acc.length ≤ L0 + 1
  l3 : r1.length ≤ L0

theorem ClI.end {w wr W' : World} {rb L0 : Nat} {R : List Int × List UInt8 × Bool} {cv : Value} {acc : List Int} {r1 : List UInt8} {b1 : Bool} (h : ClI w rb L0 R cv wr acc r1 b1) (hlt : rb < w.heap.size) (hs : b1 = true ∨ hasPrefix r1 [48] = true) (h2 : Rd W' rb (trimPrefix r1 [48, 10]) (b1 || !hasPrefix r1 [48, 10])) (hk : Kp [rb] wr W') :
    W'.ownsRow w.heap.size 3 1 cv R.1.length (ints R.1) ∧ Rd W' rb (trimPrefix R.2.1 [48, 10]) (R.2.2 || !hasPrefix R.2.1 [48, 10]) ∧ Kp [rb] w W' := by
  obtain ⟨n, _, hn⟩ := h.go
  rw [Cn.clGo_stop hs] at hn
  subst hn
  exact ⟨owns_on h.own (fun k e => hk.block k (h.own.lt k e).2 (fun hx => by rw [List.mem_singleton] at hx; have := (h.own.lt k e).1; omega)), h2, h.kp.trans hk⟩
set_option maxRecDepth 100000 in
set_option maxHeartbeats 4000000 in
theorem clause_any (w : World) (rb : Nat) (r : List UInt8) (bad : Bool) (h : Rd w rb r bad) (hl : r.length ≤ 2000000) (he : Errs w) (hne : 1 ≠ rb ∧ 2 ≠ rb) :
    Calls Tryd.prog 57 #[.pointer (some ⟨rb, 0, none⟩)] w fun e w' => ∃ v, e = .returned v ∧ w'.ownsRow w.heap.size 3 1 v (Cn.clP r bad).1.length (ints (Cn.clP r bad).1) ∧ Rd w' rb (Cn.clP r bad).2.1 (Cn.clP r bad).2.2 ∧ Kp [rb] w w' := by
  obtain ⟨L0, hL0⟩ : ∃ L0, L0 = r.length := ⟨_, rfl⟩
  obtain ⟨R, hR⟩ : ∃ R, R = Cn.clGo (L0 + 2) r bad [] := ⟨_, rfl⟩
  have hP : Cn.clP r bad = (R.1, trimPrefix R.2.1 [48, 10], R.2.2 || !hasPrefix R.2.1 [48, 10]) := by unfold Cn.clP; rw [← hL0, hR]
  rw [hP]
  have hlt : rb < w.heap.size := gl h
  obtain ⟨it, hit, hz, hsz, hby⟩ := info_parts info_i
  have HI : Hid (ClI w rb L0 R (.slice none 0 0) w [] r bad) := Lib.hid ⟨World.ownsRow_nil _ _ _ _, h, Kp.refl _ _, ⟨L0 + 2, rfl, hR.symm⟩, fun _ => by simp [hL0], by simp, by omega⟩
  have HE := Lib.hid (And.intro he (And.intro hne (And.intro hlt (show L0 ≤ 2000000 by omega))))
  clear hL0 hR hP h hl he hne hlt
  go_enter Tryd.func57, Tryd.ntmps57
  go_wp2
  go_loopw [3] (fun cv wr => ∃ acc r1 b1, Hid (ClI w rb L0 R cv wr acc r1 b1)) (fun cv _ => L0 + 2 - vlen cv)
  case atStart => exact ⟨_, _, _, HI⟩
  case round =>
    obtain ⟨acc, r1, b1, HT⟩ := hrel
    obtain ⟨a, c, hcv⟩ := owns_form HT.out.own
    subst hcv
    have c1 := HT.out.rd.c1
    have c0 := HT.out.rd.c0
    have hword := word_any _ rb r1 [48, 10] b1 HT.out.rd
    have HW := Lib.hid hword
    clear hword
    cases b1 with
    | true =>
      go_wp2_with (go_at_call 46; refine HW.out.mono ?_; rintro e w2 ⟨rfl, h2, hk2⟩; have H2 := Lib.hid (And.intro h2 hk2); clear h2 hk2)
      go_ret
      exact ⟨_, rfl, HT.out.end HE.out.2.2.1 (.inl rfl) H2.out.1 H2.out.2⟩
    | false =>
      have hhp : Calls Tryd.prog 67 #[.string ⟨r1.toArray⟩, .string ⟨#[48]⟩] wr fun e w' => e = .returned (.bool (hasPrefix r1 [48])) ∧ w' = wr := Tryd.strings_HasPrefix ⟨r1.toArray⟩ ⟨#[48]⟩ wr
      have HH := Lib.hid hhp
      clear hhp
      cases hp0 : hasPrefix r1 [48] with
      | true =>
        rw [hp0] at HH
        have HS := Lib.hid hp0
        clear hp0
        go_wp2_with (first
          | (go_at_call 67; refine HH.out.mono ?_; rintro e w1 ⟨rfl, hw1⟩; obtain rfl := hw1.symm)
          | (go_at_call 46; refine HW.out.mono ?_; rintro e w2 ⟨rfl, h2, hk2⟩; have H2 := Lib.hid (And.intro h2 hk2); clear h2 hk2))
        go_ret
        exact ⟨_, rfl, HT.out.end HE.out.2.2.1 (.inr HS.out) H2.out.1 H2.out.2⟩
      | false =>
        rw [hp0] at HH
        have hns : ¬ (false = true ∨ hasPrefix r1 [48] = true) := by rw [hp0]; simp
        have HNS := Lib.hid hns
        have hla := aheadL_any wr rb r1 [32] false HT.out.rd (by have := HT.out.l3; have := HE.out; omega) (HE.out.1.kp HT.out.kp (fun k hk => by rw [List.mem_singleton] at hk; rw [hk]; exact HE.out.2.1)) HE.out.2.1
        obtain ⟨x, hx⟩ : ∃ x, x = Cn.litVal r1 := ⟨_, rfl⟩
        rw [← hx] at hla
        have HLA := Lib.hid (And.intro hla hx)
        clear hp0 hns hla hx HW
        have HL1 := Lib.hid (HT.out.l1 rfl)
        have hacc : acc.length ≤ 2000000 := by have := HL1.out; have := HE.out; omega
        go_wp2_with (first
          | (go_at_call 67; refine HH.out.mono ?_; rintro e w1 ⟨rfl, hw1⟩; obtain rfl := hw1.symm)
          | (go_at_call 47; refine HLA.out.1.mono ?_; rintro e w2 ⟨rfl, h2, hk2⟩; have ho2 := owns_on HT.out.own (fun k e => hk2.block k (HT.out.own.lt k e).2 (fun hx => by rw [List.mem_singleton] at hx; have := (HT.out.own.lt k e).1; have := HE.out.2.2.1; omega)); have H2 := Lib.hid (And.intro h2 (And.intro hk2 ho2)); clear h2 hk2 ho2)
          | (at_builtin; refine wpList_append_own _ rfl _ _ 36 rfl w.heap.size 3 it _ 1 8 Tryd.underlying36 hit hz hsz hby rfl (by decide) _ acc.length (ints acc) rfl (H2.out.2.2.alloc _) ⟨w2.heap.size, 0, none⟩ 1 1 [.int .i64 x] rfl rfl (fun j u hu => by rw [addr_at, Nat.zero_add, row_cell (heap_alloc_new w2 _)]; exact hu) (fun u hu => by rw [List.mem_singleton.1 hu]; rfl) (by unfold maxLen; omega) (by omega) (by have := HT.out.kp.size; have := H2.out.2.1.size; rw [World.size_alloc]; omega) ?_; intro v' w4 ho4 hg4 _; have H4 := Lib.hid (And.intro ho4 hg4); clear ho4 hg4))
        obtain ⟨a', c', hv'⟩ := owns_form H4.out.1
        subst hv'
        have hown := HT.out.own
        have hlow : ∀ k, (Value.slice a acc.length c).ownBlock = some k → w.heap.size ≤ k := fun k e => (hown.lt k e).1
        obtain ⟨m, hm1, hm2⟩ := HT.out.go
        obtain ⟨m', rfl⟩ : ∃ m', m = m' + 1 := ⟨m - 1, by have := HL1.out; omega⟩
        rw [Cn.clGo_step HNS.out] at hm2
        rw [← HLA.out.2] at hm2
        have hlen : (trimPrefix (Cn.litRest r1) [32]).length ≤ (Cn.litRest r1).length := Cn.trimP_len _ _
        have hrb : rb ∉ ([] : List Nat) := by simp
        refine ⟨⟨acc ++ [x], _, _, Lib.hid ⟨?_, ?_, ?_, ⟨m', ?_, hm2⟩, ?_, ?_, ?_⟩⟩, ?_⟩
        · rw [List.length_append, ints, List.map_append]; exact H4.out.1
        · have h1 := (World.grownBy_alloc w2 (.cells #[.int .i64 x] 3) none).block rb (gl H2.out.1) (by simp)
          have h2 := H4.out.2.block rb (by rw [World.size_alloc]; have := gl H2.out.1; omega) (fun e => by have := hlow rb e.symm; have := HE.out.2.2.1; omega)
          exact (h2.trans h1).trans H2.out.1
        · exact Kp.ov ((HT.out.kp.trans H2.out.2.1).trans (Kp.of0 (World.grownBy_alloc w2 _ none) _)) H4.out.2 hlow
        · rw [List.length_append, List.length_singleton]; omega
        · intro hb
          have h1 : Cn.litBad r1 = false := by
            cases h : Cn.litBad r1 with
            | false => rfl
            | true => rw [h] at hb; simp at hb
          have h2 := Cn.litRest_lt h1
          have := HL1.out
          rw [List.length_append, List.length_singleton]
          omega
        · rw [List.length_append, List.length_singleton]; have := HL1.out; omega
        · have := Cn.litRest_len r1; have := HL1.out; omega
        · have := HL1.out
          show L0 + 2 - (acc.length + 1) < L0 + 2 - acc.length
          omega
end Go.Proofs.YtdhgopcfjomjaaaDoor
