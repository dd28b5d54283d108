/- Texts joined: CgE, CgF, CgG, CgH. -/
import Derived.Test.YtfbhflpjhbemlaaGreatJnG
import Derived.Test.YtfbhflpjhbemlaaGreatJnD
import Derived.WalkMore
/- Package code: the reader's number. -/
namespace Go.Proofs.YtfbhflpjhbemlaaGreat
open Go.RowKit Go.Maps Go.WideMaps

theorem u64_and1 (z : Nat) (hz : z < 18446744073709551616) : bits .and .u64 (z : Int) 1 = ((z % 2 : Nat) : Int) := by
  rw [show (1 : Int) = ((1 : Nat) : Int) from rfl, u64_and_nat _ _ hz (by decide), Nat.and_one_is_mod]
theorem xor_m1 (a : Int) (h0 : 0 ≤ a) (h1 : a ≤ 9223372036854775807) : bits .xor .i64 a (-1) = -a - 1 := by
  have e := Bv.and1 0
  clear e
  show IntKind.i64.wrap ((BitVec.ofInt 64 a ^^^ BitVec.ofInt 64 (-1)).toNat : Nat) = -a - 1
  have h2 : BitVec.ofInt 64 (-1) = BitVec.allOnes 64 := by decide
  have h3 : (BitVec.ofInt 64 a ^^^ BitVec.allOnes 64) = ~~~ (BitVec.ofInt 64 a) := BitVec.xor_allOnes
  rw [h2, h3, BitVec.toNat_not, BitVec.toNat_ofInt, IntKind.wrap_i64]
  omega
theorem xor_0 (a : Int) (h0 : 0 ≤ a) (h1 : a ≤ 9223372036854775807) : bits .xor .i64 a 0 = a := by
  show IntKind.i64.wrap ((BitVec.ofInt 64 a ^^^ BitVec.ofInt 64 0).toNat : Nat) = a
  have h2 : BitVec.ofInt 64 0 = 0#64 := by decide
  rw [h2, BitVec.xor_zero, BitVec.toNat_ofInt, IntKind.wrap_i64]
  omega
theorem zagz (z : Nat) (hz : z < 18446744073709551616) : bits .xor .i64 ((z : Int) / 2) (wrap64 (-wrap64 (bits .and .u64 (z : Int) 1))) = Cd.zag z := by
  rw [u64_and1 z hz]
  have hd : (z : Int) / 2 ≤ 9223372036854775807 := by omega
  unfold Cd.zag
  rcases (show z % 2 = 0 ∨ z % 2 = 1 by omega) with h | h
  · rw [h, if_pos rfl, show wrap64 (-wrap64 ((0 : Nat) : Int)) = 0 by simp [wrap64], xor_0 _ (by omega) hd]
    omega
  · rw [h, if_neg (by decide), show wrap64 (-wrap64 ((1 : Nat) : Int)) = -1 by simp [wrap64], xor_m1 _ (by omega) hd]
    omega
theorem unzig (z : Nat) (hz : z < 18446744073709551616) (w : World) : Calls Tryz.prog 38 #[.int .u64 (z : Int)] w fun e w' => e = .returned (.int .i64 (Cd.zag z)) ∧ w' = w := by
  have HZ := Lib.hid (zagz z hz)
  go_enter Tryz.func38, Tryz.ntmps38
  go_wp2
  rw [HZ.out]
  go_ret
  exact ⟨rfl, rfl⟩

theorem and127 : ∀ a : Fin 256, (a.val &&& 127) = a.val % 128 := by decide +kernel
theorem and128h : ∀ a : Fin 256, 128 ≤ a.val → (a.val &&& 128) = 128 := by decide +kernel
theorem and128l : ∀ a : Fin 256, a.val < 128 → (a.val &&& 128) = 0 := by decide +kernel
theorem andn (d : Nat) (h : d < 256) : bits .andNot .u8 (d : Int) 128 = ((d % 128 : Nat) : Int) := by
  rw [show (128 : Int) = ((128 : Nat) : Int) from rfl, u8_andNot_nat _ _ h (by decide), and127 ⟨d, h⟩]
theorem andh (d : Nat) (h : d < 256) (h2 : 128 ≤ d) : bits .and .u8 (d : Int) 128 = 128 := by
  rw [show (128 : Int) = ((128 : Nat) : Int) from rfl, u8_and_nat _ _ h (by decide), and128h ⟨d, h⟩ h2]
theorem andl (d : Nat) (h : d < 256) (h2 : d < 128) : bits .and .u8 (d : Int) 128 = 0 := by
  rw [show (128 : Int) = ((128 : Nat) : Int) from rfl, u8_and_nat _ _ h (by decide), and128l ⟨d, h⟩ h2]
  rfl
theorem p7i (i : Nat) : ((2 : Int) ^ (7 * i)) = ((Cd.P7 i : Nat) : Int) := by
  unfold Cd.P7
  rw [Int.natCast_pow]
  rfl
theorem P7_le {i : Nat} (h : i ≤ 9) : Cd.P7 i ≤ 9223372036854775808 := by
  have := Cd.P7_mono h
  rwa [Cd.P7_9] at this
theorem or_acc (z d i : Nat) (hz : z < Cd.P7 i) (hi : i ≤ 9) : bits .or .u64 (z : Int) (IntKind.u64.wrap ((d : Int) * 2 ^ (7 * i))) = ((z ||| d * Cd.P7 i % 18446744073709551616 : Nat) : Int) := by
  have h1 := P7_le hi
  rw [p7i, u64w, ← Int.natCast_mul, show (18446744073709551616 : Int) = ((18446744073709551616 : Nat) : Int) from rfl, ← Int.natCast_emod, u64_or_nat _ _ (by omega) (Nat.mod_lt _ (by decide))]
theorem or_add (z d i : Nat) (hz : z < Cd.P7 i) (h : d * Cd.P7 i < 18446744073709551616) : (z ||| d * Cd.P7 i % 18446744073709551616) = z + d * Cd.P7 i := by
  rw [Nat.mod_eq_of_lt h, Nat.or_comm]
  have := Nat.shiftLeft_add_eq_or_of_lt (i := 7 * i) (b := z) hz d
  rw [Nat.shiftLeft_eq] at this
  unfold Cd.P7
  omega
theorem ov_is (d i : Nat) : (IntKind.u64.wrap ((d : Int) * 2 ^ (7 * i)) / 2 ^ (7 * i) != (d : Int)) = decide (18446744073709551616 ≤ d * Cd.P7 i) := by
  rw [p7i, u64w, ← Int.natCast_mul, show (18446744073709551616 : Int) = ((18446744073709551616 : Nat) : Int) from rfl, ← Int.natCast_emod, ← Int.natCast_ediv]
  have hp := Cd.P7_pos i
  by_cases h : 18446744073709551616 ≤ d * Cd.P7 i
  · rw [decide_eq_true h, bne_iff_ne]
    intro e
    have e : d * Cd.P7 i % 18446744073709551616 / Cd.P7 i = d := by omega
    have h2 : d * Cd.P7 i % 18446744073709551616 < d * Cd.P7 i := Nat.lt_of_lt_of_le (Nat.mod_lt _ (by decide)) h
    have h3 := Nat.div_lt_of_lt_mul (show d * Cd.P7 i % 18446744073709551616 < Cd.P7 i * d by rw [Nat.mul_comm (Cd.P7 i)]; exact h2)
    omega
  · rw [decide_eq_false h, bne_eq_false_iff_eq, Nat.mod_eq_of_lt (by omega), Nat.mul_div_cancel _ hp]
/-- the reader: what is read (block B), how far it is (block A) -/
structure Rn (M : Nat) (w : World) (A B : Nat) (l : List UInt8) (p : Nat) : Prop where
  at_ : w.heap[A]? = some (.cells #[.int .i64 (p : Int)] 3 (0, 0))
  box : ∃ a c, w.heap[B]? = some (.cells #[.slice a l.length c] 22 (0, 0)) ∧ BytesAt w a l ∧ ∀ g o, a = some ⟨g, o, none⟩ → l ≠ [] → g < M
  hA : M ≤ A
  hB : M ≤ B
  ne : A ≠ B
  le : p ≤ l.length
theorem Rn.on {M : Nat} {w w' : World} {A B : Nat} {l : List UInt8} {p : Nat} (h : Rn M w A B l p) (hg : w.grownBy w' none) : Rn M w' A B l p := by
  obtain ⟨a, c, h1, h2, h3⟩ := h.box
  refine ⟨(hg.block _ (gl h.at_) (by simp)).trans h.at_, ⟨a, c, (hg.block _ (gl h1) (by simp)).trans h1, fun i b hb => ?_, h3⟩, h.hA, h.hB, h.ne, h.le⟩
  obtain ⟨g, o, e, hc⟩ := h2 i b hb
  exact ⟨g, o, e, hg.cell hc (by simp)⟩
theorem Rn.step {M : Nat} {w : World} {A B : Nat} {l : List UInt8} {p : Nat} (h : Rn M w A B l p) (q : Nat) (hq : q ≤ l.length) : Rn M (w.setCell ⟨A, 0, none⟩ (.int .i64 (q : Int))) A B l q := by
  obtain ⟨a, c, h1, h2, h3⟩ := h.box
  refine ⟨heap_setCell_same _ _ _ _ _ _ h.at_, ⟨a, c, (heap_setCell_other _ _ _ _ (fun e => h.ne e.symm)).trans h1, fun i b hb => ?_, h3⟩, h.hA, h.hB, h.ne, hq⟩
  obtain ⟨g, o, e, hc⟩ := h2 i b hb
  refine ⟨g, o, e, ?_⟩
  rw [World.cell?_setCell_far _ _ _ _ (fun e2 => by have h5 := h3 g o e (fun e3 => by rw [e3] at hb; simp at hb); have h6 := h.hA; have e2 : A = g := e2; omega)]
  exact hc

theorem grown_set (w : World) (a : Addr) (v : Value) : w.grownBy (w.setCell a v) (some a.block) :=
  ⟨rfl, rfl, rfl, by simp [World.setCell], fun k _ hk => heap_setCell_other w a k v (fun e => hk (by rw [e]))⟩
/-- what number leaves -/
def NuP (M : Nat) (w : World) (A B : Nat) (l : List UInt8) (p : Nat) (e : Ending) (w' : World) : Prop := w.grownBy w' (some A) ∧ ∃ q, Rn M w' A B l q ∧ match Cd.rd1 (l.drop p) with
  | none => e = .returned (.tuple #[.int .i64 0, .bool false])
  | some (n, r) => e = .returned (.tuple #[.int .i64 n, .bool true]) ∧ l.drop q = r

set_option maxHeartbeats 4000000 in
set_option maxRecDepth 100000 in
theorem number_any (M A B : Nat) (l : List UInt8) (p : Nat) (hl : l.length ≤ 4000000) (w : World) (h : Rn M w A B l p) :
    Calls Tryz.prog 37 #[.pointer (some ⟨A, 0, none⟩), .pointer (some ⟨B, 0, none⟩)] w (NuP M w A B l p) := by
  have HR := Lib.hid h
  clear h
  go_enter Tryz.func37, Tryz.ntmps37
  go_wp2
  go_step3
  go_wp2
  go_step3
  go_wp2
  go_loopw [4, 5] (fun zv sv wr => ∃ (i z : Nat), i ≤ 10 ∧ sv = .int .i64 ((7 * i : Nat) : Int) ∧ zv = .int .u64 (z : Int) ∧ Hid (w.grownBy wr (some A) ∧ Rn M wr A B l (p + i) ∧ (i < 10 → z < Cd.P7 i ∧ Cd.rdS (10 - i) i z (l.drop (p + i)) = Cd.rdS 10 0 0 (l.drop p)) ∧ (i = 10 → Cd.rdS 10 0 0 (l.drop p) = none))) (fun _ sv _ => 70 - (intOf sv).toNat)
  case atStart => exact ⟨0, 0, by omega, rfl, rfl, Lib.hid ⟨World.grownBy.refl _ _, HR.out, fun _ => ⟨Cd.P7_pos 0, rfl⟩, fun h => by omega⟩⟩
  case round =>
    obtain ⟨i, z, hi, rfl, rfl, HT⟩ := hrel
    obtain ⟨a, c, hbx, hby, -⟩ := HT.out.2.1.box
    have k0 := cell_of_row wr _ 0 _ _ _ HT.out.2.1.at_
    have k1 := cell_of_row wr _ 0 _ _ _ hbx
    have kf : wr.frozen? ⟨A, 0, none⟩ = false := by simp [World.frozen?, HT.out.2.1.at_]
    have hBY := Lib.hid hby
    clear hbx hby
    generalize hL : l.length = L at k1 hl
    have HL := Lib.hid hL
    clear hL
    have huz := fun z (hz : z < 18446744073709551616) V => unzig z hz V
    by_cases h10 : i = 10
    · subst h10
      have HN : Hid (Cd.rd1 (l.drop p) = none) := Lib.hid (by unfold Cd.rd1; rw [HT.out.2.2.2 rfl]; rfl)
      go_wp2
      go_ret2
      exact ⟨HT.out.1, _, HT.out.2.1, by rw [HN.out]; exact rfl⟩
    · have d64 : decide (((7 * i : Nat) : Int) < 64) = true := by rw [decide_eq_true_iff]; omega
      have HRD := Lib.hid (HT.out.2.2.1 (by omega))
      have hz64 : z < 18446744073709551616 := by have h1 := HRD.out.1; have h2 := P7_le (i := i) (by omega); omega
      by_cases hp : p + i < L
      · obtain ⟨b, hb⟩ : ∃ b, l[p + i]? = some b := ⟨_, List.getElem?_eq_getElem (by rw [HL.out]; exact hp)⟩
        obtain ⟨g, o, rfl, hcb⟩ := hBY.out _ _ hb
        obtain ⟨d, hd⟩ : ∃ d, d = b.toNat := ⟨_, rfl⟩
        have hd2 : d < 256 := by rw [hd]; exact UInt8.toNat_lt b
        rw [← hd] at hcb
        have hst := HT.out.2.1.step (p + i + 1) (by rw [HL.out]; omega)
        have hgs : w.grownBy (wr.setCell ⟨A, 0, none⟩ (.int .i64 ((p + i + 1 : Nat) : Int))) (some A) := (HT.out.1).trans (grown_set wr ⟨A, 0, none⟩ _)
        have ec : ((p + i + 1 : Nat) : Int) = (p : Int) + i + 1 := by omega
        rw [ec] at hst hgs
        have HST := Lib.hid (And.intro hst hgs)
        have HB := Lib.hid (And.intro hb hd)
        clear hb hd hst hgs ec
        have HDR : Hid (l.drop (p + i) = b :: l.drop (p + i + 1)) := Lib.hid (Cd.drop_at HB.out.1)
        by_cases hm : 128 ≤ d
        · have an2 : bits .and .u8 (d : Int) 128 = 128 := andh d hd2 hm
          obtain ⟨dd, hdd⟩ : ∃ dd, dd = d % 128 := ⟨_, rfl⟩
          have hdd2 : dd < 128 := by omega
          have an1 : bits .andNot .u8 (d : Int) 128 = (dd : Int) := by rw [andn d hd2, hdd]
          have HDD := Lib.hid hdd
          clear hdd
          obtain ⟨z', hz'⟩ : ∃ z', z' = (z ||| dd * Cd.P7 i % 18446744073709551616) := ⟨_, rfl⟩
          have hx : bits .or .u64 (z : Int) (IntKind.u64.wrap ((dd : Int) * 2 ^ (7 * i))) = (z' : Int) := by rw [or_acc z dd i HRD.out.1 (by omega), hz']
          have HZ' := Lib.hid hz'
          clear hz'
          go_wp2
          refine ⟨⟨i + 1, z', by omega, by rw [show ((7 * (i + 1) : Nat) : Int) = 7 * (i : Int) + 7 by omega], rfl, Lib.hid ⟨HST.out.2, HST.out.1, fun h => ?_, fun h => ?_⟩⟩, by simp [intOf]; omega⟩
          · have h1 := HRD.out
            rw [HDR.out, show 10 - i = (10 - (i + 1)) + 1 by omega, Cd.rdS, ← HB.out.2, if_pos hm] at h1
            have h2 : Cd.P7 i ≤ 72057594037927936 := by
              have := Cd.P7_mono (show i ≤ 8 by omega)
              have e8 : Cd.P7 8 = 72057594037927936 := by decide
              omega
            have h3 : dd * Cd.P7 i ≤ 127 * Cd.P7 i := Nat.mul_le_mul_right _ (by omega)
            have h4 : z' = z + (d - 128) * Cd.P7 i := by
              rw [HZ'.out, or_add z dd i h1.1 (by omega), HDD.out, show d % 128 = d - 128 by omega]
            rw [h4]
            refine ⟨?_, h1.2⟩
            have h5 : (d - 128) * Cd.P7 i ≤ 127 * Cd.P7 i := Nat.mul_le_mul_right _ (by omega)
            rw [Cd.P7_succ]
            omega
          · have h1 := HRD.out.2
            rw [HDR.out, show 10 - i = 0 + 1 by omega, Cd.rdS, ← HB.out.2, if_pos hm] at h1
            rw [← h1]
            rfl
        · have an2 : bits .and .u8 (d : Int) 128 = 0 := andl d hd2 (by omega)
          have an1 : bits .andNot .u8 (d : Int) 128 = (d : Int) := by rw [andn d hd2, Nat.mod_eq_of_lt (by omega)]
          obtain ⟨z', hz'⟩ : ∃ z', z' = (z ||| d * Cd.P7 i % 18446744073709551616) := ⟨_, rfl⟩
          have hx : bits .or .u64 (z : Int) (IntKind.u64.wrap ((d : Int) * 2 ^ (7 * i))) = (z' : Int) := by rw [or_acc z d i HRD.out.1 (by omega), hz']
          have HZ' := Lib.hid hz'
          clear hz'
          have hov := ov_is d i
          have HS1 : Hid (Cd.rdS 10 0 0 (l.drop p) = if d = 0 ∧ 0 < i then none else if 18446744073709551616 ≤ d * Cd.P7 i then none else some (z + d * Cd.P7 i, l.drop (p + i + 1))) := Lib.hid (by
            have h1 := HRD.out.2
            rw [HDR.out, show 10 - i = (10 - (i + 1)) + 1 by omega, Cd.rdS, ← HB.out.2, if_neg hm] at h1
            exact h1.symm)
          by_cases hz0 : d = 0 ∧ 0 < i
          · have HN : Hid (Cd.rd1 (l.drop p) = none) := Lib.hid (by unfold Cd.rd1; rw [HS1.out, if_pos hz0]; rfl)
            obtain ⟨rfl, hi0⟩ := hz0
            have dsh : decide ((0 : Int) < ((7 * i : Nat) : Int)) = true := by rw [decide_eq_true_iff]; omega
            clear hov
            go_wp2
            go_ret2
            exact ⟨HST.out.2, _, HST.out.1, by rw [HN.out]; exact rfl⟩
          · by_cases ho : 18446744073709551616 ≤ d * Cd.P7 i
            · rw [decide_eq_true ho] at hov
              have HN : Hid (Cd.rd1 (l.drop p) = none) := Lib.hid (by unfold Cd.rd1; rw [HS1.out, if_neg hz0, if_pos ho]; rfl)
              have hd0 : ¬ d = 0 := by
                rintro rfl
                omega
              have e0 : ((d : Int) == 0) = false := by rw [beq_eq_false_iff_ne]; omega
              go_wp2
              go_ret2
              exact ⟨HST.out.2, _, HST.out.1, by rw [HN.out]; exact rfl⟩
            · rw [decide_eq_false ho] at hov
              have hzv : z' = z + d * Cd.P7 i := by rw [HZ'.out, or_add z d i HRD.out.1 (by omega)]
              have HN : Hid (Cd.rd1 (l.drop p) = some (Cd.zag z', l.drop (p + i + 1))) := Lib.hid (by unfold Cd.rd1; rw [HS1.out, if_neg hz0, if_neg ho, hzv]; rfl)
              have hz'64 : z' < 18446744073709551616 := by
                have h1 := Cd.div64 (i := i) (d := d) (by omega) (by omega)
                have h2 := HRD.out.1
                omega
              have huz' := huz z' hz'64
              clear huz hzv ho
              by_cases hd0 : d = 0
              · have e0 : ((d : Int) == 0) = true := by rw [beq_iff_eq]; omega
                have dsh : decide ((0 : Int) < 7 * (i : Int)) = false := by rw [decide_eq_false_iff_not]; omega
                have hi0 := Lib.hid hd0
                clear hd0 hz0
                go_wp2_with (go_at_call 38; refine (huz' _).mono ?_; rintro e w' ⟨rfl, hw'⟩; obtain rfl := hw'.symm)
                go_ret2
                exact ⟨HST.out.2, _, HST.out.1, by rw [HN.out]; exact ⟨rfl, rfl⟩⟩
              · have e0 : ((d : Int) == 0) = false := by rw [beq_eq_false_iff_ne]; omega
                go_wp2_with (go_at_call 38; refine (huz' _).mono ?_; rintro e w' ⟨rfl, hw'⟩; obtain rfl := hw'.symm)
                go_ret2
                exact ⟨HST.out.2, _, HST.out.1, by rw [HN.out]; exact ⟨rfl, rfl⟩⟩
      · have HN : Hid (Cd.rd1 (l.drop p) = none) := Lib.hid (by
          unfold Cd.rd1
          rw [← HRD.out.2, List.drop_eq_nil_of_le (by rw [HL.out]; omega)]
          cases h : 10 - i with
          | zero => rfl
          | succ f => rfl)
        have dp : decide (((p + i : Nat) : Int) < (L : Int)) = false := by rw [decide_eq_false_iff_not]; omega
        go_wp2
        go_ret2
        exact ⟨HT.out.1, _, HT.out.2.1, by rw [HN.out]; exact rfl⟩
end Go.Proofs.YtfbhflpjhbemlaaGreat

/- Package code: newReader, its end, numbers into places. -/
namespace Go.Proofs.YtfbhflpjhbemlaaGreat
open Go.RowKit Go.Maps Go.WideMaps

namespace Cd
/-- so many numbers -/
def rdN : Nat → List UInt8 → Option (List Int × List UInt8)
  | 0, l => some ([], l)
  | k + 1, l => match rd1 l with
    | none => none
    | some (n, r) => (rdN k r).map fun x => (n :: x.1, x.2)
end Cd
/-- the reader as a value -/
def rdV (A B : Nat) : Array Value := #[.func (.func 37) #[] #[.pointer (some ⟨A, 0, none⟩), .pointer (some ⟨B, 0, none⟩)], .func (.func 39) #[] #[.pointer (some ⟨A, 0, none⟩), .pointer (some ⟨B, 0, none⟩)]]

set_option maxHeartbeats 2000000 in
theorem newReader_any (M : Nat) (w : World) (a : Option Addr) (c : Nat) (l : List UInt8) (hb : BytesAt w a l) (hM : M ≤ w.heap.size) (hbM : ∀ g o, a = some ⟨g, o, none⟩ → l ≠ [] → g < M) :
    Calls Tryz.prog 22 #[.slice a l.length c] w fun e w' => ∃ A B, e = .returned (.agg (rdV A B)) ∧ Rn M w' A B l 0 ∧ w.grownBy w' none ∧ w.heap.size ≤ A ∧ w.heap.size ≤ B := by
  obtain ⟨w3, hw3⟩ : ∃ w3, w3 = ((w.alloc (.cells #[.slice a l.length c] 22)).alloc (.cells (rdV (w.heap.size + 1 + 1) w.heap.size) 58)).alloc (.cells #[.int .i64 0] 3) := ⟨_, rfl⟩
  have hb0 : w3.heap[w.heap.size]? = some (.cells #[.slice a l.length c] 22 (0, 0)) := by rw [hw3]; exact row_alloc (row_alloc (heap_alloc_new w _) _) _
  have hr0 : w3.heap[w.heap.size + 1]? = some (.cells (rdV (w.heap.size + 1 + 1) w.heap.size) 58 (0, 0)) := by
    rw [hw3]
    have := heap_alloc_new (w.alloc (.cells #[.slice a l.length c] 22)) (.cells (rdV (w.heap.size + 1 + 1) w.heap.size) 58)
    rw [World.size_alloc] at this
    exact row_alloc this _
  have ha0 : w3.heap[w.heap.size + 1 + 1]? = some (.cells #[.int .i64 0] 3 (0, 0)) := by
    rw [hw3]
    have := heap_alloc_new ((w.alloc (.cells #[.slice a l.length c] 22)).alloc (.cells (rdV (w.heap.size + 1 + 1) w.heap.size) 58)) (.cells #[.int .i64 0] 3)
    rw [World.size_alloc, World.size_alloc] at this
    exact this
  have hg : w.grownBy w3 none := by rw [hw3]; exact ((World.grownBy_alloc w _ none).trans (World.grownBy_alloc _ _ none)).trans (World.grownBy_alloc _ _ none)
  have HF : Hid (Rn M w3 (w.heap.size + 1 + 1) w.heap.size l 0 ∧ w.grownBy w3 none) := Lib.hid ⟨⟨ha0, ⟨a, c, hb0, fun i b h => by
    obtain ⟨g, o, e, hc⟩ := hb i b h
    exact ⟨g, o, e, hg.cell hc (by simp)⟩, hbM⟩, by omega, hM, by omega, Nat.zero_le _⟩, hg⟩
  have HR := Lib.hid hr0
  have HW := Lib.hid hw3
  clear hb0 hr0 ha0 hg hb hw3
  go_enter Tryz.func22, Tryz.ntmps22
  go_wp2
  have e := HW.out
  unfold rdV at e
  rw [← e]
  exact bodyPost_ret (results_cell_row rfl _ _ (w.heap.size + 1) 58 _ (0, 0) _ rfl HR.out Tryz.underlying58 rfl (by kernel_rfl)) rfl ⟨w.heap.size + 1 + 1, w.heap.size, rfl, HF.out.1, HF.out.2, by omega, Nat.le_refl _⟩

theorem atEnd_any (M A B : Nat) (l : List UInt8) (p : Nat) (w : World) (h : Rn M w A B l p) : Calls Tryz.prog 39 #[.pointer (some ⟨A, 0, none⟩), .pointer (some ⟨B, 0, none⟩)] w fun e w' => e = .returned (.bool (decide (p = l.length))) ∧ w' = w := by
  obtain ⟨a, c, hbx, -, -⟩ := h.box
  have k0 := cell_of_row w _ 0 _ _ _ h.at_
  have k1 := cell_of_row w _ 0 _ _ _ hbx
  clear hbx h
  go_enter Tryz.func39, Tryz.ntmps39
  go_wp2
  go_ret
  exact ⟨ret_bool (by rw [Bool.eq_iff_iff]; simp; omega), rfl⟩

/-- pointers to k cells in a row -/
def ptrs (X o k : Nat) : List Value := (List.range k).map fun j => .pointer (some ⟨X, o + j, none⟩)
/-- a row with some cells set -/
def setN : Nat → List Int → Array Value → Array Value
  | _, [], a => a
  | o, n :: ns, a => setN (o + 1) ns (a.setIfInBounds o (.int .i64 n))
theorem setN_size : ∀ (ns : List Int) (o : Nat) (a : Array Value), (setN o ns a).size = a.size
  | [], _, _ => rfl
  | _ :: ns, o, a => by rw [setN, setN_size ns, Array.size_setIfInBounds]
/-- what numbers leaves -/
def NsP (M : Nat) (w : World) (A B X : Nat) (T : TypeId) (o k : Nat) (arr : Array Value) (l : List UInt8) (p : Nat) (e : Ending) (w' : World) : Prop := Kp [A, X] w w' ∧ ∃ q ms, Rn M w' A B l q ∧ w'.heap[X]? = some (.cells (setN o ms arr) T (0, 0)) ∧ ms.length ≤ k ∧ match Cd.rdN k (l.drop p) with
  | none => e = .returned (.bool false)
  | some (ns, r) => e = .returned (.bool true) ∧ l.drop q = r ∧ ms = ns

theorem Rn.kp {M : Nat} {w w' : World} {X : List Nat} {A B : Nat} {l : List UInt8} {p : Nat} (h : Rn M w A B l p) (hk : Kp X w w') (hA : A ∉ X) (hB : B ∉ X) (hX : ∀ x ∈ X, M ≤ x) : Rn M w' A B l p := by
  obtain ⟨a, c, h1, h2, h3⟩ := h.box
  refine ⟨(hk.block _ (gl h.at_) hA).trans h.at_, ⟨a, c, (hk.block _ (gl h1) hB).trans h1, fun i b hb => ?_, h3⟩, h.hA, h.hB, h.ne, h.le⟩
  obtain ⟨g, o, e, hc⟩ := h2 i b hb
  refine ⟨g, o, e, hk.cell hc (fun hx => ?_)⟩
  have h5 := h3 g o e (fun e3 => by rw [e3] at hb; simp at hb)
  have := hX g hx
  omega
theorem setN_up : ∀ (ns : List Int) (n : Int) (o : Nat) (a : Array Value), setN o (ns ++ [n]) a = (setN o ns a).setIfInBounds (o + ns.length) (.int .i64 n)
  | [], _, _, _ => rfl
  | m :: ns, n, o, a => by
    rw [List.cons_append, setN, setN_up ns, setN, List.length_cons, show o + 1 + ns.length = o + (ns.length + 1) by omega]
theorem rdN_up : ∀ (t : Nat) (l : List UInt8) (k : Nat), Cd.rdN (t + k) l = match Cd.rdN t l with | none => none | some (ns, r) => (Cd.rdN k r).map fun x => (ns ++ x.1, x.2)
  | 0, l, k => by
    rw [Nat.zero_add]
    show Cd.rdN k l = (Cd.rdN k l).map fun x => ([] ++ x.1, x.2)
    cases Cd.rdN k l <;> rfl
  | t + 1, l, k => by
    rw [show t + 1 + k = (t + k) + 1 by omega, Cd.rdN, Cd.rdN]
    cases Cd.rd1 l with
    | none => rfl
    | some x =>
      obtain ⟨n, r⟩ := x
      simp only
      rw [rdN_up t r k]
      cases Cd.rdN t r with
      | none => rfl
      | some y =>
        obtain ⟨ns, r2⟩ := y
        simp only [Option.map_some]
        cases Cd.rdN k r2 <;> rfl
theorem rdN_len : ∀ (t : Nat) (l : List UInt8) (ns : List Int) (r : List UInt8), Cd.rdN t l = some (ns, r) → ns.length = t
  | 0, _, _, _, h => by cases h; rfl
  | t + 1, l, ns, r, h => by
    rw [Cd.rdN] at h
    cases h1 : Cd.rd1 l with
    | none => rw [h1] at h; cases h
    | some x =>
      rw [h1] at h
      simp only at h
      cases h2 : Cd.rdN t x.2 with
      | none => rw [h2] at h; cases h
      | some y =>
        rw [h2] at h
        cases h
        simp [rdN_len t _ _ _ h2]

set_option maxHeartbeats 4000000 in
set_option maxRecDepth 100000 in
theorem numbers_any (M : Nat) (w : World) (A B X Y : Nat) (T : TypeId) (o k : Nat) (arr : Array Value) (l : List UInt8) (p : Nat) (hl : l.length ≤ 4000000) (hk : k ≤ 10) (hR : Rn M w A B l p) (hX : w.heap[X]? = some (.cells arr T (0, 0))) (ho : o + k ≤ arr.size) (hY : w.heap[Y]? = some (.cells (ptrs X o k).toArray 62 (0, 0))) (hne : X ≠ A ∧ X ≠ B ∧ Y ≠ A ∧ Y ≠ X) (hM : M ≤ X) :
    Calls Tryz.prog 23 #[.agg (rdV A B), .slice (some ⟨Y, 0, none⟩) k k] w (NsP M w A B X T o k arr l p) := by
  have HNM := fun q V (h : Rn M V A B l q) => number_any M A B l q hl V h
  have HNE := Lib.hid (And.intro hne (And.intro hM (And.intro ho (And.intro (gl hX) (gl hY)))))
  have hbx := heap_alloc_new w (.cells (rdV A B) 58)
  have HST : Hid (Kp [A, X] w (w.alloc (.cells (rdV A B) 58)) ∧ Rn M (w.alloc (.cells (rdV A B) 58)) A B l p ∧ (w.alloc (.cells (rdV A B) 58)).heap[X]? = some (.cells arr T (0, 0)) ∧ (w.alloc (.cells (rdV A B) 58)).heap[Y]? = some (.cells (ptrs X o k).toArray 62 (0, 0)) ∧ (w.alloc (.cells (rdV A B) 58)).heap[w.heap.size]? = some (.cells (rdV A B) 58 (0, 0))) := Lib.hid ⟨Kp.of0 (World.grownBy_alloc w _ none) _, hR.on (World.grownBy_alloc w _ none), row_alloc hX _, row_alloc hY _, hbx⟩
  have HAS0 : Hid (¬ w.heap.size = A) := Lib.hid (by have := gl hR.at_; omega)
  clear hR hX hY hne hM hbx ho
  go_enter Tryz.func23, Tryz.ntmps23
  go_wp2
  go_loopw [9] (fun iv wr => ∃ t : Nat, t ≤ k ∧ iv = .int .i64 (t : Int) ∧ Hid (∃ q ns r arr', Kp [A, X] w wr ∧ Rn M wr A B l q ∧ wr.heap[X]? = some (.cells arr' T (0, 0)) ∧ wr.heap[Y]? = some (.cells (ptrs X o k).toArray 62 (0, 0)) ∧ wr.heap[w.heap.size]? = some (.cells (rdV A B) 58 (0, 0)) ∧ Cd.rdN t (l.drop p) = some (ns, r) ∧ l.drop q = r ∧ arr' = setN o ns arr)) (fun i _ => k - (intOf i).toNat)
  case atStart => exact ⟨0, Nat.zero_le _, rfl, Lib.hid ⟨p, [], _, arr, HST.out.1, HST.out.2.1, HST.out.2.2.1, HST.out.2.2.2.1, HST.out.2.2.2.2, rfl, rfl, rfl⟩⟩
  case round =>
    obtain ⟨t, ht, rfl, HT⟩ := hrel
    obtain ⟨q, ns, r, arr', t1, t2, t3, t4, t5, t6, t7, t8⟩ := HT.out
    by_cases hlt : t < k
    · have y0 : wr.cell? ⟨Y, t, none⟩ = some (.pointer (some ⟨X, o + t, none⟩)) := by
        unfold World.cell?
        rw [t4]
        simp [ptrs, hlt]
      have y1 : wr.cell? ⟨w.heap.size, 0, none⟩ = some (.func (.func 37) #[] #[.pointer (some ⟨A, 0, none⟩), .pointer (some ⟨B, 0, none⟩)]) := by
        unfold World.cell?
        rw [t5]
        rfl
      have hnum := HNM q wr t2
      have HAS : Hid (¬ w.heap.size = A) := HAS0
      cases h1 : Cd.rd1 (l.drop q) with
      | none =>
        have hnum' : Calls Tryz.prog 37 #[.pointer (some ⟨A, 0, none⟩), .pointer (some ⟨B, 0, none⟩)] wr fun e w' => e = .returned (.tuple #[.int .i64 0, .bool false]) ∧ wr.grownBy w' (some A) ∧ ∃ q', Rn M w' A B l q' := hnum.mono fun e w' H => by
          obtain ⟨hg, q', hr, hm⟩ := H
          rw [h1] at hm
          exact ⟨hm, hg, q', hr⟩
        have hup := fun (V : World) (hg : wr.grownBy V (some A)) => (show V.heap[X]? = some (.cells arr' T (0, 0)) ∧ V.heap[Y]? = some (.cells (ptrs X o k).toArray 62 (0, 0)) ∧ V.heap[w.heap.size]? = some (.cells (rdV A B) 58 (0, 0)) from ⟨(hg.block _ (gl t3) (by simp; exact HNE.out.1.1)).trans t3, (hg.block _ (gl t4) (by simp; exact HNE.out.1.2.2.1)).trans t4, (hg.block _ (gl t5) (by simp; have := gl t2.at_; have := HNE.out.2.2.2.1; exact HAS.out)).trans t5⟩)
        have hcx := fun (V : World) (hg : wr.grownBy V (some A)) => (show (∃ u, V.cell? ⟨X, o + t, none⟩ = some u) ∧ V.frozen? ⟨X, o + t, none⟩ = false from by
          have h2 := (hup V hg).1
          have h3 := HNE.out.2.2.1
          have h4 : arr'.size = arr.size := by rw [t8, setN_size]
          refine ⟨⟨arr'[o + t]'(by omega), ?_⟩, by simp [World.frozen?, h2]⟩
          unfold World.cell?
          rw [h2]
          simp)
        have HUP := Lib.hid (And.intro hup (And.intro t1 (And.intro t2 (And.intro t6 (And.intro t7 t8)))))
        have HC := Lib.hid hcx
        clear hup hcx hnum t1 t2 t3 t4 t5 t6 t7 t8
        go_wp2_with (go_at_call 37; refine hnum'.mono ?_; rintro e V ⟨rfl, hg, hq⟩; obtain ⟨⟨u, hu⟩, hf⟩ := HC.out V hg; have HV := Lib.hid (And.intro hg hq); clear hg hq)
        obtain ⟨q', hq'⟩ := HV.out.2
        have hkx : Kp [X] V (V.setCell ⟨X, o + t, none⟩ (.int .i64 0)) := (Kp.refl _ _).set (by simp) _
        have hkA : Kp [A, X] wr V := Kp.of HV.out.1 _ (fun k e _ => by cases e; simp)
        have hk2 : Kp [A, X] w (V.setCell ⟨X, o + t, none⟩ (.int .i64 0)) := HUP.out.2.1.trans (hkA.trans (hkx.mono (fun k hk _ => by simp at hk; simp [hk])))
        have hxx := heap_setCell_same V X (o + t) _ _ (.int .i64 0) (HUP.out.1 V HV.out.1).1
        go_ret
        refine ⟨hk2, q', ns ++ [0], hq'.kp hkx (by simp; exact fun e => HNE.out.1.1 e.symm) (by simp; exact fun e => HNE.out.1.2.1 e.symm) (fun x hx => by simp at hx; rw [hx]; exact HNE.out.2.1), by rw [hxx, HUP.out.2.2.2.2.2, setN_up, rdN_len _ _ _ _ HUP.out.2.2.2.1], by rw [List.length_append, rdN_len _ _ _ _ HUP.out.2.2.2.1]; simp; omega, ?_⟩
        have e : Cd.rdN k (l.drop p) = none := by
          rw [show k = t + (k - t - 1 + 1) by omega, rdN_up, HUP.out.2.2.2.1]
          simp only
          rw [← HUP.out.2.2.2.2.1, Cd.rdN, h1]
          rfl
        rw [e]
        exact rfl
      | some x =>
        obtain ⟨n, r2⟩ := x
        have hnum' : Calls Tryz.prog 37 #[.pointer (some ⟨A, 0, none⟩), .pointer (some ⟨B, 0, none⟩)] wr fun e w' => e = .returned (.tuple #[.int .i64 n, .bool true]) ∧ wr.grownBy w' (some A) ∧ ∃ q', Rn M w' A B l q' ∧ l.drop q' = r2 := hnum.mono fun e w' H => by
          obtain ⟨hg, q', hr, hm⟩ := H
          rw [h1] at hm
          exact ⟨hm.1, hg, q', hr, hm.2⟩
        have hup := fun (V : World) (hg : wr.grownBy V (some A)) => (show V.heap[X]? = some (.cells arr' T (0, 0)) ∧ V.heap[Y]? = some (.cells (ptrs X o k).toArray 62 (0, 0)) ∧ V.heap[w.heap.size]? = some (.cells (rdV A B) 58 (0, 0)) from ⟨(hg.block _ (gl t3) (by simp; exact HNE.out.1.1)).trans t3, (hg.block _ (gl t4) (by simp; exact HNE.out.1.2.2.1)).trans t4, (hg.block _ (gl t5) (by simp; have := gl t2.at_; have := HNE.out.2.2.2.1; exact HAS.out)).trans t5⟩)
        have hcx := fun (V : World) (hg : wr.grownBy V (some A)) => (show (∃ u, V.cell? ⟨X, o + t, none⟩ = some u) ∧ V.frozen? ⟨X, o + t, none⟩ = false from by
          have h2 := (hup V hg).1
          have h3 := HNE.out.2.2.1
          have h4 : arr'.size = arr.size := by rw [t8, setN_size]
          refine ⟨⟨arr'[o + t]'(by omega), ?_⟩, by simp [World.frozen?, h2]⟩
          unfold World.cell?
          rw [h2]
          simp)
        have HUP := Lib.hid (And.intro hup (And.intro t1 (And.intro t2 (And.intro t6 (And.intro t7 t8)))))
        have HC := Lib.hid hcx
        clear hup hcx hnum t1 t2 t3 t4 t5 t6 t7 t8
        go_wp2_with (go_at_call 37; refine hnum'.mono ?_; rintro e V ⟨rfl, hg, hq⟩; obtain ⟨⟨u, hu⟩, hf⟩ := HC.out V hg; have HV := Lib.hid (And.intro hg hq); clear hg hq)
        obtain ⟨q', hq', hqr⟩ := HV.out.2
        have hkx : Kp [X] V (V.setCell ⟨X, o + t, none⟩ (.int .i64 n)) := (Kp.refl _ _).set (by simp) _
        have hkA : Kp [A, X] wr V := Kp.of HV.out.1 _ (fun k e _ => by cases e; simp)
        have hk2 : Kp [A, X] w (V.setCell ⟨X, o + t, none⟩ (.int .i64 n)) := HUP.out.2.1.trans (hkA.trans (hkx.mono (fun k hk _ => by simp at hk; simp [hk])))
        have hxx := heap_setCell_same V X (o + t) _ _ (.int .i64 n) (HUP.out.1 V HV.out.1).1
        refine ⟨⟨t + 1, by omega, by go_num, Lib.hid ⟨q', ns ++ [n], r2, _, hk2, hq'.kp hkx (by simp; exact fun e => HNE.out.1.1 e.symm) (by simp; exact fun e => HNE.out.1.2.1 e.symm) (fun x hx => by simp at hx; rw [hx]; exact HNE.out.2.1), hxx, (hkx.block _ (gl (HUP.out.1 V HV.out.1).2.1) (by simp; exact HNE.out.1.2.2.2)).trans (HUP.out.1 V HV.out.1).2.1, (hkx.block _ (gl (HUP.out.1 V HV.out.1).2.2) (by simp; have := HNE.out.2.2.2.1; omega)).trans (HUP.out.1 V HV.out.1).2.2, ?_, hqr, ?_⟩⟩, by simp [intOf]; omega⟩
        · rw [rdN_up, HUP.out.2.2.2.1]
          simp only
          rw [← HUP.out.2.2.2.2.1, Cd.rdN, h1]
          rfl
        · rw [HUP.out.2.2.2.2.2, setN_up, rdN_len _ _ _ _ HUP.out.2.2.2.1]
    · obtain rfl : t = k := by omega
      have HF : Hid (NsP M w A B X T o t arr l p (.returned (.bool true)) wr) := Lib.hid ⟨t1, q, ns, t2, by rw [t3, t8], by rw [rdN_len _ _ _ _ t6]; omega, by rw [t6]; exact ⟨rfl, t7, rfl⟩⟩
      go_wp2
      go_ret
      exact HF.out
end Go.Proofs.YtfbhflpjhbemlaaGreat

/- Package code: an instruction is read; lists. -/
namespace Go.Proofs.YtfbhflpjhbemlaaGreat
open Go.RowKit Go.Maps Go.WideMaps

/-- what instruction leaves -/
def InP (M : Nat) (w : World) (A B : Nat) (l : List UInt8) (p : Nat) (e : Ending) (w' : World) : Prop := w.grownBy w' (some A) ∧ ∃ q, Rn M w' A B l q ∧ match Cd.rdN 3 (l.drop p) with
  | none => ∃ a b c : Int, e = .returned (.tuple #[.agg #[.int .i64 a, .int .i64 b, .int .i64 c], .bool false])
  | some (ns, r) => e = .returned (.tuple #[.agg ((ns.map (Value.int .i64)).toArray), .bool true]) ∧ l.drop q = r

theorem results_row_tmp {P : Program} {fn : Func} {p u : Tmp} {ty : TypeId} (h : fn.results = #[.cell p ty, .tmp u]) (tmps : Array Value) (w : World) (g : Nat) (t : TypeId) (cs : Array Value) (fr : Nat × Nat) (d : TypeDesc) (v : Value) (hv : tmps.getD u undef = v)
    (hp : tmps.getD p undef = .pointer (some ⟨g, 0, none⟩)) (hg : w.heap[g]? = some (.cells cs t fr))
    (hu : P.underlying ty = some d) (hd : (match d with | .struct _ | .array _ _ => true | _ => false) = true) (hi : (P.info? ty).map (·.size) = some cs.size) :
    (results fn tmps).run P w = .ok (.tuple #[.agg cs, v]) w := by
  have hp' : tmps[p]?.getD undef = .pointer (some ⟨g, 0, none⟩) := by simpa using hp
  have hv' : tmps[u]?.getD undef = v := by simpa using hv
  simp [results, h, hp', hv', asAddr, run_loadVar_row w g t ty cs fr d hg hu hd hi]
theorem set3 : ∀ (ms : List Int), ms.length ≤ 3 → ∃ a b c, setN 0 ms #[.int .i64 0, .int .i64 0, .int .i64 0] = #[.int .i64 a, .int .i64 b, .int .i64 c]
  | [], _ => ⟨0, 0, 0, rfl⟩
  | [a], _ => ⟨a, 0, 0, rfl⟩
  | [a, b], _ => ⟨a, b, 0, rfl⟩
  | [a, b, c], _ => ⟨a, b, c, rfl⟩
  | _ :: _ :: _ :: _ :: _, h => by simp at h

set_option maxHeartbeats 4000000 in
set_option maxRecDepth 100000 in
theorem instruction_any (M : Nat) (w : World) (A B : Nat) (l : List UInt8) (p : Nat) (hl : l.length ≤ 4000000) (hR : Rn M w A B l p) (hM : M ≤ w.heap.size) :
    Calls Tryz.prog 26 #[.agg (rdV A B)] w (InP M w A B l p) := by
  obtain ⟨w2, hw2⟩ : ∃ w2, w2 = (w.alloc (.cells (rdV A B) 58)).alloc (.cells #[.int .i64 0, .int .i64 0, .int .i64 0] 32) := ⟨_, rfl⟩
  have hz2 : w2.heap.size = w.heap.size + 1 + 1 := by rw [hw2, World.size_alloc, World.size_alloc]
  have hg2 : w.grownBy w2 none := by rw [hw2]; exact (World.grownBy_alloc w _ none).trans (World.grownBy_alloc _ _ none)
  have hx2 : w2.heap[w.heap.size + 1]? = some (.cells #[.int .i64 0, .int .i64 0, .int .i64 0] 32 (0, 0)) := by
    rw [hw2]
    have := heap_alloc_new (w.alloc (.cells (rdV A B) 58)) (.cells #[.int .i64 0, .int .i64 0, .int .i64 0] 32)
    rw [World.size_alloc] at this
    exact this
  obtain ⟨w3, hw3⟩ : ∃ w3, w3 = w2.alloc (.cells (ptrs (w.heap.size + 1) 0 3).toArray 62) := ⟨_, rfl⟩
  have hg3 : w.grownBy w3 none := by rw [hw3]; exact hg2.trans (World.grownBy_alloc w2 _ none)
  have hy3 : w3.heap[w.heap.size + 1 + 1]? = some (.cells (ptrs (w.heap.size + 1) 0 3).toArray 62 (0, 0)) := by
    rw [hw3]
    have := heap_alloc_new w2 (.cells (ptrs (w.heap.size + 1) 0 3).toArray 62)
    rw [hz2] at this
    exact this
  have hx3 : w3.heap[w.heap.size + 1]? = some (.cells #[.int .i64 0, .int .i64 0, .int .i64 0] 32 (0, 0)) := by rw [hw3]; exact row_alloc hx2 _
  have hA := gl hR.at_
  have hB : B < w.heap.size := by obtain ⟨a, c, h1, -⟩ := hR.box; exact gl h1
  have hcall := numbers_any M w3 A B (w.heap.size + 1) (w.heap.size + 1 + 1) 32 0 3 #[.int .i64 0, .int .i64 0, .int .i64 0] l p hl (by decide) (hR.on hg3) hx3 (by decide) hy3 ⟨by omega, by omega, by omega, by omega⟩ (by omega)
  have HG3 := Lib.hid (And.intro hg3 (And.intro hA hB))
  have e3 : w3 = ((w.alloc (.cells (rdV A B) 58)).alloc (.cells #[.int .i64 0, .int .i64 0, .int .i64 0] 32)).alloc (.cells (ptrs (w.heap.size + 1) 0 3).toArray 62) := by rw [hw3, hw2]
  have HMW : Hid (M ≤ w.heap.size + 1) := Lib.hid (by omega)
  clear hw3 hw2 hz2 hg2 hx2 hg3 hy3 hx3 hA hB hR hM
  have hfin : ∀ V : World, Kp [A, w.heap.size + 1] w3 V → w.grownBy V (some A) := fun V hk => by
    have h1 := HG3.out.1
    refine ⟨hk.os.trans h1.os, hk.tape.trans h1.tape, hk.output.trans h1.output, Nat.le_trans h1.size hk.size, fun k hkk hne => ?_⟩
    exact (hk.block k (Nat.lt_of_lt_of_le hkk h1.size) (by simp; exact ⟨fun e => hne (by rw [e]), by omega⟩)).trans (h1.block k hkk (by simp))
  have hgo : ∀ Wx, Wx = w3 → ∀ (f : Ending → World → Prop), (∀ e V, NsP M w3 A B (w.heap.size + 1) 32 0 3 #[.int .i64 0, .int .i64 0, .int .i64 0] l p e V → f e V) → Calls Tryz.prog 23 #[.agg (rdV A B), .slice (some ⟨w.heap.size + 1 + 1, 0, none⟩) 3 3] Wx f := fun Wx e f hf => by rw [e]; exact hcall.mono hf
  have HGO := hgo _ e3.symm
  clear hgo hcall
  unfold rdV at HGO ⊢
  have hend : ∀ (V : World) (q : Nat) (a b c : Int), w.grownBy V (some A) → Rn M V A B l q → V.heap[w.heap.size + 1]? = some (.cells #[.int .i64 a, .int .i64 b, .int .i64 c] 32 (0, 0)) → Hid (w.grownBy (((V.setCell ⟨w.heap.size + 1, 0, none⟩ (.int .i64 a)).setCell ⟨w.heap.size + 1, 1, none⟩ (.int .i64 b)).setCell ⟨w.heap.size + 1, 2, none⟩ (.int .i64 c)) (some A) ∧ Rn M (((V.setCell ⟨w.heap.size + 1, 0, none⟩ (.int .i64 a)).setCell ⟨w.heap.size + 1, 1, none⟩ (.int .i64 b)).setCell ⟨w.heap.size + 1, 2, none⟩ (.int .i64 c)) A B l q ∧ (((V.setCell ⟨w.heap.size + 1, 0, none⟩ (.int .i64 a)).setCell ⟨w.heap.size + 1, 1, none⟩ (.int .i64 b)).setCell ⟨w.heap.size + 1, 2, none⟩ (.int .i64 c)).heap[w.heap.size + 1]? = some (.cells #[.int .i64 a, .int .i64 b, .int .i64 c] 32 (0, 0))) := fun V q a b c hg hr hx => by
    have hk : Kp [w.heap.size + 1] V (((V.setCell ⟨w.heap.size + 1, 0, none⟩ (.int .i64 a)).setCell ⟨w.heap.size + 1, 1, none⟩ (.int .i64 b)).setCell ⟨w.heap.size + 1, 2, none⟩ (.int .i64 c)) := (((Kp.refl _ V).set (by simp) _).set (by simp) _).set (by simp) _
    refine Lib.hid ⟨⟨hk.os.trans hg.os, hk.tape.trans hg.tape, hk.output.trans hg.output, Nat.le_trans hg.size hk.size, fun k hkk hne => ?_⟩, hr.kp hk (by simp; have := HG3.out.2.1; omega) (by simp; have := HG3.out.2.2; omega) (fun x hx => by simp at hx; rw [hx]; exact HMW.out), ?_⟩
    · exact (hk.block k (Nat.lt_of_lt_of_le hkk hg.size) (by simp; omega)).trans (hg.block k hkk hne)
    · exact heap_setCell_same _ _ 2 _ _ _ (heap_setCell_same _ _ 1 _ _ _ (heap_setCell_same _ _ 0 _ _ _ hx))
  cases hrd : Cd.rdN 3 (l.drop p) with
  | none =>
    have hc := HGO (fun e V => e = .returned (.bool false) ∧ w.grownBy V (some A) ∧ ∃ q a b c, Rn M V A B l q ∧ V.heap[w.heap.size + 1]? = some (.cells #[.int .i64 a, .int .i64 b, .int .i64 c] 32 (0, 0))) (fun e V H => by
      obtain ⟨h1, q, ms, h2, h3, h4, h5⟩ := H
      rw [hrd] at h5
      obtain ⟨a, b, c, h6⟩ := set3 ms h4
      exact ⟨h5, hfin V h1, q, a, b, c, h2, by rw [h3, h6]⟩)
    clear HGO e3 hfin
    go_enter Tryz.func26, Tryz.ntmps26
    go_wp2_with (go_at_call 23; refine hc.mono ?_; rintro e V ⟨rfl, hg, q, a, b, c, hr, hx⟩; have c0 := cell_of_row V _ 0 _ _ _ hx; have c1 := cell_of_row V _ 1 _ _ _ hx; have c2 := cell_of_row V _ 2 _ _ _ hx; have f0 : V.frozen? ⟨w.heap.size + 1, 0, none⟩ = false := (by simp [World.frozen?, hx]); have f1 : V.frozen? ⟨w.heap.size + 1, 1, none⟩ = false := (by simp [World.frozen?, hx]); have f2 : V.frozen? ⟨w.heap.size + 1, 2, none⟩ = false := (by simp [World.frozen?, hx]); have HV := hend V q a b c hg hr hx; clear hg hr hx)
    exact bodyPost_ret (results_row_tmp rfl _ _ (w.heap.size + 1) 32 _ (0, 0) _ (.bool false) rfl rfl HV.out.2.2 Tryz.underlying32 rfl (by kernel_rfl)) rfl ⟨HV.out.1, q, HV.out.2.1, by rw [hrd]; exact ⟨_, _, _, rfl⟩⟩
  | some x =>
    obtain ⟨ns, r⟩ := x
    obtain ⟨a, b, c, rfl⟩ : ∃ a b c, ns = [a, b, c] := by
      have := rdN_len _ _ _ _ hrd
      match ns, this with
      | [a, b, c], _ => exact ⟨a, b, c, rfl⟩
    have hc := HGO (fun e V => e = .returned (.bool true) ∧ w.grownBy V (some A) ∧ ∃ q, Rn M V A B l q ∧ V.heap[w.heap.size + 1]? = some (.cells #[.int .i64 a, .int .i64 b, .int .i64 c] 32 (0, 0)) ∧ l.drop q = r) (fun e V H => by
      obtain ⟨h1, q, ms, h2, h3, h4, h5⟩ := H
      rw [hrd] at h5
      obtain ⟨h6, h7, rfl⟩ := h5
      exact ⟨h6, hfin V h1, q, h2, h3, h7⟩)
    clear HGO e3 hfin
    go_enter Tryz.func26, Tryz.ntmps26
    go_wp2_with (go_at_call 23; refine hc.mono ?_; rintro e V ⟨rfl, hg, q, hr, hx, hq⟩; have c0 := cell_of_row V _ 0 _ _ _ hx; have c1 := cell_of_row V _ 1 _ _ _ hx; have c2 := cell_of_row V _ 2 _ _ _ hx; have f0 : V.frozen? ⟨w.heap.size + 1, 0, none⟩ = false := (by simp [World.frozen?, hx]); have f1 : V.frozen? ⟨w.heap.size + 1, 1, none⟩ = false := (by simp [World.frozen?, hx]); have f2 : V.frozen? ⟨w.heap.size + 1, 2, none⟩ = false := (by simp [World.frozen?, hx]); have HV := hend V q a b c hg hr hx; clear hg hr hx)
    exact bodyPost_ret (results_row_tmp rfl _ _ (w.heap.size + 1) 32 _ (0, 0) _ (.bool true) rfl rfl HV.out.2.2 Tryz.underlying32 rfl (by kernel_rfl)) rfl ⟨HV.out.1, q, HV.out.2.1, by rw [hrd]; exact ⟨rfl, hq⟩⟩
end Go.Proofs.YtfbhflpjhbemlaaGreat

/- Package code: a list of numbers is read. -/
namespace Go.Proofs.YtfbhflpjhbemlaaGreat
open Go.RowKit Go.Maps Go.WideMaps

theorem info_int : (Tryz.prog.info? 3).map (fun i => (i.zero, i.size, i.bytes)) = some (some (.int .i64 0), 1, 8) := by kernel_rfl
theorem Rn.by_ {M : Nat} {w w' : World} {row : Option Nat} {A B : Nat} {l : List UInt8} {p : Nat} (h : Rn M w A B l p) (hg : w.grownBy w' row) (hr : ∀ k, row = some k → k ≠ A ∧ k ≠ B ∧ M ≤ k) : Rn M w' A B l p :=
  h.kp (X := row.toList) (Kp.of hg _ (fun k e _ => by rw [e]; simp)) (fun hx => (hr A (by simpa using hx)).1 rfl) (fun hx => (hr B (by simpa using hx)).2.1 rfl) (fun x hx => (hr x (by simpa using hx)).2.2)
/-- what list leaves -/
def LiP (M : Nat) (w : World) (A B : Nat) (l : List UInt8) (p : Nat) (n most : Int) (e : Ending) (w' : World) : Prop := w.grownBy w' (some A) ∧ ∃ q, Rn M w' A B l q ∧ match (if n < 0 ∨ most < n then none else Cd.rdN n.toNat (l.drop p)) with
  | none => e = .returned (.tuple #[.slice none 0 0, .bool false])
  | some (ns, r) => ∃ v, e = .returned (.tuple #[v, .bool true]) ∧ w'.ownsRow w.heap.size 3 1 v ns.length (ns.map (Value.int .i64)) ∧ l.drop q = r

set_option maxHeartbeats 4000000 in
set_option maxRecDepth 100000 in
theorem listInt_any (M : Nat) (w : World) (A B : Nat) (l : List UInt8) (p : Nat) (n most : Int) (hl : l.length ≤ 4000000) (hm : most ≤ 60000) (hR : Rn M w A B l p) :
    Calls Tryz.prog 24 #[.int .i64 n, .int .i64 most, .func (.func 37) #[] #[.pointer (some ⟨A, 0, none⟩), .pointer (some ⟨B, 0, none⟩)]] w (LiP M w A B l p n most) := by
  by_cases hbad : n < 0 ∨ most < n
  · have HF : Hid (LiP M w A B l p n most (.returned (.tuple #[.slice none 0 0, .bool false])) w) := Lib.hid ⟨World.grownBy.refl _ _, p, hR, by rw [if_pos hbad]⟩
    clear hR
    by_cases h0 : n < 0
    · have d0 : decide (n < 0) = true := by simpa using h0
      go_enter Tryz.func24, Tryz.ntmps24
      go_wp2
      go_ret2
      exact HF.out
    · have d0 : decide (n < 0) = false := by simpa using h0
      have d1 : decide (most < n) = true := by rw [decide_eq_true_iff]; omega
      go_enter Tryz.func24, Tryz.ntmps24
      go_wp2
      go_ret2
      exact HF.out
  · obtain ⟨N, rfl⟩ : ∃ N : Nat, n = N := ⟨n.toNat, by omega⟩
    have hN : N ≤ 60000 := by omega
    have d0 : decide ((N : Int) < 0) = false := by rw [decide_eq_false_iff_not]; omega
    have d1 : decide (most < (N : Int)) = false := by rw [decide_eq_false_iff_not]; omega
    obtain ⟨i0, hi, hz0, hzs, hzb⟩ := info_parts info_int
    have HNM := fun q V (h : Rn M V A B l q) => number_any M A B l q hl V h
    have HBD := Lib.hid hbad
    have HA := Lib.hid (show A < w.heap.size ∧ B < w.heap.size from ⟨gl hR.at_, by obtain ⟨a, c, h1, -⟩ := hR.box; exact gl h1⟩)
    have HR := Lib.hid hR
    clear hbad hR
    go_enter Tryz.func24, Tryz.ntmps24
    go_wp2
    go_loopw [8, 19] (fun bv iv wr => ∃ t : Nat, t ≤ N ∧ iv = .int .i64 (t : Int) ∧ Hid (∃ q ns r, w.grownBy wr (some A) ∧ Rn M wr A B l q ∧ wr.ownsRow w.heap.size 3 1 bv ns.length (ns.map (Value.int .i64)) ∧ Cd.rdN t (l.drop p) = some (ns, r) ∧ l.drop q = r)) (fun _ i _ => N - (intOf i).toNat)
    case atStart => exact ⟨0, Nat.zero_le _, rfl, Lib.hid ⟨p, [], _, World.grownBy.refl _ _, HR.out, World.ownsRow_nil _ _ _ _, rfl, rfl⟩⟩
    case round =>
      obtain ⟨t, ht, rfl, HT⟩ := hrel
      obtain ⟨q, ns, r, t1, t2, t3, t4, t5⟩ := HT.out
      clear HT
      obtain ⟨a1, c1, hbv, -⟩ := NumsAt.own t3
      subst hbv
      have hns := rdN_len _ _ _ _ t4
      by_cases hlt : t < N
      · have hnum := HNM q wr t2
        cases h1 : Cd.rd1 (l.drop q) with
        | none =>
          have HF : Hid (∀ V, wr.grownBy V (some A) → ∀ q', Rn M V A B l q' → LiP M w A B l p N most (.returned (.tuple #[.slice none 0 0, .bool false])) V) := Lib.hid (fun V hg q' hr => ⟨t1.trans hg, q', hr, by
            have e : Cd.rdN N (l.drop p) = none := by
              rw [show N = t + (N - t - 1 + 1) by omega, rdN_up, t4]
              simp only
              rw [← t5, Cd.rdN, h1]
              rfl
            rw [if_neg HBD.out, Int.toNat_natCast, e]⟩)
          have hnum' : Calls Tryz.prog 37 #[.pointer (some ⟨A, 0, none⟩), .pointer (some ⟨B, 0, none⟩)] wr fun e w' => e = .returned (.tuple #[.int .i64 0, .bool false]) ∧ wr.grownBy w' (some A) ∧ ∃ q', Rn M w' A B l q' := hnum.mono fun e w' H => by
            obtain ⟨hg, q', hr, hm⟩ := H
            rw [h1] at hm
            exact ⟨hm, hg, q', hr⟩
          clear hnum t1 t2 t3 t4 t5 hns
          go_wp2_with (go_at_call 37; refine hnum'.mono ?_; rintro e V ⟨rfl, hg, q', hr⟩; have HV := Lib.hid (HF.out V hg q' hr); clear hg hr)
          go_ret2
          exact HV.out
        | some x =>
          obtain ⟨m, r2⟩ := x
          have hnum' : Calls Tryz.prog 37 #[.pointer (some ⟨A, 0, none⟩), .pointer (some ⟨B, 0, none⟩)] wr fun e w' => e = .returned (.tuple #[.int .i64 m, .bool true]) ∧ wr.grownBy w' (some A) ∧ ∃ q', Rn M w' A B l q' ∧ l.drop q' = r2 := hnum.mono fun e w' H => by
            obtain ⟨hg, q', hr, hm⟩ := H
            rw [h1] at hm
            exact ⟨hm.1, hg, q', hr, hm.2⟩
          have HU := Lib.hid (And.intro t1 (And.intro t3 (And.intro t4 (And.intro t5 hns))))
          clear hnum t1 t2 t3 t4 t5 hns
          go_wp2_with (first | (go_at_call 37; refine hnum'.mono ?_; rintro e V ⟨rfl, hg, q', hr, hq⟩; have HV := Lib.hid (And.intro hg (And.intro hr hq)); clear hg hr hq) | (at_builtin; refine Hid.out ?_))
          refine Lib.hid ?_
          have hown2 : V.ownsRow w.heap.size 3 1 (.slice a1 ns.length c1) ns.length (ns.map (Value.int .i64)) := HU.out.2.1.kept HV.out.1 (.inr (fun e => by
            have h2 := (HU.out.2.1.lt A e).1
            have h3 := HA.out
            omega))
          have hz1 := hown2.alloc (.cells #[.int .i64 m] 3)
          have HLN := Lib.hid (show ns.length ≤ 60000 by have := HU.out.2.2.2.2; omega)
          refine wpList_append_own_at _ rfl _ _ 24 rfl w.heap.size 3 i0 _ 1 8 Tryz.underlying24 hi hz0 hzs hzb rfl (by decide) _ ns.length (ns.map (Value.int .i64)) rfl hz1 ⟨V.heap.size, 0, none⟩ 1 1 [.int .i64 m] rfl rfl (row_cellz (heap_alloc_new V _)) (by intro u hu; simp at hu; subst hu; rfl) (by have := HLN.out; unfold maxLen; omega) (by have := HLN.out; omega) (by have h1 := HU.out.1.size; have h2 := HV.out.1.size; rw [World.size_alloc]; omega) ?_
          intro v' w3 hown' hgr _ hat
          have HF : Hid (∃ q ns' r, w.grownBy w3 (some A) ∧ Rn M w3 A B l q ∧ w3.ownsRow w.heap.size 3 1 v' ns'.length (ns'.map (Value.int .i64)) ∧ Cd.rdN (t + 1) (l.drop p) = some (ns', r) ∧ l.drop q = r) := Lib.hid (by
            refine ⟨q', ns ++ [m], r2, ?_, ?_, ?_, ?_, HV.out.2.2⟩
            · have h1 : w.grownBy (V.alloc (.cells #[.int .i64 m] 3)) (some A) := (HU.out.1.trans HV.out.1).trans ⟨rfl, rfl, rfl, by rw [World.size_alloc]; omega, fun k hk _ => (World.grownBy_alloc V _ none).block k hk (by simp)⟩
              refine ⟨hgr.os.trans h1.os, hgr.tape.trans h1.tape, hgr.output.trans h1.output, Nat.le_trans h1.size hgr.size, fun k hk hne => ?_⟩
              rw [hgr.block k (Nat.lt_of_lt_of_le hk h1.size) (fun e => by have := (hz1.lt k e.symm).1; omega), h1.block k hk hne]
            · have h1 := HV.out.2.1.on (World.grownBy_alloc V (.cells #[.int .i64 m] 3) none)
              refine h1.by_ hgr (fun k e => ?_)
              have h2 := (hz1.lt k e).1
              have h3 := HA.out
              have h4 := HR.out.hA
              exact ⟨by omega, by omega, by omega⟩
            · have e1 : ns.map (Value.int .i64) ++ [Value.int .i64 m] = (ns ++ [m]).map (Value.int .i64) := by simp
              have e2 : ns.length + 1 = (ns ++ [m]).length := by simp
              rw [← e1, ← e2]
              exact hown'
            · rw [rdN_up, HU.out.2.2.1]
              simp only
              rw [← HU.out.2.2.2.1, Cd.rdN, h1]
              rfl)
          clear hown' hgr hat hz1 hown2
          go_wp2
          exact ⟨⟨t + 1, by omega, by go_num, HF⟩, by simp [intOf]; omega⟩
      · obtain rfl : t = N := by omega
        have HF : Hid (LiP M w A B l p t most (.returned (.tuple #[.slice a1 ns.length c1, .bool true])) wr) := Lib.hid ⟨t1, q, t2, by
          rw [if_neg HBD.out, Int.toNat_natCast, t4]
          exact ⟨_, rfl, t3, t5⟩⟩
        clear t1 t2 t3 t4 t5
        go_wp2
        go_ret2
        exact HF.out
end Go.Proofs.YtfbhflpjhbemlaaGreat
