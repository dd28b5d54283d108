/- Package code: the reader's number. -/
import Derived.Test.YtcjainfcndlllaaCgC
import Derived.Test.YtcjainfcndlllaaCdQ
import Derived.WalkMore
namespace Go.Proofs.Ytcjainfcndlllaa
open Go.RowKit Go.Maps Go.WideMaps

theorem u64_and1 (z : Nat) (hz : z < 18446744073709551616) : bits .and .u64 (z : Int) 1 = ((z % 2 : Nat) : Int) := by
  rw [show (1 : Int) = ((1 : Nat) : Int) from rfl, u64_and_nat _ _ hz (by decide), Nat.and_one_is_mod]
theorem xor_m1 (a : Int) (h0 : 0 ≤ a) (h1 : a ≤ 9223372036854775807) : bits .xor .i64 a (-1) = -a - 1 := by
  have e := Bv.and1 0
  clear e
  show IntKind.i64.wrap ((BitVec.ofInt 64 a ^^^ BitVec.ofInt 64 (-1)).toNat : Nat) = -a - 1
  have h2 : BitVec.ofInt 64 (-1) = BitVec.allOnes 64 := by decide
  have h3 : (BitVec.ofInt 64 a ^^^ BitVec.allOnes 64) = ~~~ (BitVec.ofInt 64 a) := BitVec.xor_allOnes
  rw [h2, h3, BitVec.toNat_not, BitVec.toNat_ofInt, IntKind.wrap_i64]
  omega
theorem xor_0 (a : Int) (h0 : 0 ≤ a) (h1 : a ≤ 9223372036854775807) : bits .xor .i64 a 0 = a := by
  show IntKind.i64.wrap ((BitVec.ofInt 64 a ^^^ BitVec.ofInt 64 0).toNat : Nat) = a
  have h2 : BitVec.ofInt 64 0 = 0#64 := by decide
  rw [h2, BitVec.xor_zero, BitVec.toNat_ofInt, IntKind.wrap_i64]
  omega
theorem zagz (z : Nat) (hz : z < 18446744073709551616) : bits .xor .i64 ((z : Int) / 2) (wrap64 (-wrap64 (bits .and .u64 (z : Int) 1))) = Cd.zag z := by
  rw [u64_and1 z hz]
  have hd : (z : Int) / 2 ≤ 9223372036854775807 := by omega
  unfold Cd.zag
  rcases (show z % 2 = 0 ∨ z % 2 = 1 by omega) with h | h
  · rw [h, if_pos rfl, show wrap64 (-wrap64 ((0 : Nat) : Int)) = 0 by simp [wrap64], xor_0 _ (by omega) hd]
    omega
  · rw [h, if_neg (by decide), show wrap64 (-wrap64 ((1 : Nat) : Int)) = -1 by simp [wrap64], xor_m1 _ (by omega) hd]
    omega
theorem unzig (z : Nat) (hz : z < 18446744073709551616) (w : World) : Calls Try.prog 64 #[.int .u64 (z : Int)] w fun e w' => e = .returned (.int .i64 (Cd.zag z)) ∧ w' = w := by
  have HZ := Lib.hid (zagz z hz)
  go_enter Try.func64, Try.ntmps64
  go_wp2
  rw [HZ.out]
  go_ret
  exact ⟨rfl, rfl⟩

theorem and127 : ∀ a : Fin 256, (a.val &&& 127) = a.val % 128 := by decide +kernel
theorem and128h : ∀ a : Fin 256, 128 ≤ a.val → (a.val &&& 128) = 128 := by decide +kernel
theorem and128l : ∀ a : Fin 256, a.val < 128 → (a.val &&& 128) = 0 := by decide +kernel
theorem andn (d : Nat) (h : d < 256) : bits .andNot .u8 (d : Int) 128 = ((d % 128 : Nat) : Int) := by
  rw [show (128 : Int) = ((128 : Nat) : Int) from rfl, u8_andNot_nat _ _ h (by decide), and127 ⟨d, h⟩]
theorem andh (d : Nat) (h : d < 256) (h2 : 128 ≤ d) : bits .and .u8 (d : Int) 128 = 128 := by
  rw [show (128 : Int) = ((128 : Nat) : Int) from rfl, u8_and_nat _ _ h (by decide), and128h ⟨d, h⟩ h2]
theorem andl (d : Nat) (h : d < 256) (h2 : d < 128) : bits .and .u8 (d : Int) 128 = 0 := by
  rw [show (128 : Int) = ((128 : Nat) : Int) from rfl, u8_and_nat _ _ h (by decide), and128l ⟨d, h⟩ h2]
  rfl
theorem p7i (i : Nat) : ((2 : Int) ^ (7 * i)) = ((Cd.P7 i : Nat) : Int) := by
  unfold Cd.P7
  rw [Int.natCast_pow]
  rfl
theorem P7_le {i : Nat} (h : i ≤ 9) : Cd.P7 i ≤ 9223372036854775808 := by
  have := Cd.P7_mono h
  rwa [Cd.P7_9] at this
theorem or_acc (z d i : Nat) (hz : z < Cd.P7 i) (hi : i ≤ 9) : bits .or .u64 (z : Int) (IntKind.u64.wrap ((d : Int) * 2 ^ (7 * i))) = ((z ||| d * Cd.P7 i % 18446744073709551616 : Nat) : Int) := by
  have h1 := P7_le hi
  rw [p7i, u64w, ← Int.natCast_mul, show (18446744073709551616 : Int) = ((18446744073709551616 : Nat) : Int) from rfl, ← Int.natCast_emod, u64_or_nat _ _ (by omega) (Nat.mod_lt _ (by decide))]
theorem or_add (z d i : Nat) (hz : z < Cd.P7 i) (h : d * Cd.P7 i < 18446744073709551616) : (z ||| d * Cd.P7 i % 18446744073709551616) = z + d * Cd.P7 i := by
  rw [Nat.mod_eq_of_lt h, Nat.or_comm]
  have := Nat.shiftLeft_add_eq_or_of_lt (i := 7 * i) (b := z) hz d
  rw [Nat.shiftLeft_eq] at this
  unfold Cd.P7
  omega
theorem ov_is (d i : Nat) : (IntKind.u64.wrap ((d : Int) * 2 ^ (7 * i)) / 2 ^ (7 * i) != (d : Int)) = decide (18446744073709551616 ≤ d * Cd.P7 i) := by
  rw [p7i, u64w, ← Int.natCast_mul, show (18446744073709551616 : Int) = ((18446744073709551616 : Nat) : Int) from rfl, ← Int.natCast_emod, ← Int.natCast_ediv]
  have hp := Cd.P7_pos i
  by_cases h : 18446744073709551616 ≤ d * Cd.P7 i
  · rw [decide_eq_true h, bne_iff_ne]
    intro e
    have e : d * Cd.P7 i % 18446744073709551616 / Cd.P7 i = d := by omega
    have h2 : d * Cd.P7 i % 18446744073709551616 < d * Cd.P7 i := Nat.lt_of_lt_of_le (Nat.mod_lt _ (by decide)) h
    have h3 := Nat.div_lt_of_lt_mul (show d * Cd.P7 i % 18446744073709551616 < Cd.P7 i * d by rw [Nat.mul_comm (Cd.P7 i)]; exact h2)
    omega
  · rw [decide_eq_false h, bne_eq_false_iff_eq, Nat.mod_eq_of_lt (by omega), Nat.mul_div_cancel _ hp]
/-- the reader: what is read (block B), how far it is (block A) -/
structure Rn (M : Nat) (w : World) (A B : Nat) (l : List UInt8) (p : Nat) : Prop where
  at_ : w.heap[A]? = some (.cells #[.int .i64 (p : Int)] 3 (0, 0))
  box : ∃ a c, w.heap[B]? = some (.cells #[.slice a l.length c] 38 (0, 0)) ∧ BytesAt w a l ∧ ∀ g o, a = some ⟨g, o, none⟩ → l ≠ [] → g < M
  hA : M ≤ A
  hB : M ≤ B
  ne : A ≠ B
  le : p ≤ l.length
theorem Rn.on {M : Nat} {w w' : World} {A B : Nat} {l : List UInt8} {p : Nat} (h : Rn M w A B l p) (hg : w.grownBy w' none) : Rn M w' A B l p := by
  obtain ⟨a, c, h1, h2, h3⟩ := h.box
  refine ⟨(hg.block _ (gl h.at_) (by simp)).trans h.at_, ⟨a, c, (hg.block _ (gl h1) (by simp)).trans h1, fun i b hb => ?_, h3⟩, h.hA, h.hB, h.ne, h.le⟩
  obtain ⟨g, o, e, hc⟩ := h2 i b hb
  exact ⟨g, o, e, hg.cell hc (by simp)⟩
theorem Rn.step {M : Nat} {w : World} {A B : Nat} {l : List UInt8} {p : Nat} (h : Rn M w A B l p) (q : Nat) (hq : q ≤ l.length) : Rn M (w.setCell ⟨A, 0, none⟩ (.int .i64 (q : Int))) A B l q := by
  obtain ⟨a, c, h1, h2, h3⟩ := h.box
  refine ⟨heap_setCell_same _ _ _ _ _ _ h.at_, ⟨a, c, (heap_setCell_other _ _ _ _ (fun e => h.ne e.symm)).trans h1, fun i b hb => ?_, h3⟩, h.hA, h.hB, h.ne, hq⟩
  obtain ⟨g, o, e, hc⟩ := h2 i b hb
  refine ⟨g, o, e, ?_⟩
  rw [World.cell?_setCell_far _ _ _ _ (fun e2 => by have h5 := h3 g o e (fun e3 => by rw [e3] at hb; simp at hb); have h6 := h.hA; have e2 : A = g := e2; omega)]
  exact hc

theorem grown_set (w : World) (a : Addr) (v : Value) : w.grownBy (w.setCell a v) (some a.block) :=
  ⟨rfl, rfl, rfl, by simp [World.setCell], fun k _ hk => heap_setCell_other w a k v (fun e => hk (by rw [e]))⟩
/-- what number leaves -/
def NuP (M : Nat) (w : World) (A B : Nat) (l : List UInt8) (p : Nat) (e : Ending) (w' : World) : Prop := w.grownBy w' (some A) ∧ ∃ q, Rn M w' A B l q ∧ match Cd.rd1 (l.drop p) with
  | none => e = .returned (.tuple #[.int .i64 0, .bool false])
  | some (n, r) => e = .returned (.tuple #[.int .i64 n, .bool true]) ∧ l.drop q = r

set_option maxHeartbeats 4000000 in
set_option maxRecDepth 100000 in
theorem number_any (M A B : Nat) (l : List UInt8) (p : Nat) (hl : l.length ≤ 4000000) (w : World) (h : Rn M w A B l p) :
    Calls Try.prog 63 #[.pointer (some ⟨A, 0, none⟩), .pointer (some ⟨B, 0, none⟩)] w (NuP M w A B l p) := by
  have HR := Lib.hid h
  clear h
  go_enter Try.func63, Try.ntmps63
  go_wp2
  go_step3
  go_wp2
  go_step3
  go_wp2
  go_loopw [4, 5] (fun zv sv wr => ∃ (i z : Nat), i ≤ 10 ∧ sv = .int .i64 ((7 * i : Nat) : Int) ∧ zv = .int .u64 (z : Int) ∧ Hid (w.grownBy wr (some A) ∧ Rn M wr A B l (p + i) ∧ (i < 10 → z < Cd.P7 i ∧ Cd.rdS (10 - i) i z (l.drop (p + i)) = Cd.rdS 10 0 0 (l.drop p)) ∧ (i = 10 → Cd.rdS 10 0 0 (l.drop p) = none))) (fun _ sv _ => 70 - (intOf sv).toNat)
  case atStart => exact ⟨0, 0, by omega, rfl, rfl, Lib.hid ⟨World.grownBy.refl _ _, HR.out, fun _ => ⟨Cd.P7_pos 0, rfl⟩, fun h => by omega⟩⟩
  case round =>
    obtain ⟨i, z, hi, rfl, rfl, HT⟩ := hrel
    obtain ⟨a, c, hbx, hby, -⟩ := HT.out.2.1.box
    have k0 := cell_of_row wr _ 0 _ _ _ HT.out.2.1.at_
    have k1 := cell_of_row wr _ 0 _ _ _ hbx
    have kf : wr.frozen? ⟨A, 0, none⟩ = false := by simp [World.frozen?, HT.out.2.1.at_]
    have hBY := Lib.hid hby
    clear hbx hby
    generalize hL : l.length = L at k1 hl
    have HL := Lib.hid hL
    clear hL
    have huz := fun z (hz : z < 18446744073709551616) V => unzig z hz V
    by_cases h10 : i = 10
    · subst h10
      have HN : Hid (Cd.rd1 (l.drop p) = none) := Lib.hid (by unfold Cd.rd1; rw [HT.out.2.2.2 rfl]; rfl)
      go_wp2
      go_ret2
      exact ⟨HT.out.1, _, HT.out.2.1, by rw [HN.out]; exact rfl⟩
    · have d64 : decide (((7 * i : Nat) : Int) < 64) = true := by rw [decide_eq_true_iff]; omega
      have HRD := Lib.hid (HT.out.2.2.1 (by omega))
      have hz64 : z < 18446744073709551616 := by have h1 := HRD.out.1; have h2 := P7_le (i := i) (by omega); omega
      by_cases hp : p + i < L
      · obtain ⟨b, hb⟩ : ∃ b, l[p + i]? = some b := ⟨_, List.getElem?_eq_getElem (by rw [HL.out]; exact hp)⟩
        obtain ⟨g, o, rfl, hcb⟩ := hBY.out _ _ hb
        obtain ⟨d, hd⟩ : ∃ d, d = b.toNat := ⟨_, rfl⟩
        have hd2 : d < 256 := by rw [hd]; exact UInt8.toNat_lt b
        rw [← hd] at hcb
        have hst := HT.out.2.1.step (p + i + 1) (by rw [HL.out]; omega)
        have hgs : w.grownBy (wr.setCell ⟨A, 0, none⟩ (.int .i64 ((p + i + 1 : Nat) : Int))) (some A) := (HT.out.1).trans (grown_set wr ⟨A, 0, none⟩ _)
        have ec : ((p + i + 1 : Nat) : Int) = (p : Int) + i + 1 := by omega
        rw [ec] at hst hgs
        have HST := Lib.hid (And.intro hst hgs)
        have HB := Lib.hid (And.intro hb hd)
        clear hb hd hst hgs ec
        have HDR : Hid (l.drop (p + i) = b :: l.drop (p + i + 1)) := Lib.hid (Cd.drop_at HB.out.1)
        by_cases hm : 128 ≤ d
        · have an2 : bits .and .u8 (d : Int) 128 = 128 := andh d hd2 hm
          obtain ⟨dd, hdd⟩ : ∃ dd, dd = d % 128 := ⟨_, rfl⟩
          have hdd2 : dd < 128 := by omega
          have an1 : bits .andNot .u8 (d : Int) 128 = (dd : Int) := by rw [andn d hd2, hdd]
          have HDD := Lib.hid hdd
          clear hdd
          obtain ⟨z', hz'⟩ : ∃ z', z' = (z ||| dd * Cd.P7 i % 18446744073709551616) := ⟨_, rfl⟩
          have hx : bits .or .u64 (z : Int) (IntKind.u64.wrap ((dd : Int) * 2 ^ (7 * i))) = (z' : Int) := by rw [or_acc z dd i HRD.out.1 (by omega), hz']
          have HZ' := Lib.hid hz'
          clear hz'
          go_wp2
          refine ⟨⟨i + 1, z', by omega, by rw [show ((7 * (i + 1) : Nat) : Int) = 7 * (i : Int) + 7 by omega], rfl, Lib.hid ⟨HST.out.2, HST.out.1, fun h => ?_, fun h => ?_⟩⟩, by simp [intOf]; omega⟩
          · have h1 := HRD.out
            rw [HDR.out, show 10 - i = (10 - (i + 1)) + 1 by omega, Cd.rdS, ← HB.out.2, if_pos hm] at h1
            have h2 : Cd.P7 i ≤ 72057594037927936 := by
              have := Cd.P7_mono (show i ≤ 8 by omega)
              have e8 : Cd.P7 8 = 72057594037927936 := by decide
              omega
            have h3 : dd * Cd.P7 i ≤ 127 * Cd.P7 i := Nat.mul_le_mul_right _ (by omega)
            have h4 : z' = z + (d - 128) * Cd.P7 i := by
              rw [HZ'.out, or_add z dd i h1.1 (by omega), HDD.out, show d % 128 = d - 128 by omega]
            rw [h4]
            refine ⟨?_, h1.2⟩
            have h5 : (d - 128) * Cd.P7 i ≤ 127 * Cd.P7 i := Nat.mul_le_mul_right _ (by omega)
            rw [Cd.P7_succ]
            omega
          · have h1 := HRD.out.2
            rw [HDR.out, show 10 - i = 0 + 1 by omega, Cd.rdS, ← HB.out.2, if_pos hm] at h1
            rw [← h1]
            rfl
        · have an2 : bits .and .u8 (d : Int) 128 = 0 := andl d hd2 (by omega)
          have an1 : bits .andNot .u8 (d : Int) 128 = (d : Int) := by rw [andn d hd2, Nat.mod_eq_of_lt (by omega)]
          obtain ⟨z', hz'⟩ : ∃ z', z' = (z ||| d * Cd.P7 i % 18446744073709551616) := ⟨_, rfl⟩
          have hx : bits .or .u64 (z : Int) (IntKind.u64.wrap ((d : Int) * 2 ^ (7 * i))) = (z' : Int) := by rw [or_acc z d i HRD.out.1 (by omega), hz']
          have HZ' := Lib.hid hz'
          clear hz'
          have hov := ov_is d i
          have HS1 : Hid (Cd.rdS 10 0 0 (l.drop p) = if d = 0 ∧ 0 < i then none else if 18446744073709551616 ≤ d * Cd.P7 i then none else some (z + d * Cd.P7 i, l.drop (p + i + 1))) := Lib.hid (by
            have h1 := HRD.out.2
            rw [HDR.out, show 10 - i = (10 - (i + 1)) + 1 by omega, Cd.rdS, ← HB.out.2, if_neg hm] at h1
            exact h1.symm)
          by_cases hz0 : d = 0 ∧ 0 < i
          · have HN : Hid (Cd.rd1 (l.drop p) = none) := Lib.hid (by unfold Cd.rd1; rw [HS1.out, if_pos hz0]; rfl)
            obtain ⟨rfl, hi0⟩ := hz0
            have dsh : decide ((0 : Int) < ((7 * i : Nat) : Int)) = true := by rw [decide_eq_true_iff]; omega
            clear hov
            go_wp2
            go_ret2
            exact ⟨HST.out.2, _, HST.out.1, by rw [HN.out]; exact rfl⟩
          · by_cases ho : 18446744073709551616 ≤ d * Cd.P7 i
            · rw [decide_eq_true ho] at hov
              have HN : Hid (Cd.rd1 (l.drop p) = none) := Lib.hid (by unfold Cd.rd1; rw [HS1.out, if_neg hz0, if_pos ho]; rfl)
              have hd0 : ¬ d = 0 := by
                rintro rfl
                omega
              have e0 : ((d : Int) == 0) = false := by rw [beq_eq_false_iff_ne]; omega
              go_wp2
              go_ret2
              exact ⟨HST.out.2, _, HST.out.1, by rw [HN.out]; exact rfl⟩
            · rw [decide_eq_false ho] at hov
              have hzv : z' = z + d * Cd.P7 i := by rw [HZ'.out, or_add z d i HRD.out.1 (by omega)]
              have HN : Hid (Cd.rd1 (l.drop p) = some (Cd.zag z', l.drop (p + i + 1))) := Lib.hid (by unfold Cd.rd1; rw [HS1.out, if_neg hz0, if_neg ho, hzv]; rfl)
              have hz'64 : z' < 18446744073709551616 := by
                have h1 := Cd.div64 (i := i) (d := d) (by omega) (by omega)
                have h2 := HRD.out.1
                omega
              have huz' := huz z' hz'64
              clear huz hzv ho
              by_cases hd0 : d = 0
              · have e0 : ((d : Int) == 0) = true := by rw [beq_iff_eq]; omega
                have dsh : decide ((0 : Int) < 7 * (i : Int)) = false := by rw [decide_eq_false_iff_not]; omega
                have hi0 := Lib.hid hd0
                clear hd0 hz0
                go_wp2_with (go_at_call 64; refine (huz' _).mono ?_; rintro e w' ⟨rfl, hw'⟩; obtain rfl := hw'.symm)
                go_ret2
                exact ⟨HST.out.2, _, HST.out.1, by rw [HN.out]; exact ⟨rfl, rfl⟩⟩
              · have e0 : ((d : Int) == 0) = false := by rw [beq_eq_false_iff_ne]; omega
                go_wp2_with (go_at_call 64; refine (huz' _).mono ?_; rintro e w' ⟨rfl, hw'⟩; obtain rfl := hw'.symm)
                go_ret2
                exact ⟨HST.out.2, _, HST.out.1, by rw [HN.out]; exact ⟨rfl, rfl⟩⟩
      · have HN : Hid (Cd.rd1 (l.drop p) = none) := Lib.hid (by
          unfold Cd.rd1
          rw [← HRD.out.2, List.drop_eq_nil_of_le (by rw [HL.out]; omega)]
          cases h : 10 - i with
          | zero => rfl
          | succ f => rfl)
        have dp : decide (((p + i : Nat) : Int) < (L : Int)) = false := by rw [decide_eq_false_iff_not]; omega
        go_wp2
        go_ret2
        exact ⟨HT.out.1, _, HT.out.2.1, by rw [HN.out]; exact rfl⟩
end Go.Proofs.Ytcjainfcndlllaa
