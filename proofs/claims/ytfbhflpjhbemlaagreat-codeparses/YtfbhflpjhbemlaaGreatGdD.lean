/- Stage 19: the document's own reader: num, list. -/
import Derived.Test.YtfbhflpjhbemlaaGreatGdA
namespace Go.Proofs.YtfbhflpjhbemlaaGreat
open Go.RowKit Go.Maps Go.WideMaps

/-- the reader in block rb -/
def Rx (w : World) (rb : Nat) (a : Option Addr) (cp : Nat) (b : List UInt8) (p : Nat) (bad : Bool) : Prop := w.heap[rb]? = some (.cells #[.slice a b.length cp, .int .i64 (p : Int), .bool bad] 46 (0, 0)) ∧ p ≤ b.length ∧ BytesAt w a b ∧ ∀ g o, a = some ⟨g, o, none⟩ → g ≠ rb
section
variable {w w' : World} {rb : Nat} {a : Option Addr} {cp : Nat} {b : List UInt8} {p q : Nat} {bad bad' : Bool}
theorem Rx.c0 (h : Rx w rb a cp b p bad) : w.cell? ⟨rb, 0, none⟩ = some (.slice a b.length cp) := cell_of_row _ _ 0 _ _ _ h.1
theorem Rx.c1 (h : Rx w rb a cp b p bad) : w.cell? ⟨rb, 1, none⟩ = some (.int .i64 (p : Int)) := cell_of_row _ _ 1 _ _ _ h.1
theorem Rx.c2 (h : Rx w rb a cp b p bad) : w.cell? ⟨rb, 2, none⟩ = some (.bool bad) := cell_of_row _ _ 2 _ _ _ h.1
theorem Rx.f (h : Rx w rb a cp b p bad) (i : Nat) : w.frozen? ⟨rb, i, none⟩ = false := by simp [World.frozen?, h.1]
theorem Rx.kp {X : List Nat} (h : Rx w rb a cp b p bad) (hk : Kp X w w') (hrb : rb ∉ X) (hX : ∀ g o, a = some ⟨g, o, none⟩ → b ≠ [] → g ∉ X) : Rx w' rb a cp b p bad :=
  ⟨(hk.block _ (gl h.1) hrb).trans h.1, h.2.1, fun i x hx => by
    obtain ⟨g, o, e, hc⟩ := h.2.2.1 i x hx
    exact ⟨g, o, e, hk.cell hc (hX g o e (fun e2 => by rw [e2] at hx; simp at hx))⟩, h.2.2.2⟩
theorem Rx.on (h : Rx w rb a cp b p bad) (hg : w.grownBy w' none) : Rx w' rb a cp b p bad := h.kp (X := []) (Kp.of0 hg []) (by simp) (fun _ _ _ _ => by simp)
theorem Rx.set (h : Rx w rb a cp b p bad) (i : Nat) (v : Value) (e : (#[.slice a b.length cp, .int .i64 (p : Int), .bool bad] : Array Value).setIfInBounds i v = #[.slice a b.length cp, .int .i64 (q : Int), .bool bad']) (hq : q ≤ b.length) : Rx (w.setCell ⟨rb, i, none⟩ v) rb a cp b q bad' := by
  refine ⟨?_, hq, fun j x hx => ?_, h.2.2.2⟩
  · rw [← e]; exact heap_setCell_same _ _ _ _ _ _ h.1
  · obtain ⟨g, o, e2, hc⟩ := h.2.2.1 j x hx
    exact ⟨g, o, e2, ((Kp.refl [rb] w).set (by simp) v).cell hc (by simp; exact h.2.2.2 g o e2)⟩
end
theorem xnot (y : Nat) (h : y < 9223372036854775808) : wrap64 (bits .xor .u64 IntKind.u64.max (y : Int)) = -(y : Int) - 1 := by
  have h1 : bits .xor .u64 IntKind.u64.max (y : Int) = ((18446744073709551615 - y : Nat) : Int) := by
    have e : IntKind.u64.max = ((18446744073709551615 : Nat) : Int) := by decide
    rw [e, u64_xor_nat _ _ (by decide) (by omega), not64 y (by omega)]
  rw [h1]
  unfold wrap64
  omega
theorem zacc (z D i : Nat) : IntKind.u64.wrap ((z : Int) + IntKind.u64.wrap ((D : Int) * 2 ^ (7 * i))) = (((z + D * Cd.P7 i % 18446744073709551616) % 18446744073709551616 : Nat) : Int) := by
  rw [p7i, u64w, u64w, ← Int.natCast_mul, show (18446744073709551616 : Int) = ((18446744073709551616 : Nat) : Int) from rfl, ← Int.natCast_emod, ← Int.natCast_add, ← Int.natCast_emod]
theorem gdrewK (a : World) (n : Nat) (r : Option Nat) : a.grownBy (a.drewN n) r := ⟨rfl, rfl, rfl, Nat.le_refl _, fun _ _ _ => rfl⟩
/-- what num leaves -/
def RnP (w : World) (rb : Nat) (a : Option Addr) (cp : Nat) (b : List UInt8) (p : Nat) (bad : Bool) (e : Ending) (w' : World) : Prop := e = .returned (.int .i64 (Cd.rn 10 0 0 (b.drop p)).1) ∧ Kp [rb] w w' ∧ ∃ q, Rx w' rb a cp b q (bad || (Cd.rn 10 0 0 (b.drop p)).2.2) ∧ b.drop q = (Cd.rn 10 0 0 (b.drop p)).2.1
set_option maxHeartbeats 4000000 in
set_option maxRecDepth 100000 in
theorem rnum_any (w : World) (rb : Nat) (a : Option Addr) (cp : Nat) (b : List UInt8) (p : Nat) (bad : Bool) (h : Rx w rb a cp b p bad) (hl : b.length ≤ 4000000) :
    Calls Tryz.prog 14 #[.pointer (some ⟨rb, 0, none⟩)] w (RnP w rb a cp b p bad) := by
  obtain ⟨T, hT⟩ : ∃ T, T = Cd.rn 10 0 0 (b.drop p) := ⟨_, rfl⟩
  unfold RnP
  rw [← hT]
  have HS := Lib.hid (And.intro h hT)
  have hrb : rb < w.heap.size := gl h.1
  clear h hT
  go_enter Tryz.func14, Tryz.ntmps14
  go_wp2
  go_loopw [3, 4] (fun zv iv wr => ∃ (i z : Nat), i ≤ 10 ∧ iv = .int .i64 (i : Int) ∧ zv = .int .u64 (z : Int) ∧ z < 18446744073709551616 ∧ Hid (Kp [rb] w wr ∧ Rx wr rb a cp b (p + i) bad ∧ Cd.rn (10 - i) i z (b.drop (p + i)) = T)) (fun _ iv _ => 10 - (intOf iv).toNat)
  case atStart => exact ⟨0, 0, by omega, rfl, rfl, by omega, Lib.hid ⟨Kp.refl _ _, HS.out.1, HS.out.2.symm⟩⟩
  case round =>
    obtain ⟨i, z, hi, rfl, rfl, hz, HT⟩ := hrel
    have hrx := HT.out.2.1
    have c0 := hrx.c0
    have c1 := hrx.c1
    have f1 := hrx.f 1
    have f2 := hrx.f 2
    have c2 := hrx.c2
    have hp := hrx.2.1
    obtain ⟨L, hL⟩ : ∃ L, L = b.length := ⟨_, rfl⟩
    rw [← hL] at c0 hp hl
    have ec : ((p + i : Nat) : Int) = (p : Int) + i := rfl
    rw [ec] at c1
    by_cases h10 : i = 10
    · subst h10
      obtain ⟨W1, hW1⟩ : ∃ W1, W1 = wr.setCell ⟨rb, 2, none⟩ (.bool true) := ⟨_, rfl⟩
      have hx1 : Rx W1 rb a cp b (p + 10) true := by rw [hW1]; exact hrx.set 2 (.bool true) rfl hrx.2.1
      have hk1 : Kp [rb] w W1 := by rw [hW1]; exact HT.out.1.set (by simp) _
      have HX := Lib.hid (And.intro hx1 (And.intro hk1 HT.out.2.2))
      clear hx1 hk1 hrx c0 c1 f1 hp hL ec
      go_wp2
      rw [← hW1]
      go_ret
      have ht := HX.out.2.2
      rw [Nat.sub_self, Cd.rn] at ht
      rw [← ht]
      exact ⟨rfl, HX.out.2.1, p + 10, by simpa using HX.out.1, rfl⟩
    · have q1 : (i : Int) < 10 := by omega
      have e1 : decide ((i : Int) < 10) = true := by simp; omega
      by_cases hpl : p + i < L
      · have q2 : ¬ (L : Int) ≤ (p : Int) + i := by omega
        have e2 : decide ((L : Int) ≤ (p : Int) + i) = false := by simp; omega
        obtain ⟨x, hx⟩ : ∃ x, b[p + i]? = some x := ⟨_, List.getElem?_eq_getElem (by omega)⟩
        obtain ⟨g, o, rfl, hcx⟩ := hrx.2.2.1 _ _ hx
        obtain ⟨j, hj⟩ : ∃ j, 10 - i = j + 1 := ⟨9 - i, by omega⟩
        have hcons : b.drop (p + i) = x :: b.drop (p + i + 1) := by
          rw [List.drop_eq_getElem_cons (by omega)]
          congr 1
          exact (List.getElem?_eq_some_iff.1 hx).2
        have ht := HT.out.2.2
        rw [hj, hcons, Cd.rn] at ht
        obtain ⟨d, hd⟩ : ∃ d, d = x.toNat := ⟨_, rfl⟩
        have hd2 : d < 256 := by rw [hd]; exact UInt8.toNat_lt x
        rw [← hd] at hcx ht
        have HX := Lib.hid (And.intro hrx (And.intro HT.out.1 (And.intro ht (And.intro hj hL))))
        clear hrx hp hL hcons hj ht hx hd
        have q3 : (p : Int) + i < (L : Int) := by omega
        go_upto_region 5 with fail
        go_quiet (fail)
        go_upto_region 6 with fail
        go_quiet (fail)
        have m1 : ((d : Int).tmod 128) = ((d % 128 : Nat) : Int) := (Int.ofNat_tmod d 128).symm
        obtain ⟨D, hD⟩ : ∃ D, D = d % 128 := ⟨_, rfl⟩
        rw [← hD] at m1
        have hz2 := zacc z D i
        obtain ⟨Z, hZ⟩ : ∃ Z, Z = (z + D * Cd.P7 i % 18446744073709551616) % 18446744073709551616 := ⟨_, rfl⟩
        rw [← hZ] at hz2
        have hZ64 : Z < 18446744073709551616 := by rw [hZ]; exact Nat.mod_lt _ (by decide)
        have ht := HX.out.2.2.1
        rw [← hD, ← hZ] at ht
        have HTT := Lib.hid ht
        have hD8 : D < 128 := by omega
        clear hD hZ ht
        have ec2 : (p : Int) + i + 1 = ((p + i + 1 : Nat) : Int) := by omega
        have HEC := Lib.hid ec2
        clear ec2
        by_cases hd8 : d < 128
        · have q4 : (d : Int) < 128 := by omega
          have e4 : decide ((d : Int) < 128) = true := by simp; omega
          have ht := HTT.out
          rw [if_pos hd8] at ht
          have HT2 := Lib.hid ht
          have m2 : ((Z : Int).tmod 2) = ((Z % 2 : Nat) : Int) := (Int.ofNat_tmod Z 2).symm
          have q2' : ((Z : Int).tdiv 2) = ((Z / 2 : Nat) : Int) := (Int.ofNat_tdiv Z 2).symm
          obtain ⟨Y, hY⟩ : ∃ Y, Y = Z / 2 := ⟨_, rfl⟩
          rw [← hY] at q2'
          have hY63 : Y < 9223372036854775808 := by omega
          clear ht
          rcases Nat.mod_two_eq_zero_or_one Z with h2 | h2
          · rw [h2] at m2
            have HV : Hid (Cd.zag Z = (Y : Int)) := Lib.hid (by unfold Cd.zag; rw [if_pos h2, hY])
            clear h2 hY hd8
            go_wp2
            go_ret
            have e := HT2.out
            rw [← e]
            exact ⟨by show _ = Ending.returned (Value.int .i64 (Cd.zag Z)); rw [HV.out]; rfl, (HX.out.2.1.trans (Kp.of0 (gdrewK _ _ _) _)).set (by simp) _, p + i + 1, by
              rw [Bool.or_false, HEC.out]
              exact (HX.out.1.on (gdrewK _ _ _)).set 1 _ rfl (by have := HX.out.2.2.2.2; omega), rfl⟩
          · rw [h2] at m2
            have HXN := Lib.hid (xnot Y hY63)
            have HV : Hid (Cd.zag Z = -(Y : Int) - 1) := Lib.hid (by unfold Cd.zag; rw [if_neg (by omega), hY])
            clear h2 hY hd8
            go_wp2
            go_ret
            have e := HT2.out
            rw [← e]
            exact ⟨by show _ = Ending.returned (Value.int .i64 (Cd.zag Z)); rw [HV.out, ← HXN.out]; rfl, (HX.out.2.1.trans (Kp.of0 (gdrewK _ _ _) _)).set (by simp) _, p + i + 1, by
              rw [Bool.or_false, HEC.out]
              exact (HX.out.1.on (gdrewK _ _ _)).set 1 _ rfl (by have := HX.out.2.2.2.2; omega), rfl⟩
        · have q4 : ¬ (d : Int) < 128 := by omega
          have e4 : decide ((d : Int) < 128) = false := by simp; omega
          have ht := HTT.out
          rw [if_neg hd8] at ht
          have HT2 := Lib.hid ht
          clear ht hd8
          go_wp2
          have hj := HX.out.2.2.2.1
          refine ⟨⟨i + 1, Z, by omega, by go_num, rfl, hZ64, Lib.hid ⟨(HX.out.2.1.trans (Kp.of0 (gdrewK _ _ _) _)).set (by simp) _, ?_, ?_⟩⟩, by simp [intOf]; omega⟩
          · rw [HEC.out]
            exact (HX.out.1.on (gdrewK _ _ _)).set 1 _ rfl (by have := HX.out.2.2.2.2; omega)
          · rw [show 10 - (i + 1) = j by omega]
            exact HT2.out
      · have q2 : (L : Int) ≤ (p : Int) + i := by omega
        have e2 : decide ((L : Int) ≤ (p : Int) + i) = true := by simp; omega
        have hnil : b.drop (p + i) = [] := List.drop_eq_nil_of_le (by omega)
        obtain ⟨j, hj⟩ : ∃ j, 10 - i = j + 1 := ⟨9 - i, by omega⟩
        have ht := HT.out.2.2
        rw [hj, hnil, Cd.rn] at ht
        obtain ⟨W0, hW0⟩ : ∃ W0, W0 = wr := ⟨_, rfl⟩
        have HX := Lib.hid (And.intro hrx (And.intro HT.out.1 (And.intro ht hnil)))
        clear hrx hp hL ec hnil hj ht
        go_upto_region 5 with fail
        go_quiet (fail)
        go_wp2
        go_ret
        have ht := HX.out.2.2.1
        rw [← ht]
        exact ⟨rfl, (HX.out.2.1.trans (Kp.of0 (gdrewK _ _ _) _)).set (by simp) _, p + i, by
          rw [Bool.or_true]
          exact (HX.out.1.on (gdrewK _ _ _)).set 2 (.bool true) rfl HX.out.1.2.1, HX.out.2.2.2⟩
end Go.Proofs.YtfbhflpjhbemlaaGreat
