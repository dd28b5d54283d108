/- cnf: the reader: count. -/
import Derived.Test.YtdhgopcfjomjaaaDoorCqD
namespace Go.Proofs.YtdhgopcfjomjaaaDoor
open Go.RowKit Go.Maps Go.WideMaps
open Go.Lib hiding intOf run_convert_string_bytes
open Cn (I64)

theorem grown_bel {w w' : World} (h : Below w.heap.size w w') : w.grownBy w' none := ⟨h.os, h.tape, h.output, h.size, fun k hk _ => h.block k hk⟩
theorem trim_any (w : World) (r : List UInt8) : Calls Tryd.prog 54 #[.string ⟨r.toArray⟩, .string ⟨#[48, 49, 50, 51, 52, 53, 54, 55, 56, 57]⟩] w fun e w' => e = .returned (.string ⟨(trimLeftS r Cn.cs10).toArray⟩) ∧ w.grownBy w' none :=
  (Any.strings_TrimLeft_laid Tryd.lays161 (by kernel_rfl) ⟨r.toArray⟩ ⟨#[48, 49, 50, 51, 52, 53, 54, 55, 56, 57]⟩ w (by decide) (fun j b h => (show ∀ b ∈ Cn.cs10, b.toNat < 128 by decide) b (List.mem_of_getElem? h))).mono (fun e w' h => ⟨h.1, grown_bel h.2⟩)
/-- the two errors of strconv lie where they do -/
def Errs (w : World) : Prop := ∃ e1 e2, w.cell? ⟨1, 0, none⟩ = some e1 ∧ (e1 = .nilIface ∨ ∃ te pe, e1 = .iface te pe) ∧ w.cell? ⟨2, 0, none⟩ = some e2 ∧ (e2 = .nilIface ∨ ∃ te pe, e2 = .iface te pe)
theorem Errs.kp {X : List Nat} {w w' : World} (h : Errs w) (hk : Kp X w w') (hX : ∀ k ∈ X, 1 ≠ k ∧ 2 ≠ k) : Errs w' := by
  obtain ⟨e1, e2, h1, h2, h3, h4⟩ := h
  exact ⟨e1, e2, hk.cell h1 (fun hx => (hX _ hx).1 rfl), h2, hk.cell h3 (fun hx => (hX _ hx).2 rfl), h4⟩
/-- what Atoi answers: the number, and whether it is one -/
theorem atoi_any (w : World) (d : List UInt8) (hd : d.length ≤ 2000000) (he : Errs w) : Calls Tryd.prog 55 #[.string ⟨d.toArray⟩] w fun e w' => w.grownBy w' none ∧ ∃ v, e = .returned (.tuple #[.int .i64 (Cn.cntVal d), v]) ∧ ((v = .nilIface ∧ ∃ x, atoiAll d = .ok x) ∨ (∃ t p, v = .iface t p) ∧ ∀ x, atoiAll d ≠ .ok x) := by
  obtain ⟨e1, e2, h1, h2, h3, h4⟩ := he
  have ed : (⟨d.toArray⟩ : ByteArray).size = d.length := by simp [ByteArray.size]
  cases h : atoiAll d with
  | ok x =>
    refine (Tryd.strconv_Atoi_ok ⟨d.toArray⟩ (by rw [ed]; omega) x h w).mono ?_
    rintro e w' ⟨rfl, hw⟩
    refine ⟨?_, .nilIface, by unfold Cn.cntVal; rw [h], .inl ⟨rfl, x, rfl⟩⟩
    rcases hw with rfl | ⟨t, rfl⟩
    · exact World.grownBy.refl _ _
    · exact grown_bel (bytesWorld_below _ _ _)
  | «syntax» =>
    refine (Tryd.strconv_Atoi_syntax ⟨d.toArray⟩ (by rw [ed]; omega) h e1 w h1 h2).mono ?_
    rintro e w' ⟨N, rfl, _, _, hb⟩
    exact ⟨grown_bel hb, _, by unfold Cn.cntVal; rw [h], .inr ⟨⟨_, _, rfl⟩, fun x hx => by cases hx⟩⟩
  | range =>
    refine (Tryd.strconv_Atoi_range ⟨d.toArray⟩ (by rw [ed]; omega) h e2 w h3 h4).mono ?_
    rintro e w' ⟨N, rfl, _, _, hb⟩
    exact ⟨grown_bel hb, _, by unfold Cn.cntVal; rw [h], .inr ⟨⟨_, _, rfl⟩, fun x hx => by cases hx⟩⟩

set_option maxRecDepth 100000 in
set_option maxHeartbeats 2000000 in
theorem count_any (w : World) (rb : Nat) (r : List UInt8) (bad : Bool) (h : Rd w rb r bad) (hl : r.length ≤ 2000000) (he : Errs w) (hne : 1 ≠ rb ∧ 2 ≠ rb) :
    Calls Tryd.prog 48 #[.pointer (some ⟨rb, 0, none⟩)] w fun e w' => e = .returned (.int .i64 (Cn.cntVal (Cn.digs r))) ∧ Rd w' rb (trimLeftS r Cn.cs10) (bad || Cn.cntBad (Cn.digs r)) ∧ Kp [rb] w w' := by
  have htr := fun V => trim_any V r
  have hdl := Cn.digs_len r
  have hst := fun V => slice_to V r (Cn.digs r).length (by omega)
  have hsf := fun V => slice_fro V r (Cn.digs r).length (by omega)
  rw [Cn.digs_take] at hst
  rw [Cn.digs_drop] at hsf
  have hat := fun V (hV : Errs V) => atoi_any V (Cn.digs r) (by omega) hV
  obtain ⟨d, hd⟩ : ∃ d, d = Cn.digs r := ⟨_, rfl⟩
  rw [← hd] at hst hsf hat hdl ⊢
  obtain ⟨r', hr'⟩ : ∃ r', r' = trimLeftS r Cn.cs10 := ⟨_, rfl⟩
  rw [← hr'] at htr hsf hdl ⊢
  obtain ⟨k, hk⟩ : ∃ k, k = d.length := ⟨_, rfl⟩
  rw [← hk] at hst hsf hdl
  have hsub : (r.length : Int) - (r'.length : Int) = (k : Int) := by omega
  have hw : wrap64 (k : Int) = (k : Int) := by unfold wrap64; omega
  have hwr : IntKind.i64.wrap (k : Int) = (k : Int) := by rw [IntKind.wrap_i64]; omega
  have hex : (⟨r.toArray⟩ : ByteArray).extract 0 k = ⟨d.toArray⟩ := by rw [bs_extract, List.drop_zero, hk, hd, Cn.digs_take]
  have hdk : d.length = k := hk.symm
  have hk0 : (0 : Int) ≤ (k : Int) := by omega
  have hk1 : (k : Int) ≤ (r.length : Int) := by omega
  have hrl : r.length ≤ 9223372036854775807 := by omega
  have hrl' : r'.length ≤ 9223372036854775807 := by omega
  have c0 := h.c0
  have HR := Lib.hid h
  have HT := Lib.hid (And.intro htr (And.intro hat he))
  have hS : w.cell? ⟨rb, 0, none⟩ = some (.string ⟨r.toArray⟩) ∧ Hid (w.grownBy w none) := ⟨c0, Lib.hid (World.grownBy.refl _ _)⟩
  have hSd : w.drew.cell? ⟨rb, 0, none⟩ = some (.string ⟨r.toArray⟩) ∧ Hid (w.grownBy w.drew none) := ⟨c0, Lib.hid (gdrew _ _)⟩
  have HK := Lib.hid (And.intro hk (And.intro hd hr'))
  clear htr hat he hd hr' h hk hdl
  go_enter Tryd.func48, Tryd.ntmps48
  go_wp2
  go_region_held3 (fun V => V.cell? ⟨rb, 0, none⟩ = some (.string ⟨r.toArray⟩) ∧ Hid (w.grownBy V none)) (first | (with_reducible exact hSd) | (with_reducible exact hS) | exact hS1)
    (first | (go_at_call 54; refine (HT.out.1 _).mono ?_; rintro e w1 ⟨rfl, hg1⟩; have hS1 : w1.cell? ⟨rb, 0, none⟩ = some (.string ⟨r.toArray⟩) ∧ Hid (w.grownBy w1 none) := ⟨hg1.cell hSd.1 (by simp), Lib.hid (hSd.2.out.trans hg1)⟩; clear hg1))
  have hR1 := HR.out.on hS1.2.out
  have f0 := hR1.f 0
  have c01 := hR1.c0
  have HR1 := Lib.hid hR1
  clear hR1 hS hSd c0
  go_upto_region 3 with fail
  obtain ⟨W2, hW2⟩ : ∃ W2, W2 = w1.setCell ⟨rb, 0, none⟩ (.string ⟨r'.toArray⟩) := ⟨_, rfl⟩
  rw [← hW2]
  have hR2 : Rd W2 rb r' bad := by rw [hW2]; exact HR1.out.set0 _
  have hK2 : Kp [rb] w W2 := by rw [hW2]; exact (Kp.of0 hS1.2.out _).set (by simp) _
  have hE2 : Errs W2 := HT.out.2.2.kp hK2 (fun k hk => by rw [List.mem_singleton] at hk; rw [hk]; exact hne)
  have HX := Lib.hid (And.intro hR2 (And.intro hK2 hE2))
  clear hW2 hR2 hK2 hE2 hS1 f0 c01
  go_upto_region 4 with (go_at_call 55; refine (HT.out.2.1 _ HX.out.2.2).mono ?_; rintro e w3 ⟨hg3, v, rfl, hv⟩; have H3 := Lib.hid (And.intro hg3 hv); clear hg3 hv)
  have hR3 := HX.out.1.on H3.out.1
  have f1 := hR3.f 1
  have c1 := hR3.c1
  have HY := Lib.hid (And.intro hR3 (HX.out.2.1.trans (Kp.of0 H3.out.1 _)))
  clear hR3
  rcases H3.out.2 with ⟨rfl, x, hx⟩ | ⟨⟨t, p, rfl⟩, hx⟩
  · have hcb : Cn.cntBad d = (decide (1 < d.length) && decide (d.head? = some 48)) := by unfold Cn.cntBad; rw [hx]
    have HC := Lib.hid hcb
    clear hcb hx
    by_cases h1 : 1 < k
    · obtain ⟨b, t, rfl⟩ : ∃ b t, d = b :: t := by cases d with | nil => simp at hdk; omega | cons b t => exact ⟨b, t, rfl⟩
      have e1 : decide ((1 : Int) < (k : Int)) = true := xT (by omega)
      have p1 : (0 : Int) < (k : Int) := by omega
      have p2 : 0 < k := by omega
      by_cases h2 : b = 48
      · subst h2
        have HC2 : Hid (Cn.cntBad (48 :: t) = true) := Lib.hid (by rw [HC.out, hdk, xT h1]; rfl)
        clear h1
        go_wp2
        go_ret
        refine ⟨rfl, ?_, HY.out.2.set (by simp) _⟩
        rw [HC2.out, Bool.or_true]
        exact HY.out.1.set1 _
      · have HC2 : Hid (Cn.cntBad (b :: t) = false) := Lib.hid (by rw [HC.out, hdk, xT h1]; simp [h2])
        have e3 : ¬ b.toNat = 48 := fun h => h2 (UInt8.toNat_inj.1 (by rw [h]; rfl))
        have e4 : ¬ (b.toNat : Int) = 48 := by omega
        have e2 : ((b.toNat : Int) == 48) = false := by
          rw [beq_eq_false_iff_ne]
          exact e4
        have e5 : ∀ h, ((((⟨(b :: t).toArray⟩ : ByteArray)[0]'h).toNat : Int) == 48) = false := fun _ => e2
        clear e2 e3 e4
        clear h1
        go_wp2
        go_ret
        refine ⟨rfl, ?_, HY.out.2⟩
        rw [HC2.out, Bool.or_false]
        exact HY.out.1
    · have e1 : decide ((1 : Int) < (k : Int)) = false := xF (by omega)
      have HC2 : Hid (Cn.cntBad d = false) := Lib.hid (by rw [HC.out, hdk, xF h1]; rfl)
      clear h1
      go_wp2
      go_ret
      refine ⟨rfl, ?_, HY.out.2⟩
      rw [HC2.out, Bool.or_false]
      exact HY.out.1
  · have hcb : Cn.cntBad d = true := by
      unfold Cn.cntBad
      split
      · rename_i y hy; exact absurd hy (hx y)
      · rfl
    have HC := Lib.hid hcb
    clear hcb hx
    go_wp2
    go_ret
    refine ⟨rfl, ?_, HY.out.2.set (by simp) _⟩
    rw [HC.out, Bool.or_true]
    exact HY.out.1.set1 _
end Go.Proofs.YtdhgopcfjomjaaaDoor
