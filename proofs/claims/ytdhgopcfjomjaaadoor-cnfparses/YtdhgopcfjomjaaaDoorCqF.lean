/- cnf: the reader: literal, ahead, clause. -/
import Derived.Test.YtdhgopcfjomjaaaDoorCqE
namespace Go.Proofs.YtdhgopcfjomjaaaDoor
open Go.RowKit Go.Maps Go.WideMaps
open Go.Lib hiding intOf run_convert_string_bytes
open Cn (I64)

namespace Cn
def litRest (r : List UInt8) : List UInt8 := trimLeftS (trimPrefix r [45]) cs10
def litBad (r : List UInt8) : Bool := cntBad (digs (trimPrefix r [45]))
def litVal (r : List UInt8) : Int := if hasPrefix r [45] = true then wrap64 (-(cntVal (digs (trimPrefix r [45])))) else cntVal (digs (trimPrefix r [45]))
theorem trimP_len (r p : List UInt8) : (trimPrefix r p).length ≤ r.length := by
  unfold trimPrefix
  split
  · rw [List.length_drop]; omega
  · exact Nat.le_refl _
theorem trimL_len (r : List UInt8) : (trimLeftS r cs10).length ≤ r.length := by have := digs_len r; omega
end Cn

set_option maxRecDepth 100000 in
set_option maxHeartbeats 2000000 in
theorem literal_any (w : World) (rb : Nat) (r : List UInt8) (bad : Bool) (h : Rd w rb r bad) (hl : r.length ≤ 2000000) (he : Errs w) (hne : 1 ≠ rb ∧ 2 ≠ rb) :
    Calls Tryd.prog 68 #[.pointer (some ⟨rb, 0, none⟩)] w fun e w' => e = .returned (.int .i64 (Cn.litVal r)) ∧ Rd w' rb (Cn.litRest r) (bad || Cn.litBad r) ∧ Kp [rb] w w' := by
  have c0 := h.c0
  have f0 := h.f 0
  have hcp : Calls Tryd.prog 53 #[.string ⟨r.toArray⟩, .string ⟨#[45]⟩] w fun e w' => e = .returned (.tuple #[.string ⟨(trimPrefix r [45]).toArray⟩, .bool (hasPrefix r [45])]) ∧ w' = w := Tryd.strings_CutPrefix ⟨r.toArray⟩ ⟨#[45]⟩ w
  unfold Cn.litVal Cn.litRest Cn.litBad
  have hl1 := Cn.trimP_len r [45]
  obtain ⟨r1, hr1⟩ : ∃ r1, r1 = trimPrefix r [45] := ⟨_, rfl⟩
  rw [← hr1] at hcp hl1 ⊢
  obtain ⟨W, hW⟩ : ∃ W, W = w.setCell ⟨rb, 0, none⟩ (.string ⟨r1.toArray⟩) := ⟨_, rfl⟩
  have hK : Kp [rb] w W := by rw [hW]; exact Kp.set0 _ _ _ _
  have hc := count_any W rb r1 bad (by rw [hW]; exact h.set0 _) (by omega) (he.kp hK (fun k hk => by rw [List.mem_singleton] at hk; rw [hk]; exact hne)) hne
  have HP := Lib.hid (And.intro hcp (And.intro hc hK))
  clear hcp hc hK h hl hl1 he hr1
  cases hn : hasPrefix r [45] with
  | true =>
    rw [hn] at HP
    rw [if_pos rfl]
    clear hn
    go_enter Tryd.func68, Tryd.ntmps68
    go_wp2_with (first
      | (go_at_call 53; refine HP.out.1.mono ?_; rintro e w1 ⟨rfl, hw1⟩; obtain rfl := hw1.symm)
      | (rw [← hW]; go_at_call 48; refine HP.out.2.1.mono ?_; rintro e w2 ⟨rfl, h2, hk2⟩; have H2 := Lib.hid (And.intro h2 hk2); clear h2 hk2))
    go_ret
    exact ⟨rfl, H2.out.1, HP.out.2.2.trans H2.out.2⟩
  | false =>
    rw [hn] at HP
    rw [if_neg (by decide)]
    clear hn
    go_enter Tryd.func68, Tryd.ntmps68
    go_wp2_with (first
      | (go_at_call 53; refine HP.out.1.mono ?_; rintro e w1 ⟨rfl, hw1⟩; obtain rfl := hw1.symm)
      | (rw [← hW]; go_at_call 48; refine HP.out.2.1.mono ?_; rintro e w2 ⟨rfl, h2, hk2⟩; have H2 := Lib.hid (And.intro h2 hk2); clear h2 hk2))
    go_ret
    exact ⟨rfl, H2.out.1, HP.out.2.2.trans H2.out.2⟩

set_option maxRecDepth 100000 in
set_option maxHeartbeats 2000000 in
theorem aheadC_any (w : World) (rb : Nat) (r p : List UInt8) (bad : Bool) (h : Rd w rb r bad) (hl : r.length ≤ 2000000) (he : Errs w) (hne : 1 ≠ rb ∧ 2 ≠ rb) :
    Calls Tryd.prog 47 #[.pointer (some ⟨rb, 0, none⟩), .func (.func 48) #[.pointer (some ⟨rb, 0, none⟩)] #[], .string ⟨p.toArray⟩] w fun e w' => e = .returned (.int .i64 (Cn.cntVal (Cn.digs r))) ∧ Rd w' rb (trimPrefix (trimLeftS r Cn.cs10) p) (bad || Cn.cntBad (Cn.digs r) || !hasPrefix (trimLeftS r Cn.cs10) p) ∧ Kp [rb] w w' := by
  have hc := count_any w rb r bad h hl he hne
  have hw := fun V (hV : Rd V rb (trimLeftS r Cn.cs10) (bad || Cn.cntBad (Cn.digs r))) => word_any V rb (trimLeftS r Cn.cs10) p (bad || Cn.cntBad (Cn.digs r)) hV
  obtain ⟨x, hx⟩ : ∃ x, x = Cn.cntVal (Cn.digs r) := ⟨_, rfl⟩
  obtain ⟨r1, hr1⟩ : ∃ r1, r1 = trimLeftS r Cn.cs10 := ⟨_, rfl⟩
  obtain ⟨b1, hb1⟩ : ∃ b1, b1 = (bad || Cn.cntBad (Cn.digs r)) := ⟨_, rfl⟩
  rw [← hx, ← hr1, ← hb1] at hc
  rw [← hr1, ← hb1] at hw
  rw [← hx, ← hr1, ← hb1]
  have HP := Lib.hid (And.intro hc hw)
  clear hc hw hx hr1 hb1 h hl he hne
  go_enter Tryd.func47, Tryd.ntmps47
  go_wp2_with (first
    | (go_at_call 48; refine HP.out.1.mono ?_; rintro e w1 ⟨rfl, h1, hk1⟩; have H1 := Lib.hid (And.intro h1 hk1); clear h1 hk1)
    | (go_at_call 46; refine (HP.out.2 _ H1.out.1).mono ?_; rintro e w2 ⟨rfl, h2, hk2⟩; have H2 := Lib.hid (And.intro h2 hk2); clear h2 hk2))
  go_ret
  exact ⟨rfl, H2.out.1, H1.out.2.trans H2.out.2⟩

set_option maxRecDepth 100000 in
set_option maxHeartbeats 2000000 in
theorem aheadL_any (w : World) (rb : Nat) (r p : List UInt8) (bad : Bool) (h : Rd w rb r bad) (hl : r.length ≤ 2000000) (he : Errs w) (hne : 1 ≠ rb ∧ 2 ≠ rb) :
    Calls Tryd.prog 47 #[.pointer (some ⟨rb, 0, none⟩), .func (.func 68) #[.pointer (some ⟨rb, 0, none⟩)] #[], .string ⟨p.toArray⟩] w fun e w' => e = .returned (.int .i64 (Cn.litVal r)) ∧ Rd w' rb (trimPrefix (Cn.litRest r) p) (bad || Cn.litBad r || !hasPrefix (Cn.litRest r) p) ∧ Kp [rb] w w' := by
  have hc := literal_any w rb r bad h hl he hne
  have hw := fun V (hV : Rd V rb (Cn.litRest r) (bad || Cn.litBad r)) => word_any V rb (Cn.litRest r) p (bad || Cn.litBad r) hV
  obtain ⟨x, hx⟩ : ∃ x, x = Cn.litVal r := ⟨_, rfl⟩
  obtain ⟨r1, hr1⟩ : ∃ r1, r1 = Cn.litRest r := ⟨_, rfl⟩
  obtain ⟨b1, hb1⟩ : ∃ b1, b1 = (bad || Cn.litBad r) := ⟨_, rfl⟩
  rw [← hx, ← hr1, ← hb1] at hc
  rw [← hr1, ← hb1] at hw
  rw [← hx, ← hr1, ← hb1]
  have HP := Lib.hid (And.intro hc hw)
  clear hc hw hx hr1 hb1 h hl he hne
  go_enter Tryd.func47, Tryd.ntmps47
  go_wp2_with (first
    | (go_at_call 68; refine HP.out.1.mono ?_; rintro e w1 ⟨rfl, h1, hk1⟩; have H1 := Lib.hid (And.intro h1 hk1); clear h1 hk1)
    | (go_at_call 46; refine (HP.out.2 _ H1.out.1).mono ?_; rintro e w2 ⟨rfl, h2, hk2⟩; have H2 := Lib.hid (And.intro h2 hk2); clear h2 hk2))
  go_ret
  exact ⟨rfl, H2.out.1, H1.out.2.trans H2.out.2⟩
end Go.Proofs.YtdhgopcfjomjaaaDoor
