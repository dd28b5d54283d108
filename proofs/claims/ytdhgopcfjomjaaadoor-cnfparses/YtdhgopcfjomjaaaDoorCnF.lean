/- cnf: literalOf, ofGate; gates: isWire, isGate, Check; metronomeref22: literal, CheckNet. -/
import Derived.Test.YtdhgopcfjomjaaaDoorCnE
namespace Go.Proofs.YtdhgopcfjomjaaaDoor
open Go.RowKit Go.Maps Go.WideMaps
open Cn (I64)

set_option maxHeartbeats 1000000 in
theorem literalOf_any (x : Int) (h0 : 0 ≤ x) (h1 : x ≤ 1000000) (w : World) :
    Calls Tryd.prog 43 #[.int .i64 x] w fun e w' => e = .returned (.int .i64 (Cn.lit x)) ∧ w' = w := by
  have e1 : Int.tdiv x 2 = x / 2 := Int.tdiv_eq_ediv_of_nonneg h0
  have e2 : Int.tmod x 2 = x % 2 := Int.tmod_eq_emod_of_nonneg h0
  obtain ⟨q, hq⟩ : ∃ q, q = x / 2 := ⟨_, rfl⟩
  obtain ⟨r, hr⟩ : ∃ r, r = x % 2 := ⟨_, rfl⟩
  have hlit : Cn.lit x = if r = 1 then -(q + 1) else q + 1 := by unfold Cn.lit; rw [hq, hr]
  have w1 : wrap64 q = q := by unfold wrap64; omega
  have w2 : wrap64 r = r := by unfold wrap64; omega
  have w3 : wrap64 (q + 1) = q + 1 := by unfold wrap64; omega
  have w4 : wrap64 (-(q + 1)) = -(q + 1) := by unfold wrap64; omega
  rw [← hq] at e1
  rw [← hr] at e2
  rw [hlit]
  clear hq hlit h0 h1
  by_cases h : r = 1
  · rw [if_pos h]
    have e3 : (r == 1) = true := by simp [h]
    clear h hr
    go_enter Tryd.func43, Tryd.ntmps43
    go_wp2
    go_ret
    exact ⟨congrArg (fun z => Ending.returned (.int .i64 z)) w4, rfl⟩
  · rw [if_neg h]
    have e3 : (r == 1) = false := by simp [h]
    clear h hr
    go_enter Tryd.func43, Tryd.ntmps43
    go_wp2
    go_ret
    exact ⟨congrArg (fun z => Ending.returned (.int .i64 z)) w3, rfl⟩

set_option maxHeartbeats 1000000 in
theorem rliteral_any (x : Int) (h0 : 0 ≤ x) (h1 : x ≤ 1000000) (w : World) :
    Calls Tryd.prog 33 #[.int .i64 x] w fun e w' => e = .returned (.int .i64 (Cn.lit x)) ∧ w' = w := by
  have e1 : Int.tdiv x 2 = x / 2 := Int.tdiv_eq_ediv_of_nonneg h0
  have e2 : Int.tmod x 2 = x % 2 := Int.tmod_eq_emod_of_nonneg h0
  obtain ⟨q, hq⟩ : ∃ q, q = x / 2 := ⟨_, rfl⟩
  obtain ⟨r, hr⟩ : ∃ r, r = x % 2 := ⟨_, rfl⟩
  have hlit : Cn.lit x = if r = 1 then -(q + 1) else q + 1 := by unfold Cn.lit; rw [hq, hr]
  have w1 : wrap64 q = q := by unfold wrap64; omega
  have w2 : wrap64 r = r := by unfold wrap64; omega
  have w3 : wrap64 (q + 1) = q + 1 := by unfold wrap64; omega
  have w4 : wrap64 (-(q + 1)) = -(q + 1) := by unfold wrap64; omega
  rw [← hq] at e1
  rw [← hr] at e2
  rw [hlit]
  clear hq hlit h0 h1
  by_cases h : r = 1
  · rw [if_pos h]
    have e3 : (r == 1) = true := by simp [h]
    clear h hr
    go_enter Tryd.func33, Tryd.ntmps33
    go_wp2
    go_ret
    exact ⟨congrArg (fun z => Ending.returned (.int .i64 z)) w4, rfl⟩
  · rw [if_neg h]
    have e3 : (r == 1) = false := by simp [h]
    clear h hr
    go_enter Tryd.func33, Tryd.ntmps33
    go_wp2
    go_ret
    exact ⟨congrArg (fun z => Ending.returned (.int .i64 z)) w3, rfl⟩

set_option maxHeartbeats 1000000 in
theorem isWire_any (x : Int) (i : Nat) (hi : i ≤ 1000000) (w : World) :
    Calls Tryd.prog 50 #[.int .i64 x, .int .i64 (i : Int)] w fun e w' => e = .returned (.bool (decide (0 ≤ x) && decide (x < 2 * (i : Int)))) ∧ w' = w := by
  have w1 : wrap64 (2 * (i : Int)) = 2 * (i : Int) := by unfold wrap64; omega
  obtain ⟨d, hd⟩ : ∃ d, d = 2 * (i : Int) := ⟨_, rfl⟩
  by_cases h0 : 0 ≤ x
  · have e1 : decide (0 ≤ x) = true := xT h0
    rw [e1, Bool.true_and]
    cases h2 : decide (x < 2 * (i : Int)) with
    | true =>
      clear hd h0
      go_enter Tryd.func50, Tryd.ntmps50
      go_wp2
      go_ret
      exact ⟨rfl, rfl⟩
    | false =>
      clear hd h0
      go_enter Tryd.func50, Tryd.ntmps50
      go_wp2
      go_ret
      exact ⟨rfl, rfl⟩
  · have e1 : decide (0 ≤ x) = false := xF h0
    rw [e1, Bool.false_and]
    clear hd h0
    go_enter Tryd.func50, Tryd.ntmps50
    go_wp2
    go_ret
    exact ⟨rfl, rfl⟩

theorem gok3 (a b p1 p2 p3 p4 : Bool) : (((false || false) && a && b) || (true && p1 && p2 && p3 && p4)) = ((p1 && p2) && (p3 && p4)) := by cases a <;> cases b <;> cases p1 <;> cases p2 <;> cases p3 <;> cases p4 <;> rfl
/-- a gate as a value -/
def gateV (g : Cn.Gt) : Array Value := #[.int .i64 g.op, .int .i64 g.a, .int .i64 g.b]
set_option maxHeartbeats 2000000 in
theorem isGate_any (g : Cn.Gt) (i : Nat) (hi : i ≤ 1000000) (w : World) :
    Calls Tryd.prog 40 #[.agg #[.int .i64 g.op, .int .i64 g.a, .int .i64 g.b], .int .i64 (i : Int)] w fun e w' => e = .returned (.bool (Cn.gok i g)) ∧ w.grownBy w' none := by
  have hwa := fun V => isWire_any g.a i hi V
  have hwb := fun V => isWire_any g.b i hi V
  obtain ⟨op, x, y⟩ := g
  obtain ⟨R, hR⟩ : ∃ R, R = Cn.gok i ⟨op, x, y⟩ := ⟨_, rfl⟩
  rw [← hR]
  unfold Cn.gok at hR
  simp only at *
  have hga := World.grownBy_alloc w (.cells #[.int .i64 op, .int .i64 x, .int .i64 y] 48) none
  have HG := Lib.hid hga
  clear hga
  by_cases h12 : op = 1 ∨ op = 2
  · have e0 : ((decide (op = 1) || decide (op = 2)) : Bool) = true := by simpa using h12
    have h3 : decide (op = 3) = false := xF (by omega)
    rw [e0, h3] at hR
    have HR2 : Hid (R = (decide (x = 0) && decide (y = 0))) := Lib.hid (by rw [hR]; simp)
    clear hR e0 h3 hwa hwb
    by_cases hx : x = 0
    · have ex : (x == 0) = true := by simp [hx]
      by_cases hy : y = 0
      · have ey : (y == 0) = true := by simp [hy]
        have HR3 : Hid (R = true) := Lib.hid (by rw [HR2.out, xT hx, xT hy]; rfl)
        clear hx hy
        rcases h12 with rfl | rfl
        · go_enter Tryd.func40, Tryd.ntmps40
          go_wp2
          go_ret
          exact ⟨by rw [HR3.out]; rfl, HG.out⟩
        · go_enter Tryd.func40, Tryd.ntmps40
          go_wp2
          go_ret
          exact ⟨by rw [HR3.out]; rfl, HG.out⟩
      · have ey : (y == 0) = false := by simp [hy]
        have HR3 : Hid (R = false) := Lib.hid (by rw [HR2.out, xF hy, Bool.and_false])
        clear hx hy
        rcases h12 with rfl | rfl
        · go_enter Tryd.func40, Tryd.ntmps40
          go_wp2
          go_ret
          exact ⟨by rw [HR3.out]; rfl, HG.out⟩
        · go_enter Tryd.func40, Tryd.ntmps40
          go_wp2
          go_ret
          exact ⟨by rw [HR3.out]; rfl, HG.out⟩
    · have ex : (x == 0) = false := by simp [hx]
      have HR3 : Hid (R = false) := Lib.hid (by rw [HR2.out, xF hx, Bool.false_and])
      clear hx
      rcases h12 with rfl | rfl
      · go_enter Tryd.func40, Tryd.ntmps40
        go_wp2
        go_ret
        exact ⟨by rw [HR3.out]; rfl, HG.out⟩
      · go_enter Tryd.func40, Tryd.ntmps40
        go_wp2
        go_ret
        exact ⟨by rw [HR3.out]; rfl, HG.out⟩
  · have n1 : op ≠ 1 := fun e => h12 (.inl e)
    have n2 : op ≠ 2 := fun e => h12 (.inr e)
    have f1 : (op == 1) = false := by simp [n1]
    have f2 : (op == 2) = false := by simp [n2]
    rw [xF n1, xF n2] at hR
    by_cases h3 : op = 3
    · rw [xT h3] at hR
      subst h3
      obtain ⟨ba, hba⟩ : ∃ ba, ba = (decide (0 ≤ x) && decide (x < 2 * (i : Int))) := ⟨_, rfl⟩
      obtain ⟨bb, hbb⟩ : ∃ bb, bb = (decide (0 ≤ y) && decide (y < 2 * (i : Int))) := ⟨_, rfl⟩
      rw [← hba] at hwa
      rw [← hbb] at hwb
      have HR2 : Hid (R = (ba && bb)) := Lib.hid (by rw [hba, hbb]; exact hR.trans (gok3 _ _ _ _ _ _))
      clear hR hba hbb h12 n1 n2 f1 f2
      cases ba with
      | true =>
        have HR3 : Hid (R = bb) := Lib.hid (by rw [HR2.out, Bool.true_and])
        go_enter Tryd.func40, Tryd.ntmps40
        go_wp2_with (first | (go_at_call 50; have q := q1.out; refine (hwb _).mono ?_; rintro e w3 ⟨rfl, hw3⟩; obtain rfl := hw3.symm) | (go_at_call 50; refine (hwa _).mono ?_; rintro e w2 ⟨rfl, hw2⟩; have q1 : Hid True := Lib.hid trivial; obtain rfl := hw2.symm))
        go_ret
        exact ⟨by rw [HR3.out]; rfl, HG.out⟩
      | false =>
        have HR3 : Hid (R = false) := Lib.hid (by rw [HR2.out, Bool.false_and])
        go_enter Tryd.func40, Tryd.ntmps40
        go_wp2_with (go_at_call 50; refine (hwa _).mono ?_; rintro e w2 ⟨rfl, hw2⟩; obtain rfl := hw2.symm)
        go_ret
        exact ⟨by rw [HR3.out]; rfl, HG.out⟩
    · have f3 : (op == 3) = false := by simp [h3]
      have HR3 : Hid (R = false) := Lib.hid (by rw [hR, xF h3]; simp)
      clear hR h12 n1 n2 h3
      go_enter Tryd.func40, Tryd.ntmps40
      go_wp2
      go_ret
      exact ⟨by rw [HR3.out]; rfl, HG.out⟩
end Go.Proofs.YtdhgopcfjomjaaaDoor
