/- metronomeref22: Wire, Inputs; what a net's values are (plain). -/
import Derived.Test.YtdhgopcfjomjaaaDoorCoF
namespace Go.Proofs.YtdhgopcfjomjaaaDoor
open Go.RowKit Go.Maps Go.WideMaps
open Cn (I64)

namespace Cn
/-- is each gate what it says -/
def Good (n : List Gt) (v : List Bool) : Prop := ∀ t g, n[t]? = some g → gval v t g
def cnt (n : List Gt) : Nat := (n.filter fun g => decide (g.op = 2)).length
theorem cnt_step {n : List Gt} {t : Nat} {g : Gt} (h : n[t]? = some g) : cnt (n.take (t + 1)) = cnt (n.take t) + if g.op = 2 then 1 else 0 := by
  unfold cnt
  rw [List.take_add_one, h, List.filter_append, List.length_append]
  by_cases h2 : g.op = 2 <;> simp [h2]
theorem cnt_take (n : List Gt) (t : Nat) : cnt (n.take t) ≤ cnt n := by
  have e : cnt n = cnt (n.take t) + cnt (n.drop t) := by unfold cnt; rw [← List.length_append, ← List.filter_append, List.take_append_drop]
  omega
theorem cnt_le (n : List Gt) : cnt n ≤ n.length := List.length_filter_le _ _
theorem wire_app {v r : List Bool} {w : Int} (h0 : 0 ≤ w) (h1 : w < 2 * v.length) : wire (v ++ r) w = wire v w := by
  unfold wire
  have e : (w / 2).toNat < v.length := by omega
  rw [List.getD_eq_getElem?_getD, List.getD_eq_getElem?_getD, List.getElem?_append_left e]
theorem gok_and {i : Nat} {g : Gt} (h : gok i g = true) (h3 : g.op = 3) : 0 ≤ g.a ∧ g.a < 2 * i ∧ 0 ≤ g.b ∧ g.b < 2 * i := by
  simp [gok, h3] at h
  omega
theorem gok_op {i : Nat} {g : Gt} (h : gok i g = true) : g.op = 1 ∨ g.op = 2 ∨ g.op = 3 := by
  by_cases h1 : g.op = 1
  · exact .inl h1
  · by_cases h2 : g.op = 2
    · exact .inr (.inl h2)
    · by_cases h3 : g.op = 3
      · exact .inr (.inr h3)
      · simp [gok, h1, h2, h3] at h
theorem getD_app {v r : List Bool} {i : Nat} (h : i < v.length) : (v ++ r).getD i false = v.getD i false := by
  rw [List.getD_eq_getElem?_getD, List.getD_eq_getElem?_getD, List.getElem?_append_left h]
theorem gval_app {v r : List Bool} {i : Nat} {g : Gt} (hg : gok i g = true) (hi : i < v.length) : gval (v ++ r) i g ↔ gval v i g := by
  unfold gval
  rw [getD_app hi]
  constructor
  · rintro ⟨h1, h2⟩
    refine ⟨h1, fun h3 => ?_⟩
    have hb := gok_and hg h3
    rw [h2 h3, wire_app hb.1 (by omega), wire_app hb.2.2.1 (by omega)]
  · rintro ⟨h1, h2⟩
    refine ⟨h1, fun h3 => ?_⟩
    have hb := gok_and hg h3
    rw [h2 h3, wire_app hb.1 (by omega), wire_app hb.2.2.1 (by omega)]
/-- the gates of a beginning are what they say -/
def Goods (n : List Gt) (v : List Bool) : Prop := ∀ t g, t < v.length → n[t]? = some g → gval v t g
theorem Goods.app {n : List Gt} {v : List Bool} {b : Bool} {g : Gt} (h : Goods n v) (hn : goks 0 n = true) (hg : n[v.length]? = some g) (hb : (g.op = 1 → b = false) ∧ (g.op = 3 → b = (wire v g.a && wire v g.b))) : Goods n (v ++ [b]) := by
  intro t x ht hx
  have hok := goks_at 0 n hn t x hx
  rw [Nat.zero_add] at hok
  rw [List.length_append, List.length_singleton] at ht
  by_cases e : t = v.length
  · subst e
    rw [hg] at hx
    cases hx
    have e1 : (v ++ [b]).getD v.length false = b := by simp [List.getD_eq_getElem?_getD]
    refine ⟨fun h1 => by rw [e1]; exact hb.1 h1, fun h3 => ?_⟩
    have hw := gok_and hok h3
    rw [e1, wire_app hw.1 (by omega), wire_app hw.2.2.1 (by omega)]
    exact hb.2 h3
  · exact (gval_app hok (by omega)).2 (h t x (by omega) hx)
theorem Goods.all {n : List Gt} {v : List Bool} (h : Goods n v) (hl : v.length = n.length) : Good n v := fun t g hg => h t g (by rw [hl]; exact (List.getElem?_eq_some_iff.1 hg).1) hg
theorem wires_mem {n : List Gt} {ws : List Int} (h : wiresOk n ws = true) : ∀ w ∈ ws, 0 ≤ w ∧ w < 2 * n.length := fun w hw => by
  have := List.all_eq_true.1 h w hw
  simpa using this
theorem holds_good {n : List Gt} {v : List Bool} {ws : List Int} (hn : netE n = 0) (hw : wiresOk n ws = true) (hl : v.length = n.length) (h : Good n v) (h1 : 10 * n.length + 2 * ws.length ≤ 200000) : holds ⟨n.length, ofC n ws⟩ (false :: v) = ws.all (wire v) := by
  unfold holds
  rw [ofC_check hn hw h1]
  have e2 : (((false :: v).length : Nat) : Int) = (n.length : Int) + 1 := by rw [List.length_cons, hl]; omega
  have e3 : allH (false :: v) (gcls 0 n) = true := (gcls_holds 0 n (net_ok.1 hn).2).2 (fun t g hg => by rw [Nat.zero_add]; exact h t g hg)
  have e4 : allH (false :: v) (wcls ws) = ws.all (wire v) := wcls_holds (fun w hw2 => (wires_mem hw w hw2).1)
  show (decide ((0 : Int) = 0) && decide ((((false :: v).length : Nat) : Int) = (n.length : Int) + 1) && allH (false :: v) (ofC n ws)) = _
  unfold ofC
  rw [e2, allH_app, e3, e4]
  simp
theorem wire_set {v : List Bool} {k : Nat} {b : Bool} {w : Int} (h0 : 0 ≤ w) (h1 : w < 2 * k) : wire (v.set k b) w = wire v w := by
  unfold wire
  rw [List.getD_eq_getElem?_getD, List.getD_eq_getElem?_getD, List.getElem?_set_ne (by omega)]
theorem holds_bad {n : List Gt} {v : List Bool} {ws : List Int} {k : Nat} {g : Gt} (hn : netE n = 0) (hl : v.length = n.length) (h : Good n v) (hk : n[k]? = some g) (h2 : g.op ≠ 2) : holds ⟨n.length, ofC n ws⟩ (false :: v.set k (!v.getD k false)) = false := by
  have hkl : k < v.length := by rw [hl]; exact (List.getElem?_eq_some_iff.1 hk).1
  have hok := goks_at 0 n (net_ok.1 hn).2 k g hk
  rw [Nat.zero_add] at hok
  have hnot : ¬ gval (v.set k (!v.getD k false)) k g := by
    intro hv
    have e1 : (v.set k (!v.getD k false)).getD k false = !v.getD k false := by rw [List.getD_eq_getElem?_getD, List.getElem?_set_self hkl]; rfl
    rcases gok_op hok with h1 | h1 | h1
    · have a1 := hv.1 h1
      have a2 := (h k g hk).1 h1
      rw [e1, a2] at a1
      cases a1
    · exact h2 h1
    · have a1 := hv.2 h1
      have a2 := (h k g hk).2 h1
      have hb := gok_and hok h1
      rw [e1, wire_set hb.1 hb.2.1, wire_set hb.2.2.1 hb.2.2.2, ← a2] at a1
      cases hx : v.getD k false <;> rw [hx] at a1 <;> cases a1
  have e3 : allH (false :: v.set k (!v.getD k false)) (gcls 0 n) = false := by
    rw [Bool.eq_false_iff]
    intro h0
    have := (gcls_holds 0 n (net_ok.1 hn).2).1 h0 k g hk
    rw [Nat.zero_add] at this
    exact hnot this
  unfold holds
  show (_ && _ && allH (false :: v.set k (!v.getD k false)) (ofC n ws)) = false
  unfold ofC
  rw [allH_app, e3, Bool.false_and, Bool.and_false]
end Cn

set_option maxHeartbeats 1000000 in
theorem wire_any (x : Int) (v : List Bool) (a : Option Addr) (c : Nat) (h0 : 0 ≤ x) (h1 : x < 2 * v.length) (h2 : v.length ≤ 200000) (w : World) (hb : BoolsAt w a v) :
    Calls Tryd.prog 20 #[.slice a v.length c, .int .i64 x] w fun e w' => e = .returned (.bool (Cn.wire v x)) ∧ w' = w := by
  have e1 : Int.tdiv x 2 = x / 2 := Int.tdiv_eq_ediv_of_nonneg h0
  have e2 : Int.tmod x 2 = x % 2 := Int.tmod_eq_emod_of_nonneg h0
  obtain ⟨q, hq⟩ : ∃ q : Nat, x / 2 = (q : Int) := ⟨(x / 2).toNat, by omega⟩
  obtain ⟨r, hr⟩ : ∃ r, r = x % 2 := ⟨_, rfl⟩
  have hql : q < v.length := by omega
  obtain ⟨b, o, rfl, hc⟩ := bool_at hb hql
  have w1 : wrap64 (q : Int) = (q : Int) := by unfold wrap64; omega
  have w2 : wrap64 r = r := by unfold wrap64; omega
  have hwv : Cn.wire v x = (v.getD q false != decide (r = 1)) := by unfold Cn.wire; rw [hq, hr]; rfl
  rw [hwv]
  rw [hq] at e1
  rw [← hr] at e2
  obtain ⟨y, hy⟩ : ∃ y, y = v.getD q false := ⟨_, rfl⟩
  rw [← hy] at hc ⊢
  obtain ⟨n, hn⟩ : ∃ n, n = v.length := ⟨_, rfl⟩
  rw [← hn] at hql ⊢
  clear hq hwv h0 h1 h2 hb hy hn
  by_cases h : r = 1
  · have e3 : (r == 1) = true := by simp [h]
    rw [xT h]
    clear h hr
    cases y with
    | true =>
      go_enter Tryd.func20, Tryd.ntmps20
      go_wp2
      go_ret
      exact ⟨rfl, rfl⟩
    | false =>
      go_enter Tryd.func20, Tryd.ntmps20
      go_wp2
      go_ret
      exact ⟨rfl, rfl⟩
  · have e3 : (r == 1) = false := by simp [h]
    rw [xF h]
    clear h hr
    cases y with
    | true =>
      go_enter Tryd.func20, Tryd.ntmps20
      go_wp2
      go_ret
      exact ⟨rfl, rfl⟩
    | false =>
      go_enter Tryd.func20, Tryd.ntmps20
      go_wp2
      go_ret
      exact ⟨rfl, rfl⟩
end Go.Proofs.YtdhgopcfjomjaaaDoor
