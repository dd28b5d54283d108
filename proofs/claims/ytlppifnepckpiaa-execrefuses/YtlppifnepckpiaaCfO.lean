/- Package code: isBare, rulesOf; the rules by their number. -/
import Derived.Test.YtlppifnepckpiaaCfG
import Derived.Test.YtlppifnepckpiaaCfH
import Derived.Test.YtlppifnepckpiaaCfI
import Derived.Test.YtlppifnepckpiaaCfJ
import Derived.Test.YtlppifnepckpiaaCfK
namespace Go.Proofs.Ytlppifnepckpiaa
open Go.RowKit Go.Maps Go.WideMaps
open Cd (Kn)

theorem bare_any (w : World) (op n k : Int) : Calls Try.prog 25 #[.agg #[.int .i64 op, .int .i64 n, .int .i64 k]] w fun e w' => e = .returned (.bool (Cd.bare ⟨op, n, k⟩)) ∧ w.grownBy w' none := by
  have HG := Lib.hid (World.grownBy_alloc w (.cells #[.int .i64 op, .int .i64 n, .int .i64 k] 41) none)
  obtain ⟨D, hD⟩ : ∃ D : Bool, D = Cd.bare ⟨op, n, k⟩ := ⟨_, rfl⟩
  rw [← hD]
  have HD := Lib.hid hD
  clear hD
  go_enter Try.func25, Try.ntmps25
  go_wp2
  all_goals go_ret
  all_goals refine ⟨ret_bool ?_, HG.out⟩
  all_goals (rw [HD.out]; simp_all [Cd.bare])

def rulesV : List Value := [.nilFunc, .func (.func 38) #[] #[], .func (.func 39) #[] #[], .func (.func 40) #[] #[], .func (.func 41) #[] #[], .func (.func 42) #[] #[], .func (.func 43) #[] #[], .func (.func 44) #[] #[], .func (.func 45) #[] #[], .func (.func 46) #[] #[]]
theorem rulesOf_any (w : World) : Calls Try.prog 24 #[] w fun e w' => e = .returned (.agg rulesV.toArray) ∧ w.grownBy w' none := by
  have hr := heap_alloc_new w (.cells rulesV.toArray 65)
  have HG := Lib.hid (And.intro (World.grownBy_alloc w (.cells rulesV.toArray 65) none) hr)
  clear hr
  go_enter Try.func24, Try.ntmps24
  go_wp2
  exact bodyPost_ret (results_cell_row rfl _ _ w.heap.size 65 _ (0, 0) _ rfl HG.out.2 Try.underlying65 rfl (by kernel_rfl)) rfl ⟨rfl, HG.out.1⟩


/-- the rule of an instruction: which function, what it leaves -/
theorem rule_any (W : World) (b g : Nat) (cs : Array Value) (at_ : Nat) (c : Cd.Code) (l : List Int) (qs : Kn) (op n k : Int) (h1 : 1 ≤ op) (h9 : op ≤ 9) :
    ∃ f, rulesV[op.toNat]? = some (.func (.func f) #[] #[]) ∧ (∀ args w, (callFunc f args).run Try.prog w = .ok (.enter f args) w) ∧
      ∀ w, At W w b g cs at_ c l qs → Calls Try.prog f #[.pointer (some ⟨b, 0, none⟩), .agg #[.int .i64 op, .int .i64 n, .int .i64 k]] w (RuP W w b g cs at_ (Cd.rule c ⟨op, n, k⟩ l at_ qs)) := by
  rcases (show op = 1 ∨ op = 2 ∨ op = 3 ∨ op = 4 ∨ op = 5 ∨ op = 6 ∨ op = 7 ∨ op = 8 ∨ op = 9 by omega) with rfl | rfl | rfl | rfl | rfl | rfl | rfl | rfl | rfl
  · exact ⟨38, rfl, fun args w => enters Try.func38 (by kernel_rfl) rfl args w, fun w h => push_any W b g cs at_ c l qs 1 n k w h⟩
  · exact ⟨39, rfl, fun args w => enters Try.func39 (by kernel_rfl) rfl args w, fun w h => load_any W b g cs at_ c l qs 2 n k w h⟩
  · refine ⟨40, rfl, fun args w => enters Try.func40 (by kernel_rfl) rfl args w, fun w h => ?_⟩
    have := save_any W b g cs at_ c l qs 3 n k w h
    have e : Cd.rule c ⟨3, n, k⟩ l at_ qs = if 0 ≤ n ∧ n < c.kinds.length then (if c.ins ≤ n then Cd.onTop l (c.kinds.getD n.toNat 0) (fun r => Cd.lead r at_ 0 qs) else none) else none := by
      show (if (0 ≤ n ∧ n < c.kinds.length) ∧ c.ins ≤ n then Cd.onTop l (c.kinds.getD n.toNat 0) (fun r => Cd.lead r at_ 0 qs) else none) = _
      by_cases h1 : 0 ≤ n ∧ n < c.kinds.length
      · by_cases h2 : c.ins ≤ n
        · rw [if_pos ⟨h1, h2⟩, if_pos h1, if_pos h2]
        · rw [if_neg (fun h => h2 h.2), if_pos h1, if_neg h2]
      · rw [if_neg (fun h => h1 h.1), if_neg h1]
    rw [e]
    exact this
  · exact ⟨41, rfl, fun args w => enters Try.func41 (by kernel_rfl) rfl args w, fun w h => unary_any W b g cs at_ c l qs 4 n k w h⟩
  · exact ⟨42, rfl, fun args w => enters Try.func42 (by kernel_rfl) rfl args w, fun w h => binary_any W b g cs at_ c l qs 5 n k w h⟩
  · exact ⟨43, rfl, fun args w => enters Try.func43 (by kernel_rfl) rfl args w, fun w h => kcast_any W b g cs at_ c l qs 6 n k w h⟩
  · exact ⟨44, rfl, fun args w => enters Try.func44 (by kernel_rfl) rfl args w, fun w h => jump_any W b g cs at_ c l qs 7 n k w h⟩
  · exact ⟨45, rfl, fun args w => enters Try.func45 (by kernel_rfl) rfl args w, fun w h => branch_any W b g cs at_ c l qs 8 n k w h⟩
  · exact ⟨46, rfl, fun args w => enters Try.func46 (by kernel_rfl) rfl args w, fun w h => end_any W b g cs at_ c l qs 9 n k w h⟩
end Go.Proofs.Ytlppifnepckpiaa
