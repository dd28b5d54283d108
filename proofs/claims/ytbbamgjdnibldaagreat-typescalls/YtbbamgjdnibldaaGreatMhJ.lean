/- My texts BvV BvS BvU BvB BvN TcI TcJ, joined. -/
import Derived.Test.YtbbamgjdnibldaaGreatChecked
import Derived.Test.YtbbamgjdnibldaaGreatMhA
import Derived.Deep.RegionWith
import Derived.Laws.EntriesVeiled
import Derived.Deep.WholeRow
import Derived.WalkSpells
import Derived.Test.YtbbamgjdnibldaaGreatMhI
set_option linter.unusedVariables false
set_option linter.unusedSimpArgs false
set_option linter.unnecessarySimpa false
set_option linter.unusedSectionVars false
set_option maxHeartbeats 12800000
set_option maxRecDepth 20000
namespace Go.Proofs.YtbbamgjdnibldaaGreat
open Go.RowKit
theorem bel1 (w : World) (o : Obj) : Below w.heap.size w (w.alloc o) := (Below.refl _ _).alloc (Nat.le_refl _) _
theorem bel2 (w : World) (o p : Obj) : Below w.heap.size w ((w.alloc o).alloc p) := (bel1 w o).alloc (by simp) _
theorem bel3 (w : World) (o p q : Obj) : Below w.heap.size w (((w.alloc o).alloc p).alloc q) := (bel2 w o p).alloc (by simp; omega) _
theorem bel4 (w : World) (o p q r : Obj) : Below w.heap.size w ((((w.alloc o).alloc p).alloc q).alloc r) := (bel3 w o p q).alloc (by simp; omega) _
theorem bel5 (w : World) (o p q r s : Obj) : Below w.heap.size w (((((w.alloc o).alloc p).alloc q).alloc r).alloc s) := (bel4 w o p q r).alloc (by simp; omega) _
theorem v_not (k a : Int) (w : World) :
  Calls Tryz.prog 136 #[.agg #[.int .i64 k, .int .i64 a]] w fun e w' => e = .returned (.int .i64 (bits .xor .i64 (-1) a)) ∧ Below w.heap.size w w' := by
 go_enter Tryz.func136, Tryz.ntmps136
 go_wp2
 all_goals go_ret
 all_goals exact ⟨rfl, (Below.refl _ _).alloc (Nat.le_refl _) _⟩
theorem v_neg (k a : Int) (w : World) :
  Calls Tryz.prog 137 #[.agg #[.int .i64 k, .int .i64 a]] w fun e w' => e = .returned (.int .i64 (wrap64 (-a))) ∧ Below w.heap.size w w' := by
 go_enter Tryz.func137, Tryz.ntmps137
 go_wp2
 all_goals go_ret
 all_goals exact ⟨rfl, (Below.refl _ _).alloc (Nat.le_refl _) _⟩
theorem v_add (k a l b : Int) (w : World) :
  Calls Tryz.prog 142 #[.agg #[.int .i64 k, .int .i64 a], .agg #[.int .i64 l, .int .i64 b]] w fun e w' => e = .returned (.int .i64 (wrap64 (a + b))) ∧ Below w.heap.size w w' := by
 go_enter Tryz.func142, Tryz.ntmps142
 go_wp2
 all_goals go_ret
 all_goals refine ⟨ret_int ?_, (by first | exact bel2 _ _ _ | exact bel3 _ _ _ _ | exact bel4 _ _ _ _ _ | exact bel5 _ _ _ _ _ _)⟩
 all_goals first | rfl
theorem v_sub (k a l b : Int) (w : World) :
  Calls Tryz.prog 143 #[.agg #[.int .i64 k, .int .i64 a], .agg #[.int .i64 l, .int .i64 b]] w fun e w' => e = .returned (.int .i64 (wrap64 (a - b))) ∧ Below w.heap.size w w' := by
 go_enter Tryz.func143, Tryz.ntmps143
 go_wp2
 all_goals go_ret
 all_goals refine ⟨ret_int ?_, (by first | exact bel2 _ _ _ | exact bel3 _ _ _ _ | exact bel4 _ _ _ _ _ | exact bel5 _ _ _ _ _ _)⟩
 all_goals first | rfl
theorem v_mul (k a l b : Int) (w : World) :
  Calls Tryz.prog 144 #[.agg #[.int .i64 k, .int .i64 a], .agg #[.int .i64 l, .int .i64 b]] w fun e w' => e = .returned (.int .i64 (wrap64 (a * b))) ∧ Below w.heap.size w w' := by
 go_enter Tryz.func144, Tryz.ntmps144
 go_wp2
 all_goals go_ret
 all_goals refine ⟨ret_int ?_, (by first | exact bel2 _ _ _ | exact bel3 _ _ _ _ | exact bel4 _ _ _ _ _ | exact bel5 _ _ _ _ _ _)⟩
 all_goals first | rfl
theorem v_and (k a l b : Int) (w : World) :
  Calls Tryz.prog 147 #[.agg #[.int .i64 k, .int .i64 a], .agg #[.int .i64 l, .int .i64 b]] w fun e w' => e = .returned (.int .i64 (bits .and .i64 a b)) ∧ Below w.heap.size w w' := by
 go_enter Tryz.func147, Tryz.ntmps147
 go_wp2
 all_goals go_ret
 all_goals refine ⟨ret_int ?_, (by first | exact bel2 _ _ _ | exact bel3 _ _ _ _ | exact bel4 _ _ _ _ _ | exact bel5 _ _ _ _ _ _)⟩
 all_goals first | rfl
theorem v_or (k a l b : Int) (w : World) :
  Calls Tryz.prog 148 #[.agg #[.int .i64 k, .int .i64 a], .agg #[.int .i64 l, .int .i64 b]] w fun e w' => e = .returned (.int .i64 (bits .or .i64 a b)) ∧ Below w.heap.size w w' := by
 go_enter Tryz.func148, Tryz.ntmps148
 go_wp2
 all_goals go_ret
 all_goals refine ⟨ret_int ?_, (by first | exact bel2 _ _ _ | exact bel3 _ _ _ _ | exact bel4 _ _ _ _ _ | exact bel5 _ _ _ _ _ _)⟩
 all_goals first | rfl
theorem v_xor (k a l b : Int) (w : World) :
  Calls Tryz.prog 149 #[.agg #[.int .i64 k, .int .i64 a], .agg #[.int .i64 l, .int .i64 b]] w fun e w' => e = .returned (.int .i64 (bits .xor .i64 a b)) ∧ Below w.heap.size w w' := by
 go_enter Tryz.func149, Tryz.ntmps149
 go_wp2
 all_goals go_ret
 all_goals refine ⟨ret_int ?_, (by first | exact bel2 _ _ _ | exact bel3 _ _ _ _ | exact bel4 _ _ _ _ _ | exact bel5 _ _ _ _ _ _)⟩
 all_goals first | rfl
theorem v_imp (k a l b : Int) (w : World) :
  Calls Tryz.prog 150 #[.agg #[.int .i64 k, .int .i64 a], .agg #[.int .i64 l, .int .i64 b]] w fun e w' => e = .returned (.int .i64 (bits .or .i64 (bits .xor .i64 (-1) a) b)) ∧ Below w.heap.size w w' := by
 go_enter Tryz.func150, Tryz.ntmps150
 go_wp2
 all_goals go_ret
 all_goals refine ⟨ret_int ?_, (by first | exact bel2 _ _ _ | exact bel3 _ _ _ _ | exact bel4 _ _ _ _ _ | exact bel5 _ _ _ _ _ _)⟩
 all_goals first | rfl
theorem v_eq (k a l b : Int) (w : World) :
  Calls Tryz.prog 153 #[.agg #[.int .i64 k, .int .i64 a], .agg #[.int .i64 l, .int .i64 b]] w fun e w' => e = .returned (.int .i64 (Bv.one (a == b))) ∧ Below w.heap.size w w' := by
 go_enter Tryz.func153, Tryz.ntmps153
 go_wp2
 all_goals go_ret
 all_goals refine ⟨ret_int ?_, (by first | exact bel2 _ _ _ | exact bel3 _ _ _ _ | exact bel4 _ _ _ _ _ | exact bel5 _ _ _ _ _ _)⟩
 all_goals first | (simp_all [Bv.one]; done)
theorem v_ne (k a l b : Int) (w : World) :
  Calls Tryz.prog 154 #[.agg #[.int .i64 k, .int .i64 a], .agg #[.int .i64 l, .int .i64 b]] w fun e w' => e = .returned (.int .i64 (Bv.one (a != b))) ∧ Below w.heap.size w w' := by
 go_enter Tryz.func154, Tryz.ntmps154
 go_wp2
 all_goals go_ret
 all_goals refine ⟨ret_int ?_, (by first | exact bel2 _ _ _ | exact bel3 _ _ _ _ | exact bel4 _ _ _ _ _ | exact bel5 _ _ _ _ _ _)⟩
 all_goals first | (simp_all [Bv.one]; done)
theorem v_lt (k a l b : Int) (w : World) :
  Calls Tryz.prog 155 #[.agg #[.int .i64 k, .int .i64 a], .agg #[.int .i64 l, .int .i64 b]] w fun e w' => e = .returned (.int .i64 (Bv.one (Bv.lss k a b))) ∧ Below w.heap.size w w' := by
 go_enter Tryz.func155, Tryz.ntmps155
 go_wp2
 all_goals go_ret
 all_goals refine ⟨ret_int ?_, (by first | exact bel2 _ _ _ | exact bel3 _ _ _ _ | exact bel4 _ _ _ _ _ | exact bel5 _ _ _ _ _ _)⟩
 all_goals first | ((unfold Bv.one Bv.lss; repeat' split) <;> first | rfl | (exfalso; simp_all; omega) | (exfalso; simp_all; done))
theorem v_le (k a l b : Int) (w : World) :
  Calls Tryz.prog 156 #[.agg #[.int .i64 k, .int .i64 a], .agg #[.int .i64 l, .int .i64 b]] w fun e w' => e = .returned (.int .i64 (Bv.one (!Bv.lss l b a))) ∧ Below w.heap.size w w' := by
 go_enter Tryz.func156, Tryz.ntmps156
 go_wp2
 all_goals go_ret
 all_goals refine ⟨ret_int ?_, (by first | exact bel2 _ _ _ | exact bel3 _ _ _ _ | exact bel4 _ _ _ _ _ | exact bel5 _ _ _ _ _ _)⟩
 all_goals first | ((unfold Bv.one Bv.lss; repeat' split) <;> first | rfl | (exfalso; simp_all; omega) | (exfalso; simp_all; done))
theorem v_gt (k a l b : Int) (w : World) :
  Calls Tryz.prog 157 #[.agg #[.int .i64 k, .int .i64 a], .agg #[.int .i64 l, .int .i64 b]] w fun e w' => e = .returned (.int .i64 (Bv.one (Bv.lss l b a))) ∧ Below w.heap.size w w' := by
 go_enter Tryz.func157, Tryz.ntmps157
 go_wp2
 all_goals go_ret
 all_goals refine ⟨ret_int ?_, (by first | exact bel2 _ _ _ | exact bel3 _ _ _ _ | exact bel4 _ _ _ _ _ | exact bel5 _ _ _ _ _ _)⟩
 all_goals first | ((unfold Bv.one Bv.lss; repeat' split) <;> first | rfl | (exfalso; simp_all; omega) | (exfalso; simp_all; done))
theorem v_ge (k a l b : Int) (w : World) :
  Calls Tryz.prog 158 #[.agg #[.int .i64 k, .int .i64 a], .agg #[.int .i64 l, .int .i64 b]] w fun e w' => e = .returned (.int .i64 (Bv.one (!Bv.lss k a b))) ∧ Below w.heap.size w w' := by
 go_enter Tryz.func158, Tryz.ntmps158
 go_wp2
 all_goals go_ret
 all_goals refine ⟨ret_int ?_, (by first | exact bel2 _ _ _ | exact bel3 _ _ _ _ | exact bel4 _ _ _ _ _ | exact bel5 _ _ _ _ _ _)⟩
 all_goals first | ((unfold Bv.one Bv.lss; repeat' split) <;> first | rfl | (exfalso; simp_all; omega) | (exfalso; simp_all; done))
theorem v_div (k a l b : Int) (h64 : Bv.I64 b) (w : World) :
    Calls Tryz.prog 145 #[.agg #[.int .i64 k, .int .i64 a], .agg #[.int .i64 l, .int .i64 b]] w fun e w' => e = .returned (.int .i64 (Bv.vdiv k a b)) ∧ Below w.heap.size w w' := by
  by_cases hb : b = 0
  · subst hb
    go_enter Tryz.func145, Tryz.ntmps145
    go_wp2
    all_goals go_ret
    all_goals exact ⟨ret_int (by simp [Bv.vdiv]), bel2 _ _ _⟩
  · have hb0 : (b == 0) = false := by simpa using hb
    by_cases hk : 6 ≤ k
    · have hu := Bv.u64_ne h64 hb
      · go_enter Tryz.func145, Tryz.ntmps145
        go_wp2
        all_goals go_ret
        all_goals exact ⟨ret_int (by simp [Bv.vdiv, hb, hk]), bel3 _ _ _ _⟩
    · go_enter Tryz.func145, Tryz.ntmps145
      go_wp2
      all_goals go_ret
      all_goals exact ⟨ret_int (by have h : ¬ 6 ≤ k := by omega
                                   simp [Bv.vdiv, hb, h]), bel3 _ _ _ _⟩
theorem v_mod (k a l b : Int) (h64 : Bv.I64 b) (w : World) :
    Calls Tryz.prog 146 #[.agg #[.int .i64 k, .int .i64 a], .agg #[.int .i64 l, .int .i64 b]] w fun e w' => e = .returned (.int .i64 (Bv.vmod k a b)) ∧ Below w.heap.size w w' := by
  by_cases hb : b = 0
  · subst hb
    go_enter Tryz.func146, Tryz.ntmps146
    go_wp2
    all_goals go_ret
    all_goals exact ⟨ret_int (by simp [Bv.vmod]), bel2 _ _ _⟩
  · have hb0 : (b == 0) = false := by simpa using hb
    by_cases hk : 6 ≤ k
    · have hu := Bv.u64_ne h64 hb
      · go_enter Tryz.func146, Tryz.ntmps146
        go_wp2
        all_goals go_ret
        all_goals exact ⟨ret_int (by simp [Bv.vmod, hb, hk]), bel3 _ _ _ _⟩
    · go_enter Tryz.func146, Tryz.ntmps146
      go_wp2
      all_goals go_ret
      all_goals exact ⟨ret_int (by have h : ¬ 6 ≤ k := by omega
                                   simp [Bv.vmod, hb, h]), bel3 _ _ _ _⟩
theorem places_any (k b : Int) (w : World) :
  Calls Tryz.prog 168 #[.agg #[.int .i64 k, .int .i64 b]] w fun e w' => e = .returned (.int .u64 (IntKind.u64.wrap b)) ∧ w' = w.alloc (.cells #[.int .i64 k, .int .i64 b] 156) := by
 go_enter Tryz.func168, Tryz.ntmps168
 go_wp2
 go_ret
 exact ⟨rfl, rfl⟩
theorem v_shl (k a l b : Int) (w : World) :
  Calls Tryz.prog 151 #[.agg #[.int .i64 k, .int .i64 a], .agg #[.int .i64 l, .int .i64 b]] w fun e w' => e = .returned (.int .i64 (Bv.vshl a b)) ∧ Below w.heap.size w w' := by
 go_enter Tryz.func151, Tryz.ntmps151
 go_wp2
 go_region_with (go_at_call 168; refine (places_any _ _ _).mono ?_; rintro e w' ⟨rfl, rfl⟩)
 all_goals go_wp2
 all_goals go_ret
 all_goals exact ⟨rfl, (bel3 _ _ _ _).drew⟩
theorem v_shr (k a l b : Int) (w : World) :
  Calls Tryz.prog 152 #[.agg #[.int .i64 k, .int .i64 a], .agg #[.int .i64 l, .int .i64 b]] w fun e w' => e = .returned (.int .i64 (Bv.vshr k a b)) ∧ Below w.heap.size w w' := by
 by_cases hk : 6 ≤ k
 ·have hd : Bv.vshr k a b = IntKind.i64.wrap (IntKind.u64.wrap a / 2 ^ min (IntKind.u64.wrap b).toNat 64) := by simp [Bv.vshr, hk]
  rw [hd]
  clear hd
  go_enter Tryz.func152, Tryz.ntmps152
  go_wp2
  go_region_with (go_at_call 168; refine (places_any _ _ _).mono ?_; rintro e w' ⟨rfl, rfl⟩)
  all_goals go_wp2
  all_goals go_ret
  all_goals exact ⟨rfl, (bel4 _ _ _ _ _).drew⟩
 ·have hd : Bv.vshr k a b = a / 2 ^ min (IntKind.u64.wrap b).toNat 64 := by simp [Bv.vshr, hk]
  rw [hd]
  clear hd
  go_enter Tryz.func152, Tryz.ntmps152
  go_wp2
  go_region_with (go_at_call 168; refine (places_any _ _ _).mono ?_; rintro e w' ⟨rfl, rfl⟩)
  all_goals go_wp2
  all_goals go_ret
  all_goals exact ⟨rfl, (bel4 _ _ _ _ _).drew⟩
theorem enters {f : FuncId} {fn : Func} {c : Code} (hf : Tryz.prog.funcs[f]? = some fn) (hname : (fn.name == "runtime.NumGoroutine") = false) (hb : fn.body = some c) (args : Array Value) (w : World) :
  (callFunc f args).run Tryz.prog w = .ok (.enter f args) w := by
 have hn : ¬ fn.name = "runtime.NumGoroutine" := by simpa using hname
 simp [callFunc, hf, hn, hb]
theorem run2_any (f : Nat) (k a l b x : Int) (w : World) (hcf : ∀ args w, (callFunc f args).run Tryz.prog w = .ok (.enter f args) w)
  (hf : ∀ w, Calls Tryz.prog f #[.agg #[.int .i64 k, .int .i64 a], .agg #[.int .i64 l, .int .i64 b]] w fun e w' => e = .returned (.int .i64 x) ∧ Below w.heap.size w w') :
  Calls Tryz.prog 114 #[.agg #[.func (.func f) #[] #[], .int .i64 k, .int .i64 a, .int .i64 l, .int .i64 b]] w fun e w' => e = .returned (.int .i64 x) ∧ Below w.heap.size w w' := by
 have H : Hid (∀ w, Calls Tryz.prog f #[.agg #[.int .i64 k, .int .i64 a], .agg #[.int .i64 l, .int .i64 b]] w fun e w' => e = .returned (.int .i64 x) ∧ Below w.heap.size w w') := hf
 clear hf
 go_enter Tryz.func114, Tryz.ntmps114
 go_wp2
 refine (H.out _).mono ?_
 rintro e w' ⟨rfl, hb⟩
 go_wp2
 go_ret
 exact ⟨rfl, (bel1 w _).trans (hb.mono (by simp))⟩
theorem run1_any (f : Nat) (k a x : Int) (w : World) (hcf : ∀ args w, (callFunc f args).run Tryz.prog w = .ok (.enter f args) w)
  (hf : ∀ w, Calls Tryz.prog f #[.agg #[.int .i64 k, .int .i64 a]] w fun e w' => e = .returned (.int .i64 x) ∧ Below w.heap.size w w') :
  Calls Tryz.prog 109 #[.agg #[.func (.func f) #[] #[], .int .i64 k, .int .i64 a]] w fun e w' => e = .returned (.int .i64 x) ∧ Below w.heap.size w w' := by
 have H : Hid (∀ w, Calls Tryz.prog f #[.agg #[.int .i64 k, .int .i64 a]] w fun e w' => e = .returned (.int .i64 x) ∧ Below w.heap.size w w') := hf
 clear hf
 go_enter Tryz.func109, Tryz.ntmps109
 go_wp2
 refine (H.out _).mono ?_
 rintro e w' ⟨rfl, hb⟩
 go_wp2
 go_ret
 exact ⟨rfl, (bel1 w _).trans (hb.mono (by simp))⟩
theorem all_take {p : Int → Bool} {xs : List Int} {k : Nat} (h : (xs.take k).all p = true) (hk : k < xs.length) (hp : p xs[k] = true) : (xs.take (k + 1)).all p = true := by
 rw [List.take_succ_eq_append_getElem hk, List.all_append, h]
 simp [hp]
theorem settle_any (kind to x : Int) (xs : List Int) (g : Nat) (v : Value) (w : World) (blk : Nat) (hlt : blk < w.heap.size)
  (hc : ∀ j y, xs[j]? = some y → w.cell? ⟨blk, j, none⟩ = some (.int .i64 y)) (hl : xs.length ≤ 2)
  (hcf : ∀ args w, (callFunc g args).run Tryz.prog w = .ok (.enter g args) w)
  (hwork : ∀ w, Calls Tryz.prog g #[v] w fun e w' => e = .returned (.int .i64 x) ∧ Below w.heap.size w w') :
  Calls Tryz.prog 108 #[.int .i64 kind, .int .i64 to, .func (.func g) #[v] #[], .slice (some ⟨blk, 0, none⟩) xs.length xs.length] w
   fun e w' => e = .returned (.tuple #[.int .i64 (Bv.setv kind to x xs), .bool (Bv.allv kind xs)]) ∧ Below w.heap.size w w' := by
 have H : Hid (∀ w, Calls Tryz.prog g #[v] w fun e w' => e = .returned (.int .i64 x) ∧ Below w.heap.size w w') := hwork
 have HC : Hid (∀ j y, xs[j]? = some y → w.cell? ⟨blk, j, none⟩ = some (.int .i64 y)) := hc
 clear hwork hc
 go_enter Tryz.func108, Tryz.ntmps108
 go_wp2
 go_loop [14] (fun i => ∃ k : Nat, k ≤ xs.length ∧ i = .int .i64 k ∧ (xs.take k).all (Bv.isv kind) = true) (fun i => xs.length - (intOf i).toNat)
 case atStart => exact ⟨0, Nat.zero_le _, rfl, rfl⟩
 case round =>
  obtain ⟨k, hk, rfl, ha⟩ := hrel
  have HA : Hid ((xs.take k).all (Bv.isv kind) = true) := ha
  clear ha
  by_cases hlt2 : k < xs.length
  ·have hcell := HC.out k xs[k] (List.getElem?_eq_getElem hlt2)
   generalize hy : xs[k] = y at hcell
   have HY : Hid (xs[k] = y) := hy
   clear hy
   rcases Bool.eq_false_or_eq_true (Bv.isv kind y) with hv | hv
   ·go_wp2_with (go_at_call 139; refine (is_any _ _ _).mono ?_; rintro e w' ⟨rfl, rfl⟩)
    exact ⟨⟨k + 1, by omega, by go_num, all_take HA.out hlt2 (by rw [HY.out]; exact hv)⟩, by simp [intOf]; omega⟩
   ·have hf : Bv.allv kind xs = false := by
     unfold Bv.allv
     rw [List.all_eq_false]
     exact ⟨xs[k], List.getElem_mem hlt2, by rw [HY.out, hv]; decide⟩
    have hs : Bv.setv kind to x xs = 0 := by simp [Bv.setv, hf]
    go_wp2_with (go_at_call 139; refine (is_any _ _ _).mono ?_; rintro e w' ⟨rfl, rfl⟩)
    go_ret2
    exact ⟨by rw [hs, hf]; rfl, Below.refl _ _⟩
  ·have ht : Bv.allv kind xs = true := by
    have h := HA.out
    rw [List.take_of_length_le (by omega)] at h
    exact h
   have hs : Bv.setv kind to x xs = Bv.wrp to x := by simp [Bv.setv, ht]
   have HS : Hid (Bv.setv kind to x xs = Bv.wrp to x) := hs
   have HT : Hid (Bv.allv kind xs = true) := ht
   clear hs ht
   go_wp2_with fail
   refine (H.out _).mono ?_
   rintro e w1 ⟨rfl, hb⟩
   go_wp2_with (go_at_call 140; refine (wrap_any _ _ _).mono ?_; rintro e w' ⟨rfl, rfl⟩)
   go_ret2
   exact ⟨by rw [HS.out, HT.out]; rfl, hb⟩
theorem settle1 (kind to x a : Int) (g : Nat) (v : Value) (w : World) (blk : Nat) (hlt : blk < w.heap.size)
  (h0 : w.cell? ⟨blk, 0, none⟩ = some (.int .i64 a))
  (hcf : ∀ args w, (callFunc g args).run Tryz.prog w = .ok (.enter g args) w)
  (hwork : ∀ w, Calls Tryz.prog g #[v] w fun e w' => e = .returned (.int .i64 x) ∧ Below w.heap.size w w') :
  Calls Tryz.prog 108 #[.int .i64 kind, .int .i64 to, .func (.func g) #[v] #[], .slice (some ⟨blk, 0, none⟩) 1 1] w
   fun e w' => e = .returned (.tuple #[.int .i64 (Bv.setv kind to x [a]), .bool (Bv.allv kind [a])]) ∧ Below w.heap.size w w' :=
 settle_any kind to x [a] g v w blk hlt (by
  intro j y h
  match j with
  | 0 => simp at h; subst h; exact h0
  | j + 1 => simp at h) (by simp) hcf hwork
theorem settle2 (kind to x a b : Int) (g : Nat) (v : Value) (w : World) (blk : Nat) (hlt : blk < w.heap.size)
  (h0 : w.cell? ⟨blk, 0, none⟩ = some (.int .i64 a)) (h1 : w.cell? ⟨blk, 1, none⟩ = some (.int .i64 b))
  (hcf : ∀ args w, (callFunc g args).run Tryz.prog w = .ok (.enter g args) w)
  (hwork : ∀ w, Calls Tryz.prog g #[v] w fun e w' => e = .returned (.int .i64 x) ∧ Below w.heap.size w w') :
  Calls Tryz.prog 108 #[.int .i64 kind, .int .i64 to, .func (.func g) #[v] #[], .slice (some ⟨blk, 0, none⟩) 2 2] w
   fun e w' => e = .returned (.tuple #[.int .i64 (Bv.setv kind to x [a, b]), .bool (Bv.allv kind [a, b])]) ∧ Below w.heap.size w w' :=
 settle_any kind to x [a, b] g v w blk hlt (by
  intro j y h
  match j with
  | 0 => simp at h; subst h; exact h0
  | 1 => simp at h; subst h; exact h1
  | j + 2 => simp at h) (by simp) hcf hwork
theorem enters_run1 (args : Array Value) (w : World) : (callFunc 109 args).run Tryz.prog w = .ok (.enter 109 args) w := enters Tryz.func109 (by kernel_rfl) rfl args w
theorem enters_run2 (args : Array Value) (w : World) : (callFunc 114 args).run Tryz.prog w = .ok (.enter 114 args) w := enters Tryz.func114 (by kernel_rfl) rfl args w
theorem enters_not (args : Array Value) (w : World) : (callFunc 136 args).run Tryz.prog w = .ok (.enter 136 args) w := enters Tryz.func136 (by kernel_rfl) rfl args w
theorem enters_neg (args : Array Value) (w : World) : (callFunc 137 args).run Tryz.prog w = .ok (.enter 137 args) w := enters Tryz.func137 (by kernel_rfl) rfl args w
theorem bel_more {w w1 w2 : World} {o p : Obj} (h1 : Below w.heap.size w w1) (h2 : Below ((w1.alloc o).alloc p).heap.size ((w1.alloc o).alloc p) w2) : Below w.heap.size w w2 :=
 (h1.trans ((bel2 w1 o p).mono h1.size)).trans (h2.mono (by have := h1.size; simp; omega))
def rowU (op : Int) : Array Value := if op = 1 then #[.int .i64 3, .func (.func 136) #[] #[]] else if op = 2 then #[.int .i64 2, .func (.func 137) #[] #[]] else #[.int .i64 0, .nilFunc]
theorem unaryOf_any (op : Int) (w : World) :
  Calls Tryz.prog 106 #[.int .i64 op] w fun e w' => e = .returned (.agg (rowU op)) ∧ Below w.heap.size w w' := by
 have hcases : op < 0 ∨ 3 ≤ op ∨ op = 0 ∨ op = 1 ∨ op = 2 := by omega
 rcases hcases with h | h | h | h | h
 ·have hr : rowU op = #[.int .i64 0, .nilFunc] := by unfold rowU; rw [if_neg (by omega), if_neg (by omega)]
  go_enter Tryz.func106, Tryz.ntmps106
  go_wp2
  exact bodyPost_ret (v := .agg (rowU op)) (by rw [hr]; simp [results, Tryz.results106, go_sem]) rfl ⟨rfl, bel2 _ _ _⟩
 ·have hr : rowU op = #[.int .i64 0, .nilFunc] := by unfold rowU; rw [if_neg (by omega), if_neg (by omega)]
  go_enter Tryz.func106, Tryz.ntmps106
  go_wp2
  exact bodyPost_ret (v := .agg (rowU op)) (by rw [hr]; simp [results, Tryz.results106, go_sem]) rfl ⟨rfl, bel2 _ _ _⟩
 all_goals
  subst h
  go_enter Tryz.func106, Tryz.ntmps106
  go_wp2
  exact bodyPost_ret (v := .agg (rowU _)) (by simp [results, Tryz.results106, go_sem, rowU]) rfl ⟨rfl, bel2 _ _ _⟩
theorem un_nil (op kind a : Int) (w : World) (hr : rowU op = #[.int .i64 0, .nilFunc]) :
  Calls Tryz.prog 72 #[.int .i64 op, .int .i64 kind, .int .i64 a] w fun e w' => e = .returned (.tuple #[.int .i64 0, .bool false]) ∧ Below w.heap.size w w' := by
 have HR : Hid (rowU op = #[.int .i64 0, .nilFunc]) := hr
 clear hr
 have ht : Bv.tks 0 kind = false := by simp [Bv.tks]
 go_enter Tryz.func72, Tryz.ntmps72
 go_wp2_with fail
 refine (unaryOf_any _ _).mono ?_
 rintro e w1 ⟨rfl, hb⟩
 rw [HR.out]
 go_wp2_with (go_at_call 107; refine (takes_any _ _ _).mono ?_; rintro e w' ⟨rfl, rfl⟩)
 go_ret2
 exact ⟨rfl, hb.alloc hb.size _⟩
theorem un_no (op kind a o : Int) (f : Nat) (w : World) (hr : rowU op = #[.int .i64 o, .func (.func f) #[] #[]]) (ht : Bv.tks o kind = false) :
  Calls Tryz.prog 72 #[.int .i64 op, .int .i64 kind, .int .i64 a] w fun e w' => e = .returned (.tuple #[.int .i64 0, .bool false]) ∧ Below w.heap.size w w' := by
 have HR : Hid (rowU op = #[.int .i64 o, .func (.func f) #[] #[]]) := hr
 clear hr
 go_enter Tryz.func72, Tryz.ntmps72
 go_wp2_with fail
 refine (unaryOf_any _ _).mono ?_
 rintro e w1 ⟨rfl, hb⟩
 rw [HR.out]
 go_wp2_with (go_at_call 107; refine (takes_any _ _ _).mono ?_; rintro e w' ⟨rfl, rfl⟩)
 go_ret2
 exact ⟨rfl, hb.alloc hb.size _⟩
theorem un_yes (op kind a o x : Int) (f : Nat) (w : World) (hr : rowU op = #[.int .i64 o, .func (.func f) #[] #[]]) (ht : Bv.tks o kind = true)
  (hcf : ∀ args w, (callFunc f args).run Tryz.prog w = .ok (.enter f args) w)
  (hf : ∀ w, Calls Tryz.prog f #[.agg #[.int .i64 kind, .int .i64 a]] w fun e w' => e = .returned (.int .i64 x) ∧ Below w.heap.size w w') :
  Calls Tryz.prog 72 #[.int .i64 op, .int .i64 kind, .int .i64 a] w fun e w' => e = .returned (.tuple #[.int .i64 (Bv.setv kind kind x [a]), .bool (Bv.allv kind [a])]) ∧ Below w.heap.size w w' := by
 have HR : Hid (rowU op = #[.int .i64 o, .func (.func f) #[] #[]]) := hr
 have HF : Hid (∀ w, Calls Tryz.prog f #[.agg #[.int .i64 kind, .int .i64 a]] w fun e w' => e = .returned (.int .i64 x) ∧ Below w.heap.size w w') := hf
 have HCF : Hid (∀ args w, (callFunc f args).run Tryz.prog w = .ok (.enter f args) w) := hcf
 clear hr hf hcf
 go_enter Tryz.func72, Tryz.ntmps72
 go_wp2_with fail
 refine (unaryOf_any _ _).mono ?_
 rintro e w1 ⟨rfl, hb⟩
 rw [HR.out]
 go_wp2_with (go_at_call 107; refine (takes_any _ _ _).mono ?_; rintro e w' ⟨rfl, rfl⟩)
 refine (settle1 kind kind x a 109 _ _ _ ?_ ?_ enters_run1 ?_).mono ?_
 ·simp
 ·simp
 ·exact fun w => run1_any f kind a x w HCF.out HF.out
 rintro e w2 ⟨rfl, hb2⟩
 have hB := bel_more hb hb2
 clear hb hb2
 go_wp2
 go_ret2
 exact ⟨rfl, hB⟩
theorem un_any (op kind a : Int) (w : World) :
  Calls Tryz.prog 72 #[.int .i64 op, .int .i64 kind, .int .i64 a] w fun e w' => e = .returned (.tuple #[.int .i64 (Bv.unN op kind a), .bool (Bv.unB op kind a)]) ∧ Below w.heap.size w w' := by
 by_cases h1 : op = 1
 ·subst h1
  have ho : Bv.ofU 1 = 3 := rfl
  cases ht : Bv.tks 3 kind with
  | false =>
   have e : Bv.unB 1 kind a = false := by simp [Bv.unB, ho, ht]
   have e' : Bv.unN 1 kind a = 0 := by simp [Bv.unN, e]
   rw [e, e']
   exact un_no 1 kind a 3 _ w rfl ht
  | true =>
   have e : Bv.unB 1 kind a = Bv.allv kind [a] := by simp [Bv.unB, ho, ht]
   have e' : Bv.unN 1 kind a = Bv.setv kind kind (bits .xor .i64 (-1) a) [a] := by simp [Bv.unN, e, Bv.setv, Bv.unV]
   rw [e, e']
   exact un_yes 1 kind a 3 _ _ w rfl ht enters_not (fun w => v_not kind a w)
 ·by_cases h2 : op = 2
  ·subst h2
   have ho : Bv.ofU 2 = 2 := rfl
   cases ht : Bv.tks 2 kind with
   | false =>
    have e : Bv.unB 2 kind a = false := by simp [Bv.unB, ho, ht]
    have e' : Bv.unN 2 kind a = 0 := by simp [Bv.unN, e]
    rw [e, e']
    exact un_no 2 kind a 2 _ w rfl ht
   | true =>
    have e : Bv.unB 2 kind a = Bv.allv kind [a] := by simp [Bv.unB, ho, ht]
    have e' : Bv.unN 2 kind a = Bv.setv kind kind (wrap64 (-a)) [a] := by simp [Bv.unN, e, Bv.setv, Bv.unV]
    rw [e, e']
    exact un_yes 2 kind a 2 _ _ w rfl ht enters_neg (fun w => v_neg kind a w)
  ·have ho : Bv.ofU op = 0 := by simp [Bv.ofU, h1, h2]
   have e : Bv.unB op kind a = false := by simp [Bv.unB, ho, Bv.tks]
   have e' : Bv.unN op kind a = 0 := by simp [Bv.unN, e]
   rw [e, e']
   exact un_nil op kind a w (by simp [rowU, h1, h2])
theorem wpList_store_new {P : Program} {w1 : World} {o1 : Obj} {ops : Array Oper} {rest : List Oper} {d : Option Tmp} {p v : Operand} {t ty : TypeId} {s : String} {af : Array Edge} {a : Act} {Q : Exit → Act → World → Prop} {c : Array Value}
  (c' : Array Value) (hp : a.eval p = .pointer (some ⟨w1.heap.size + 1, 0, none⟩)) (hv : a.eval v = .agg c') (hi : (P.info? t).map (·.size) = some c'.size) (ho : c.size = c'.size) (h1 : c'.all (·.oneCell') = true)
  (hK : wpList P ops Q rest (a.put d undef) ((w1.alloc o1).alloc (.cells c' t))) :
  wpList P ops Q ({ dst := d, op := Op.store t p v, type := ty, pos := s, after := af, guard := none } :: rest) a ((w1.alloc o1).alloc (.cells c t)) := by
 refine wpList_plain rfl fun K hK' => ?_
 unfold Oper.wp
 have hs : (w1.alloc o1).heap.size = w1.heap.size + 1 := by simp
 have hrun := run_storeAt_new (P := P) (w1.alloc o1) t c c' hi ho h1
 rw [hs] at hrun
 simp [execOp, hp, hv, hrun, Result.andThen]
 exact hK' _ _ hK
theorem hold_store {P : Program} {ops : Array Oper} {rest : List Oper} {p v : Operand} {t ty : TypeId} {s : String} {af : Array Edge} {g : Option (Nat × Bool)} {a : Act} {w : World} {Q : Exit → Act → World → Prop}
 (hK : Hid (wpList P ops Q ({ dst := none, op := Op.store t p v, type := ty, pos := s, after := af, guard := g } :: rest) a w)) :
 wpList P ops Q ({ dst := none, op := Op.store t p v, type := ty, pos := s, after := af, guard := g } :: rest) a w := hK
def rowB (op : Int) : Array Value :=
 if op = 3 then #[.int .i64 2, .bool false, .func (.func 142) #[] #[]] else
 if op = 4 then #[.int .i64 2, .bool false, .func (.func 143) #[] #[]] else
 if op = 5 then #[.int .i64 2, .bool false, .func (.func 144) #[] #[]] else
 if op = 6 then #[.int .i64 2, .bool false, .func (.func 145) #[] #[]] else
 if op = 7 then #[.int .i64 2, .bool false, .func (.func 146) #[] #[]] else
 if op = 8 then #[.int .i64 3, .bool false, .func (.func 147) #[] #[]] else
 if op = 9 then #[.int .i64 3, .bool false, .func (.func 148) #[] #[]] else
 if op = 10 then #[.int .i64 3, .bool false, .func (.func 149) #[] #[]] else
 if op = 11 then #[.int .i64 1, .bool false, .func (.func 150) #[] #[]] else
 if op = 12 then #[.int .i64 2, .bool false, .func (.func 151) #[] #[]] else
 if op = 13 then #[.int .i64 2, .bool false, .func (.func 152) #[] #[]] else
 if op = 14 then #[.int .i64 3, .bool true, .func (.func 153) #[] #[]] else
 if op = 15 then #[.int .i64 3, .bool true, .func (.func 154) #[] #[]] else
 if op = 16 then #[.int .i64 2, .bool true, .func (.func 155) #[] #[]] else
 if op = 17 then #[.int .i64 2, .bool true, .func (.func 156) #[] #[]] else
 if op = 18 then #[.int .i64 2, .bool true, .func (.func 157) #[] #[]] else
 if op = 19 then #[.int .i64 2, .bool true, .func (.func 158) #[] #[]] else
 #[.int .i64 0, .bool false, .nilFunc]
theorem rowB_out (op : Int) (h : op < 0 ∨ 20 ≤ op) : rowB op = #[.int .i64 0, .bool false, .nilFunc] := by
 unfold rowB
 repeat (rw [if_neg (by omega)])
theorem binaryOf_any (op : Int) (w : World) :
  Calls Tryz.prog 113 #[.int .i64 op] w fun e w' => e = .returned (.agg (rowB op)) ∧ Below w.heap.size w w' := by
 go_enter Tryz.func113, Tryz.ntmps113
 go_wp2_with (with_reducible refine hold_store ?_)
 refine wpList_store_new _ ?hp rfl ?hi ?ho ?h1 ?hK
 case hp => simp [Act.eval]
 case hi => kernel_rfl
 case ho => rfl
 case h1 => kernel_rfl
 have hcases : op < 0 ∨ 20 ≤ op ∨ op = 0 ∨ op = 1 ∨ op = 2 ∨ op = 3 ∨ op = 4 ∨ op = 5 ∨ op = 6 ∨ op = 7 ∨ op = 8 ∨ op = 9 ∨ op = 10 ∨ op = 11 ∨ op = 12 ∨ op = 13 ∨ op = 14 ∨ op = 15 ∨ op = 16 ∨ op = 17 ∨ op = 18 ∨ op = 19 := by omega
 rcases hcases with h | h | h | h | h | h | h | h | h | h | h | h | h | h | h | h | h | h | h | h | h | h
 ·have hr : rowB op = #[.int .i64 0, .bool false, .nilFunc] := rowB_out op (Or.inl h)
  go_wp2
  exact bodyPost_ret (v := .agg (rowB op)) (by rw [hr]; simp [results, Tryz.results113, go_sem]) rfl ⟨rfl, bel2 _ _ _⟩
 ·have hr : rowB op = #[.int .i64 0, .bool false, .nilFunc] := rowB_out op (Or.inr h)
  go_wp2
  exact bodyPost_ret (v := .agg (rowB op)) (by rw [hr]; simp [results, Tryz.results113, go_sem]) rfl ⟨rfl, bel2 _ _ _⟩
 all_goals
  subst h
  go_wp2
  refine bodyPost_ret (v := .agg (rowB _)) (by simp [results, Tryz.results113, go_sem, rowB]) rfl ⟨rfl, bel2 _ _ _⟩
theorem enters_add (args : Array Value) (w : World) : (callFunc 142 args).run Tryz.prog w = .ok (.enter 142 args) w := enters Tryz.func142 (by kernel_rfl) rfl args w
theorem enters_sub (args : Array Value) (w : World) : (callFunc 143 args).run Tryz.prog w = .ok (.enter 143 args) w := enters Tryz.func143 (by kernel_rfl) rfl args w
theorem enters_mul (args : Array Value) (w : World) : (callFunc 144 args).run Tryz.prog w = .ok (.enter 144 args) w := enters Tryz.func144 (by kernel_rfl) rfl args w
theorem enters_div (args : Array Value) (w : World) : (callFunc 145 args).run Tryz.prog w = .ok (.enter 145 args) w := enters Tryz.func145 (by kernel_rfl) rfl args w
theorem enters_mod (args : Array Value) (w : World) : (callFunc 146 args).run Tryz.prog w = .ok (.enter 146 args) w := enters Tryz.func146 (by kernel_rfl) rfl args w
theorem enters_and (args : Array Value) (w : World) : (callFunc 147 args).run Tryz.prog w = .ok (.enter 147 args) w := enters Tryz.func147 (by kernel_rfl) rfl args w
theorem enters_or (args : Array Value) (w : World) : (callFunc 148 args).run Tryz.prog w = .ok (.enter 148 args) w := enters Tryz.func148 (by kernel_rfl) rfl args w
theorem enters_xor (args : Array Value) (w : World) : (callFunc 149 args).run Tryz.prog w = .ok (.enter 149 args) w := enters Tryz.func149 (by kernel_rfl) rfl args w
theorem enters_imp (args : Array Value) (w : World) : (callFunc 150 args).run Tryz.prog w = .ok (.enter 150 args) w := enters Tryz.func150 (by kernel_rfl) rfl args w
theorem enters_shl (args : Array Value) (w : World) : (callFunc 151 args).run Tryz.prog w = .ok (.enter 151 args) w := enters Tryz.func151 (by kernel_rfl) rfl args w
theorem enters_shr (args : Array Value) (w : World) : (callFunc 152 args).run Tryz.prog w = .ok (.enter 152 args) w := enters Tryz.func152 (by kernel_rfl) rfl args w
theorem enters_eq (args : Array Value) (w : World) : (callFunc 153 args).run Tryz.prog w = .ok (.enter 153 args) w := enters Tryz.func153 (by kernel_rfl) rfl args w
theorem enters_ne (args : Array Value) (w : World) : (callFunc 154 args).run Tryz.prog w = .ok (.enter 154 args) w := enters Tryz.func154 (by kernel_rfl) rfl args w
theorem enters_lt (args : Array Value) (w : World) : (callFunc 155 args).run Tryz.prog w = .ok (.enter 155 args) w := enters Tryz.func155 (by kernel_rfl) rfl args w
theorem enters_le (args : Array Value) (w : World) : (callFunc 156 args).run Tryz.prog w = .ok (.enter 156 args) w := enters Tryz.func156 (by kernel_rfl) rfl args w
theorem enters_gt (args : Array Value) (w : World) : (callFunc 157 args).run Tryz.prog w = .ok (.enter 157 args) w := enters Tryz.func157 (by kernel_rfl) rfl args w
theorem enters_ge (args : Array Value) (w : World) : (callFunc 158 args).run Tryz.prog w = .ok (.enter 158 args) w := enters Tryz.func158 (by kernel_rfl) rfl args w
theorem bin_nil (op kind a b : Int) (w : World) (hr : rowB op = #[.int .i64 0, .bool false, .nilFunc]) :
  Calls Tryz.prog 76 #[.int .i64 op, .int .i64 kind, .int .i64 a, .int .i64 b] w fun e w' => e = .returned (.tuple #[.int .i64 0, .int .i64 0, .bool false]) ∧ Below w.heap.size w w' := by
 have HR : Hid (rowB op = #[.int .i64 0, .bool false, .nilFunc]) := hr
 clear hr
 have ht : Bv.tks 0 kind = false := by simp [Bv.tks]
 go_enter Tryz.func76, Tryz.ntmps76
 go_wp2_with fail
 refine (binaryOf_any _ _).mono ?_
 rintro e w1 ⟨rfl, hb⟩
 rw [HR.out]
 go_wp2_with (go_at_call 107; refine (takes_any _ _ _).mono ?_; rintro e w' ⟨rfl, rfl⟩)
 go_ret3
 exact ⟨rfl, hb.alloc hb.size _⟩
theorem bin_no (op kind a b o : Int) (t : Bool) (f : Nat) (w : World) (hr : rowB op = #[.int .i64 o, .bool t, .func (.func f) #[] #[]]) (ht : Bv.tks o kind = false) :
  Calls Tryz.prog 76 #[.int .i64 op, .int .i64 kind, .int .i64 a, .int .i64 b] w fun e w' => e = .returned (.tuple #[.int .i64 0, .int .i64 0, .bool false]) ∧ Below w.heap.size w w' := by
 have HR : Hid (rowB op = #[.int .i64 o, .bool t, .func (.func f) #[] #[]]) := hr
 clear hr
 go_enter Tryz.func76, Tryz.ntmps76
 go_wp2_with fail
 refine (binaryOf_any _ _).mono ?_
 rintro e w1 ⟨rfl, hb⟩
 rw [HR.out]
 go_wp2_with (go_at_call 107; refine (takes_any _ _ _).mono ?_; rintro e w' ⟨rfl, rfl⟩)
 go_ret3
 exact ⟨rfl, hb.alloc hb.size _⟩
theorem bin_yes (op kind a b o x : Int) (t : Bool) (f : Nat) (w : World) (hr : rowB op = #[.int .i64 o, .bool t, .func (.func f) #[] #[]]) (ht : Bv.tks o kind = true)
  (hcf : ∀ args w, (callFunc f args).run Tryz.prog w = .ok (.enter f args) w)
  (hf : ∀ w, Calls Tryz.prog f #[.agg #[.int .i64 kind, .int .i64 a], .agg #[.int .i64 kind, .int .i64 b]] w fun e w' => e = .returned (.int .i64 x) ∧ Below w.heap.size w w') :
  Calls Tryz.prog 76 #[.int .i64 op, .int .i64 kind, .int .i64 a, .int .i64 b] w
   fun e w' => e = .returned (.tuple #[.int .i64 (Bv.setv kind (Bv.two t 1 kind) x [a, b]), .int .i64 (Bv.two (Bv.allv kind [a, b]) (Bv.two t 1 kind) 0), .bool (Bv.allv kind [a, b])]) ∧ Below w.heap.size w w' := by
 have HR : Hid (rowB op = #[.int .i64 o, .bool t, .func (.func f) #[] #[]]) := hr
 have HF : Hid (∀ w, Calls Tryz.prog f #[.agg #[.int .i64 kind, .int .i64 a], .agg #[.int .i64 kind, .int .i64 b]] w fun e w' => e = .returned (.int .i64 x) ∧ Below w.heap.size w w') := hf
 have HCF : Hid (∀ args w, (callFunc f args).run Tryz.prog w = .ok (.enter f args) w) := hcf
 clear hr hf hcf
 rcases Bool.eq_false_or_eq_true (Bv.allv kind [a, b]) with hall | hall
 all_goals rcases Bool.eq_false_or_eq_true t with htt | htt
 all_goals subst htt
 all_goals
  go_enter Tryz.func76, Tryz.ntmps76
  go_wp2_with fail
  refine (binaryOf_any _ _).mono ?_
  rintro e w1 ⟨rfl, hb⟩
  rw [HR.out]
  go_wp2_with (go_at_call 107; refine (takes_any _ _ _).mono ?_; rintro e w' ⟨rfl, rfl⟩)
  refine (settle2 kind _ x a b 114 _ _ _ ?_ ?_ ?_ enters_run2 ?_).mono ?_
  ·simp
  ·simp
  ·simp
  ·exact fun w => run2_any f kind a kind b x w HCF.out HF.out
  rintro e w2 ⟨rfl, hb2⟩
  have hB := bel_more hb hb2
  clear hb hb2
  go_wp2
  go_ret3
  exact ⟨by simp [Bv.two, Bv.setv, hall], hB⟩
theorem bin_of (op kind a b o x : Int) (t : Bool) (f : Nat) (w : World) (hr : rowB op = #[.int .i64 o, .bool t, .func (.func f) #[] #[]])
  (ho : Bv.ofB op = o) (hts : Bv.tsB op = t) (hv : Bv.vop op kind a b = x)
  (hcf : ∀ args w, (callFunc f args).run Tryz.prog w = .ok (.enter f args) w)
  (hf : ∀ w, Calls Tryz.prog f #[.agg #[.int .i64 kind, .int .i64 a], .agg #[.int .i64 kind, .int .i64 b]] w fun e w' => e = .returned (.int .i64 x) ∧ Below w.heap.size w w') :
  Calls Tryz.prog 76 #[.int .i64 op, .int .i64 kind, .int .i64 a, .int .i64 b] w
   fun e w' => e = .returned (.tuple #[.int .i64 (Bv.binN op kind a b), .int .i64 (Bv.binK op kind a b), .bool (Bv.binB op kind a b)]) ∧ Below w.heap.size w w' := by
 cases ht : Bv.tks o kind with
 | false =>
  have e : Bv.binB op kind a b = false := by simp [Bv.binB, ho, ht]
  have e1 : Bv.binN op kind a b = 0 := by simp [Bv.binN, e]
  have e2 : Bv.binK op kind a b = 0 := by simp [Bv.binK, e]
  rw [e, e1, e2]
  exact bin_no op kind a b o t f w hr ht
 | true =>
  have e : Bv.binB op kind a b = Bv.allv kind [a, b] := by simp [Bv.binB, ho, ht]
  have e1 : Bv.binN op kind a b = Bv.setv kind (Bv.two t 1 kind) x [a, b] := by simp [Bv.binN, e, Bv.setv, Bv.toK, hts, hv, Bv.two]
  have e2 : Bv.binK op kind a b = Bv.two (Bv.allv kind [a, b]) (Bv.two t 1 kind) 0 := by simp [Bv.binK, e, Bv.toK, hts, Bv.two]
  rw [e, e1, e2]
  exact bin_yes op kind a b o x t f w hr ht hcf hf
theorem bin_any (op kind a b : Int) (h64 : Bv.I64 b) (w : World) :
  Calls Tryz.prog 76 #[.int .i64 op, .int .i64 kind, .int .i64 a, .int .i64 b] w
   fun e w' => e = .returned (.tuple #[.int .i64 (Bv.binN op kind a b), .int .i64 (Bv.binK op kind a b), .bool (Bv.binB op kind a b)]) ∧ Below w.heap.size w w' := by
 by_cases hout : op < 3 ∨ 20 ≤ op
 ·have ho : Bv.ofB op = 0 := by unfold Bv.ofB; rw [if_neg (by omega), if_neg (by omega), if_neg (by omega)]
  have e : Bv.binB op kind a b = false := by simp [Bv.binB, ho, Bv.tks]
  have e1 : Bv.binN op kind a b = 0 := by simp [Bv.binN, e]
  have e2 : Bv.binK op kind a b = 0 := by simp [Bv.binK, e]
  rw [e, e1, e2]
  exact bin_nil op kind a b w (by unfold rowB; repeat (rw [if_neg (by omega)]))
 ·have hc : op = 3 ∨ op = 4 ∨ op = 5 ∨ op = 6 ∨ op = 7 ∨ op = 8 ∨ op = 9 ∨ op = 10 ∨ op = 11 ∨ op = 12 ∨ op = 13 ∨ op = 14 ∨ op = 15 ∨ op = 16 ∨ op = 17 ∨ op = 18 ∨ op = 19 := by omega
  rcases hc with h | h | h | h | h | h | h | h | h | h | h | h | h | h | h | h | h
  all_goals subst h
  ·exact bin_of 3 kind a b 2 _ false _ w (by simp [rowB]) rfl rfl (by simp [Bv.vop]) enters_add (fun w => v_add kind a kind b w)
  ·exact bin_of 4 kind a b 2 _ false _ w (by simp [rowB]) rfl rfl (by simp [Bv.vop]) enters_sub (fun w => v_sub kind a kind b w)
  ·exact bin_of 5 kind a b 2 _ false _ w (by simp [rowB]) rfl rfl (by simp [Bv.vop]) enters_mul (fun w => v_mul kind a kind b w)
  ·exact bin_of 6 kind a b 2 _ false _ w (by simp [rowB]) rfl rfl (by simp [Bv.vop]) enters_div (fun w => v_div kind a kind b h64 w)
  ·exact bin_of 7 kind a b 2 _ false _ w (by simp [rowB]) rfl rfl (by simp [Bv.vop]) enters_mod (fun w => v_mod kind a kind b h64 w)
  ·exact bin_of 8 kind a b 3 _ false _ w (by simp [rowB]) rfl rfl (by simp [Bv.vop]) enters_and (fun w => v_and kind a kind b w)
  ·exact bin_of 9 kind a b 3 _ false _ w (by simp [rowB]) rfl rfl (by simp [Bv.vop]) enters_or (fun w => v_or kind a kind b w)
  ·exact bin_of 10 kind a b 3 _ false _ w (by simp [rowB]) rfl rfl (by simp [Bv.vop]) enters_xor (fun w => v_xor kind a kind b w)
  ·exact bin_of 11 kind a b 1 _ false _ w (by simp [rowB]) rfl rfl (by simp [Bv.vop]) enters_imp (fun w => v_imp kind a kind b w)
  ·exact bin_of 12 kind a b 2 _ false _ w (by simp [rowB]) rfl rfl (by simp [Bv.vop]) enters_shl (fun w => v_shl kind a kind b w)
  ·exact bin_of 13 kind a b 2 _ false _ w (by simp [rowB]) rfl rfl (by simp [Bv.vop]) enters_shr (fun w => v_shr kind a kind b w)
  ·exact bin_of 14 kind a b 3 _ true _ w (by simp [rowB]) rfl rfl (by simp [Bv.vop]) enters_eq (fun w => v_eq kind a kind b w)
  ·exact bin_of 15 kind a b 3 _ true _ w (by simp [rowB]) rfl rfl (by simp [Bv.vop]) enters_ne (fun w => v_ne kind a kind b w)
  ·exact bin_of 16 kind a b 2 _ true _ w (by simp [rowB]) rfl rfl (by simp [Bv.vop]) enters_lt (fun w => v_lt kind a kind b w)
  ·exact bin_of 17 kind a b 2 _ true _ w (by simp [rowB]) rfl rfl (by simp [Bv.vop]) enters_le (fun w => v_le kind a kind b w)
  ·exact bin_of 18 kind a b 2 _ true _ w (by simp [rowB]) rfl rfl (by simp [Bv.vop]) enters_gt (fun w => v_gt kind a kind b w)
  ·exact bin_of 19 kind a b 2 _ true _ w (by simp [rowB]) rfl rfl (by simp [Bv.vop]) enters_ge (fun w => v_ge kind a kind b w)
open Go.RowKit Go.Maps Go.WideMaps
structure Pc (w0 w : World) (A : Aa) (N : List (List UInt8 × (Gram.Node × Nv))) (V : List (List UInt8 × Ty.T)) (cnt b : Nat) (p : Pv) (kts : List Ty.T) (c : Int) : Prop where
 ak : Ak w0 w A N V cnt
 pt : Pt w b p c
 pa : p.ac = A.c
 hb : w0.heap.size ≤ b ∧ b ∉ [A.c, A.rb, A.nb, A.vb]
 kn : p.kn = kts.length
 km : p.kn ≤ 100000
 kl : TyL w p.ka kts
 kb : ∀ g off, p.ka = some ⟨g, off, none⟩ → g ≠ b
 kw : ∀ x ∈ kts, wfT x
 kcap : p.kn ≤ p.kc
 sh : Nam.short p.nm = true
theorem TyL.keptB {w w' : World} {a : Option Addr} {xs : List Ty.T} {b : Nat} (h : TyL w a xs) (hg : w.grownBy w' (some b)) (hb : ∀ g off, a = some ⟨g, off, none⟩ → g ≠ b) : TyL w' a xs := fun t x hx => by
 obtain ⟨g, off, h1, h2, h3⟩ := h t x hx
 have := hb g off h1
 exact ⟨g, off, h1, hg.cell h2 (by simpa using this), hg.cell h3 (by simpa using this)⟩
section
variable {w0 w w' : World} {A : Aa} {N : List (List UInt8 × (Gram.Node × Nv))} {V : List (List UInt8 × Ty.T)} {cnt b : Nat} {p : Pv} {kts : List Ty.T} {c c' : Int}
theorem Pc.on (h : Pc w0 w A N V cnt b p kts c) (hg : w.grownBy w' (some b)) (hp : Pt w' b p c') : Pc w0 w' A N V cnt b p kts c' :=
 ⟨h.ak.keptB hg (fun k e => by cases e; exact h.hb), hp, h.pa, h.hb, h.kn, h.km, h.kl.keptB hg h.kb, h.kb, h.kw, h.kcap, h.sh⟩
theorem Pc.kept (h : Pc w0 w A N V cnt b p kts c) (hg : w.grownBy w' none) : Pc w0 w' A N V cnt b p kts c := h.on (grown_some hg b) (h.pt.kept hg)
theorem Pc.k0 {z : Ty.T} {zs : List Ty.T} (h : Pc w0 w A N V cnt b p (z :: zs) c) : ∃ gk ok, gk ≠ b ∧ p.ka = some ⟨gk, ok, none⟩ ∧ w.cell? ⟨gk, ok, none⟩ = some (.int .i64 z.1) ∧ w.cell? ⟨gk, ok + 1, none⟩ = some (.int .i64 z.2) := by
 obtain ⟨g, off, h1, h2, h3⟩ := h.kl.at0
 exact ⟨g, off, h.kb g off h1, h1, h2, h3⟩
theorem Pc.k1 {z y : Ty.T} {zs : List Ty.T} (h : Pc w0 w A N V cnt b p (z :: y :: zs) c) : ∃ gk ok, gk ≠ b ∧ p.ka = some ⟨gk, ok, none⟩ ∧ w.cell? ⟨gk, ok, none⟩ = some (.int .i64 z.1) ∧ w.cell? ⟨gk, ok + 1, none⟩ = some (.int .i64 z.2) ∧ w.cell? ⟨gk, ok + 2, none⟩ = some (.int .i64 y.1) ∧ w.cell? ⟨gk, ok + 3, none⟩ = some (.int .i64 y.2) := by
 obtain ⟨g, off, h1, h2⟩ := h.kl.at1
 exact ⟨g, off, h.kb g off h1, h1, h2⟩
end
def Sbt (W : World) (b : Nat) (p : Pv) (V : World) : Prop := W.grownBy V (some b) ∧ ∃ c, Pt V b p c
theorem Sbt.k (W : World) (b : Nat) (p : Pv) : ∀ V V', Sbt W b p V → V.grownBy V' none → Sbt W b p V' := fun V V' h hg => by
 obtain ⟨h1, c, h2⟩ := h
 exact ⟨h1.trans (grown_some hg b), c, h2.kept hg⟩
theorem Sbt.k2 (W : World) (b : Nat) (p : Pv) (hb : b < W.heap.size) : ∀ V V' r, Sbt W b p V → V.grownBy V' r → (∀ k, r = some k → W.heap.size ≤ k) → Sbt W b p V' := fun V V' r h hg hr => by
 obtain ⟨h1, c, h2⟩ := h
 refine ⟨⟨hg.os.trans h1.os, hg.tape.trans h1.tape, hg.output.trans h1.output, Nat.le_trans h1.size hg.size, fun k hk hne => (hg.block k (Nat.lt_of_lt_of_le hk h1.size) (fun e => by have := hr k e.symm; omega)).trans (h1.block k hk hne)⟩, c, (hg.block b (gl h2) (fun e => by have := hr b e.symm; omega)).trans h2⟩
theorem Dem.form {w : World} {v : Value} {q : Bool} (h : Dem w v q) : ∃ F caps, v = .func (.func F) #[] caps := by
 obtain ⟨F, caps, h1, _⟩ := h
 exact ⟨F, caps, h1⟩
theorem dems1 {w : World} {v1 : Value} {q1 : Bool} (h1 : Dem w v1 q1) : ∀ (i : Nat) v q, [v1][i]? = some v → [q1][i]? = some q → Dem w v q := fun i v q hv hq => by
 rcases i with _ | i
 ·cases hv; cases hq; exact h1
 ·simp at hv
theorem dems2 {w : World} {v1 v2 : Value} {q1 q2 : Bool} (h1 : Dem w v1 q1) (h2 : Dem w v2 q2) : ∀ (i : Nat) v q, [v1, v2][i]? = some v → [q1, q2][i]? = some q → Dem w v q := fun i v q hv hq => by
 rcases i with _ | _ | i
 ·cases hv; cases hq; exact h1
 ·cases hv; cases hq; exact h2
 ·simp at hv
theorem dems3 {w : World} {v1 v2 v3 : Value} {q1 q2 q3 : Bool} (h1 : Dem w v1 q1) (h2 : Dem w v2 q2) (h3 : Dem w v3 q3) : ∀ (i : Nat) v q, [v1, v2, v3][i]? = some v → [q1, q2, q3][i]? = some q → Dem w v q := fun i v q hv hq => by
 rcases i with _ | _ | _ | i
 ·cases hv; cases hq; exact h1
 ·cases hv; cases hq; exact h2
 ·cases hv; cases hq; exact h3
 ·simp at hv
def TyB (w : World) (a : Option Addr) : Prop := ∀ g off, a = some ⟨g, off, none⟩ → ∃ cs, w.heap[g]? = some (.cells cs 57 (0, 0))
def rPost (w : World) (b : Nat) (p : Pv) (ts : List Ty.T) (c : Int) (e : Ending) (w' : World) : Prop :=
 ∃ a n k, e = .returned (.slice a n k) ∧ Pt w' b p c ∧ w.grownBy w' (some b) ∧ (c = 0 → n = ts.length ∧ n ≤ 100000 ∧ TyL w' a ts ∧ (∀ x ∈ ts, wfT x) ∧ TyB w' a)
theorem rOne {w w2 w3 : World} {b : Nat} {p : Pv} {c : Int} {t : Ty.T} {g : Nat} (hp : Pt w2 b p c) (hg : w.grownBy w2 (some b)) (hg3 : w2.grownBy w3 none) (ht : TyL w3 (some ⟨g, 0, none⟩) [t] ∧ ∃ cs, w3.heap[g]? = some (.cells cs 57 (0, 0))) (hw : c = 0 → wfT t) : rPost w b p [t] c (.returned (.slice (some ⟨g, 0, none⟩) 1 1)) w3 :=
 ⟨_, _, _, rfl, hp.kept hg3, hg.trans (grown_some hg3 b), fun h0 => ⟨rfl, by decide, ht.1, fun x hx => by simp at hx; subst hx; exact hw h0, fun g' off e => by cases e; exact ht.2⟩⟩
theorem wrapI {x : Int} (h1 : -9223372036854775808 ≤ x) (h2 : x ≤ 9223372036854775807) : IntKind.i64.wrap x = x := by
 simp [IntKind.wrap, IntKind.bits, IntKind.signed]
 omega
theorem wf_bd {n : Int} (h : (Lit.int .i64 n).wf = true) : -9223372036854775808 ≤ n ∧ n ≤ 9223372036854775807 := by
 unfold Lit.wf at h
 rw [Bool.and_eq_true] at h
 exact ⟨of_decide_eq_true h.1, of_decide_eq_true h.2⟩
theorem mst_dec {c code : Int} {q : Bool} (h : Ty.mst c code [q] = 0) (hc : code ≠ 0) : c = 0 ∧ q = true := by
 unfold Ty.mst at h
 by_cases h0 : c = 0
 ·refine ⟨h0, ?_⟩
  cases q with
  | true => rfl
  | false => rw [if_neg (by simp [h0])] at h; simp at h; exact absurd h hc
 ·rw [if_pos h0] at h; exact absurd h h0
theorem wf0 : (Lit.int .i64 0).wf = true := by decide
theorem Pt.set {w : World} {b : Nat} {p : Pv} {c : Int} (h : Pt w b p c) (c' : Int) : Pt (w.setCell ⟨b, 11, none⟩ (.int .i64 c')) b p c' := by
 unfold Pt Pv.cells at *
 simp [World.setCell, Array.getElem?_modify, h]
theorem tr_unknown (w0 w : World) (A : Aa) (N : List (List UInt8 × (Gram.Node × Nv))) (V : List (List UInt8 × Ty.T)) (cnt b : Nat) (p : Pv) (kts : List Ty.T) (h : Pc w0 w A N V cnt b p kts 0) :
  Calls Tryz.prog 41 #[.pointer (some ⟨b, 0, none⟩)] w (rPost w b p [] 22) := by
 have hp := h.pt
 have c11 := hp.c11
 have f11 := frozen_of_row w b 11 _ _ hp
 have HP := ld hp
 clear h hp
 go_enter Tryz.func41, Tryz.ntmps41
 go_wp2
 go_ret
 exact ⟨none, 0, 0, rfl, HP.out.set 22, grown_set w ⟨b, 11, none⟩ _, fun e => by cases e⟩
theorem tr_literal (w0 w : World) (A : Aa) (N : List (List UInt8 × (Gram.Node × Nv))) (V : List (List UInt8 × Ty.T)) (cnt b : Nat) (p : Pv) (kts : List Ty.T) (hw : wfT (p.tk, p.tl)) (h : Pc w0 w A N V cnt b p kts 0) :
  Calls Tryz.prog 42 #[.pointer (some ⟨b, 0, none⟩)] w (rPost w b p [(p.tk, p.tl)] 0) := by
 have hp := h.pt
 have c4 := hp.c4
 have c5 := hp.c5
 have HP := ld hp
 have HW := ld hw
 clear h hp hw
 go_enter Tryz.func42, Tryz.ntmps42
 go_wp2_with (go_at_call 69; refine (tone_any _ _ _).mono ?_; rintro e w3 ⟨g, rfl, ht, hg⟩)
 go_ret
 exact rOne HP.out (World.grownBy.refl _ _) hg ht (fun _ => HW.out)
theorem tr_alike (w0 w : World) (A : Aa) (N : List (List UInt8 × (Gram.Node × Nv))) (V : List (List UInt8 × Ty.T)) (cnt b : Nat) (p : Pv) (z : Ty.T) (zs : List Ty.T) (h : Pc w0 w A N V cnt b p (z :: zs) 0) :
  Calls Tryz.prog 47 #[.pointer (some ⟨b, 0, none⟩)] w (rPost w b p [z] (Ty.mst 0 22 [Ty.same (z :: zs)])) := by
 have hp := h.pt
 have hbl := gl hp
 have hG : w.grownBy w none := World.grownBy.refl _ _
 have pa0 : ∀ V c, Pt V b p c → V.cell? ⟨b, 0, none⟩ = some (.pointer (some ⟨A.c, 0, none⟩)) := fun V c hV => by have := hV.c0; rw [h.pa] at this; exact this
 have a1 := cell_of_row w _ 1 _ _ _ h.ak.cc
 have a2 := cell_of_row w _ 2 _ _ _ h.ak.cc
 have hac : A.c ≠ b := fun e => h.hb.2 (by simp [e])
 obtain ⟨gk, ok, hgk, hka, z0, z1⟩ := h.k0
 have pk : ∀ V c, Pt V b p c → V.cell? ⟨b, 10, none⟩ = some (.slice (some ⟨gk, ok, none⟩) (zs.length + 1) p.kc) := fun V c hV => by have := hV.c10; rw [hka, h.kn] at this; exact this
 have c10 := pk w 0 hp
 have hsm := tsame_any w (some ⟨gk, ok, none⟩) (zs.length + 1) p.kc (z :: zs) rfl (by have := h.km; have := h.kn; simp at this; omega) (hka ▸ h.kl) h.kw
 have H := ld h
 have HPK := ld pk
 have HZ := ld (And.intro z0 (And.intro z1 hgk))
 clear h pa0 a1 a2 hac pk z0 z1 hka hgk
 go_enter Tryz.func47, Tryz.ntmps47
 go_wp2_with (go_at_call 77; refine hsm.mono ?_; rintro e w1 ⟨v, rfl, hd, hg1⟩; obtain ⟨F1, q1, rfl⟩ := hd.form; refine Hid.out ?_)
 have hal := ga w1 (.cells #[.func (.func F1) #[] q1] 125 (0, 0)) none
 have hmu := tmust_any (w1.alloc (.cells #[.func (.func F1) #[] q1] 125)) b p 0 22 (hp.kept (hg1.trans hal)) (by decide) w1.heap.size 1 [.func (.func F1) #[] q1] [Ty.same (z :: zs)] rfl rfl (by decide) (heap_alloc_new _ _) (by have := hg1.size; omega) (fun _ => dems1 (hd.kept hal))
 have HG := ld (hg1.trans hal)
 clear hal hg1 hd hsm c10 hp hG
 refine ld ?_
 go_wp2_with (go_at_call 70; refine hmu.mono ?_; rintro e w2 ⟨rfl, hp2, hg2⟩; refine Hid.out ?_)
 have hgw := (grown_some HG.out b).trans hg2
 have d10 := HPK.out _ _ hp2
 have y0 := hgw.cell HZ.out.1 (by simp; exact HZ.out.2.2)
 have y1 := hgw.cell HZ.out.2.1 (by simp; exact HZ.out.2.2)
 have HP2 := ld (And.intro hp2 hgw)
 clear hp2 hgw hg2 hmu
 refine ld ?_
 go_wp2_with (go_at_call 69; refine (tone_any _ _ _).mono ?_; rintro e w3 ⟨g, rfl, ht, hg⟩)
 go_ret
 exact rOne HP2.out.1 HP2.out.2 hg ht (fun _ => H.out.kw z (by simp))
theorem tr_cast (w0 w : World) (A : Aa) (N : List (List UInt8 × (Gram.Node × Nv))) (V : List (List UInt8 × Ty.T)) (cnt b : Nat) (p : Pv) (z : Ty.T) (zs : List Ty.T) (hw : wfT (p.tk, p.tl)) (h : Pc w0 w A N V cnt b p (z :: zs) 0) :
  Calls Tryz.prog 49 #[.pointer (some ⟨b, 0, none⟩)] w (rPost w b p [(p.tk, p.tl)] (Ty.mst 0 22 [(z :: zs).all Ty.scal])) := by
 have hp := h.pt
 have hbl := gl hp
 have hG : w.grownBy w none := World.grownBy.refl _ _
 have pa0 : ∀ V c, Pt V b p c → V.cell? ⟨b, 0, none⟩ = some (.pointer (some ⟨A.c, 0, none⟩)) := fun V c hV => by have := hV.c0; rw [h.pa] at this; exact this
 have a1 := cell_of_row w _ 1 _ _ _ h.ak.cc
 have a2 := cell_of_row w _ 2 _ _ _ h.ak.cc
 have hac : A.c ≠ b := fun e => h.hb.2 (by simp [e])
 obtain ⟨gk, ok, hgk, hka, z0, z1⟩ := h.k0
 have pk : ∀ V c, Pt V b p c → V.cell? ⟨b, 10, none⟩ = some (.slice (some ⟨gk, ok, none⟩) (zs.length + 1) p.kc) := fun V c hV => by have := hV.c10; rw [hka, h.kn] at this; exact this
 have c10 := pk w 0 hp
 have hsm := tall_any w (some ⟨gk, ok, none⟩) (zs.length + 1) p.kc (z :: zs) rfl (by have := h.km; have := h.kn; simp at this; omega) (hka ▸ h.kl) 74 Ty.scal (enters_of Tryz.func74 (by kernel_rfl) rfl) (fun k l V => tisScalar_any k l V)
 have HW := ld hw
 clear h pa0 a1 a2 hac pk z0 z1 hka hw hgk
 go_enter Tryz.func49, Tryz.ntmps49
 go_wp2_with (go_at_call 73; refine hsm.mono ?_; rintro e w1 ⟨v, rfl, hd, hg1⟩; obtain ⟨F1, q1, rfl⟩ := hd.form; refine Hid.out ?_)
 have hal := ga w1 (.cells #[.func (.func F1) #[] q1] 125 (0, 0)) none
 have hmu := tmust_any (w1.alloc (.cells #[.func (.func F1) #[] q1] 125)) b p 0 22 (hp.kept (hg1.trans hal)) (by decide) w1.heap.size 1 [.func (.func F1) #[] q1] [(z :: zs).all Ty.scal] rfl rfl (by decide) (heap_alloc_new _ _) (by have := hg1.size; omega) (fun _ => dems1 (hd.kept hal))
 have HG := ld (hg1.trans hal)
 clear hal hg1 hd hsm c10 hp hG
 refine ld ?_
 go_wp2_with (go_at_call 70; refine hmu.mono ?_; rintro e w2 ⟨rfl, hp2, hg2⟩; refine Hid.out ?_)
 have hgw := (grown_some HG.out b).trans hg2
 have d4 := hp2.c4
 have d5 := hp2.c5
 have HP2 := ld (And.intro hp2 hgw)
 clear hp2 hgw hg2 hmu
 refine ld ?_
 go_wp2_with (go_at_call 69; refine (tone_any _ _ _).mono ?_; rintro e w3 ⟨g, rfl, ht, hg⟩)
 go_ret
 exact rOne HP2.out.1 HP2.out.2 hg ht (fun _ => HW.out)
open Wl (sA sB sC)
theorem tr_rep (w0 w : World) (A : Aa) (N : List (List UInt8 × (Gram.Node × Nv))) (V : List (List UInt8 × Ty.T)) (cnt b : Nat) (p : Pv) (z : Ty.T) (zs : List Ty.T) (hw : (Lit.int .i64 p.n).wf = true) (h : Pc w0 w A N V cnt b p (z :: zs) 0) :
  Calls Tryz.prog 55 #[.pointer (some ⟨b, 0, none⟩)] w (rPost w b p [(z.1, p.n)] (Ty.mst (Ty.mst 0 22 [(z :: zs).all Ty.scal]) 23 [decide (1 ≤ p.n ∧ p.n ≤ 16)])) := by
 have hp := h.pt
 have hbl := gl hp
 have hG : w.grownBy w none := World.grownBy.refl _ _
 have pa0 : ∀ V c, Pt V b p c → V.cell? ⟨b, 0, none⟩ = some (.pointer (some ⟨A.c, 0, none⟩)) := fun V c hV => by have := hV.c0; rw [h.pa] at this; exact this
 have a1 := cell_of_row w _ 1 _ _ _ h.ak.cc
 have a2 := cell_of_row w _ 2 _ _ _ h.ak.cc
 have hac : A.c ≠ b := fun e => h.hb.2 (by simp [e])
 obtain ⟨gk, ok, hgk, hka, z0, z1⟩ := h.k0
 have pk : ∀ V c, Pt V b p c → V.cell? ⟨b, 10, none⟩ = some (.slice (some ⟨gk, ok, none⟩) (zs.length + 1) p.kc) := fun V c hV => by have := hV.c10; rw [hka, h.kn] at this; exact this
 have c10 := pk w 0 hp
 have hsm := tall_any w (some ⟨gk, ok, none⟩) (zs.length + 1) p.kc (z :: zs) rfl (by have := h.km; have := h.kn; simp at this; omega) (hka ▸ h.kl) 74 Ty.scal (enters_of Tryz.func74 (by kernel_rfl) rfl) (fun k l V => tisScalar_any k l V)
 have H := ld h
 have HW := ld hw
 have HPK := ld pk
 have HZ0 := ld (And.intro z0 z1)
 have HZ := ld hgk
 have HPT := ld hp
 clear h pa0 a1 a2 hac pk z0 z1 hka hgk hw hG hp
 go_enter Tryz.func55, Tryz.ntmps55
 go_wp2_with (go_at_call 73; refine hsm.mono ?_; rintro e w1a ⟨v, rfl, hd1, hg1a⟩; obtain ⟨F1, q1, rfl⟩ := hd1.form; refine Hid.out ?_)
 have hal1 := ga w1a (.cells #[.func (.func F1) #[] q1] 125 (0, 0)) none
 have hmu1 := tmust_any (w1a.alloc (.cells #[.func (.func F1) #[] q1] 125)) b p 0 22 ((HPT.out).kept (hg1a.trans hal1)) (by decide) w1a.heap.size 1 [.func (.func F1) #[] q1] [(z :: zs).all Ty.scal] rfl rfl (by decide) (heap_alloc_new _ _) (by have := hg1a.size; have := gl (HPT.out); omega) (fun _ => dems1 (hd1.kept hal1))
 have HG1 := ld (hg1a.trans hal1)
 clear hal1 hg1a hd1 hsm c10
 refine ld ?_
 go_wp2_with (go_at_call 70; refine hmu1.mono ?_; rintro e w1b ⟨rfl, hp1, hg1b⟩; refine Hid.out ?_)
 have hgw1 := (grown_some HG1.out b).trans hg1b
 clear hg1b hmu1
 have d6 := hp1.c6
 have hsm := twithin_any w1b 1 p.n 16
 have HPT1 := ld (And.intro hp1 hgw1)
 clear hp1 hgw1
 refine ld ?_
 go_wp2_with (go_at_call 80; refine hsm.mono ?_; rintro e w2a ⟨v, rfl, hd2, hg2a⟩; obtain ⟨F2, q2, rfl⟩ := hd2.form; refine Hid.out ?_)
 have hal2 := ga w2a (.cells #[.func (.func F2) #[] q2] 125 (0, 0)) none
 have hmu2 := tmust_any (w2a.alloc (.cells #[.func (.func F2) #[] q2] 125)) b p (Ty.mst 0 22 [(z :: zs).all Ty.scal]) 23 ((HPT1.out.1).kept (hg2a.trans hal2)) (by decide) w2a.heap.size 1 [.func (.func F2) #[] q2] [decide (1 ≤ p.n ∧ p.n ≤ 16)] rfl rfl (by decide) (heap_alloc_new _ _) (by have := hg2a.size; have := gl (HPT1.out.1); omega) (fun _ => dems1 (hd2.kept hal2))
 have HG2 := ld (hg2a.trans hal2)
 clear hal2 hg2a hd2 hsm d6
 refine ld ?_
 go_wp2_with (go_at_call 70; refine hmu2.mono ?_; rintro e w2b ⟨rfl, hp2, hg2b⟩; refine Hid.out ?_)
 have hgw2 := (grown_some HG2.out b).trans hg2b
 clear hg2b hmu2
 have hgw := HPT1.out.2.trans hgw2
 have y0 := hgw.cell HZ0.out.1 (by simp; exact HZ.out)
 have y1 := hgw.cell HZ0.out.2 (by simp; exact HZ.out)
 have HGW := ld hgw
 have pk := HPK.out
 clear hgw hgw2
 refine ld ?_
 go_wp2
 refine wp_region_L (S := Sbt w2b b p) (Z := []) (by kernel_rfl) ?_
 have hS : Sbt w2b b p w2b.drew := ⟨gdrew (World.grownBy.refl _ _), _, hp2.kept (gdrew (World.grownBy.refl _ _))⟩
 refine Wl.t1 0 20 (.pointer (some ⟨b, 0, none⟩)) hS ?_
 (try simp only [Act.put, sA, sB, sC])
 refine Wl.t1 1 21 (.pointer (some ⟨b, 0, none⟩)) hS ?_
 (try simp only [Act.put, sA, sB, sC])
 refine Wl.t1 2 22 (.pointer (some ⟨b, 10, none⟩)) hS ?_
 (try simp only [Act.put, sA, sB, sC])
 refine Wl.t2 3 23 (.slice (some ⟨gk, ok, none⟩) (zs.length + 1) p.kc) (fun w' hw' => ?_) hS ?_
 ·have hc0 := pk _ _ hw'.2.choose_spec; clear hw'; go_simp
 (try simp only [Act.put, sA, sB, sC])
 refine Wl.t2 4 24 (.pointer (some ⟨gk, ok, none⟩)) (fun w' hw' => ?_) hS ?_
 ·clear hw'; go_simp; (try (intro h9; exfalso; omega))
 (try simp only [Act.put, sA, sB, sC])
 refine Wl.t1 5 25 (.pointer (some ⟨gk, ok, none⟩)) hS ?_
 (try simp only [Act.put, sA, sB, sC])
 refine Wl.t2 6 26 (.int .i64 z.1) (fun w' hw' => ?_) hS ?_
 ·have hc0 := hw'.1.cell y0 (by simp; exact HZ.out); clear hw'; go_simp
 (try simp only [Act.put, sA, sB, sC])
 refine Wl.t1 7 27 (.pointer (some ⟨b, 0, none⟩)) hS ?_
 (try simp only [Act.put, sA, sB, sC])
 refine Wl.t1 8 28 (.pointer (some ⟨b, 0, none⟩)) hS ?_
 (try simp only [Act.put, sA, sB, sC])
 refine Wl.t1 9 29 (.pointer (some ⟨b, 1, none⟩)) hS ?_
 (try simp only [Act.put, sA, sB, sC])
 refine Wl.t1 10 30 (.pointer (some ⟨b, 6, none⟩)) hS ?_
 (try simp only [Act.put, sA, sB, sC])
 refine Wl.t2 11 31 (.int .i64 p.n) (fun w' hw' => ?_) hS ?_
 ·have hc0 := hw'.2.choose_spec.c6; clear hw'; go_simp
 (try simp only [Act.put, sA, sB, sC])
 refine Wl.t1 12 32 (.agg #[.int .i64 z.1, .int .i64 p.n]) hS ?_
 (try simp only [Act.put, sA, sB, sC])
 refine Wl.cg (R := fun v V => ∃ g, v = .slice (some ⟨g, 0, none⟩) 1 1 ∧ (TyL V (some ⟨g, 0, none⟩) [(z.1, p.n)] ∧ ∃ cs, V.heap[g]? = some (.cells cs 57 (0, 0)))) 13 33 69 #[.agg #[.int .i64 (z.1), .int .i64 (p.n)]] hS ((tone_any (z.1) (p.n) _).mono (by rintro e w' ⟨g, rfl, ht, hg⟩; exact ⟨_, rfl, ⟨g, rfl, ht⟩, hg⟩)) ?_ (hSk := Sbt.k _ _ _)
 rintro v w8 ⟨g, rfl, ht⟩ hg8 hS
 (try simp only [Act.put, sA, sB, sC])
 refine Wl.t1 14 2 (.slice (some ⟨g, 0, none⟩) 1 1) hS ?_
 (try simp only [Act.put, sA, sB, sC])
 refine wpL_done (by kernel_rfl) ?_ _
 go_wp2
 go_ret
 exact rOne hp2 HGW.out ((gdrew (World.grownBy.refl _ _)).trans hg8) ht (fun h0 => ⟨(H.out.kw z (by simp)).1, HW.out, by have := (mst_dec h0 (by decide)).2; simp at this; show 0 ≤ p.n; omega⟩)
theorem tr_index (w0 w : World) (A : Aa) (N : List (List UInt8 × (Gram.Node × Nv))) (V : List (List UInt8 × Ty.T)) (cnt b : Nat) (p : Pv) (z : Ty.T) (zs : List Ty.T) (h : Pc w0 w A N V cnt b p (z :: zs) 0) :
  Calls Tryz.prog 54 #[.pointer (some ⟨b, 0, none⟩)] w (rPost w b p [(z.1, 0)] (Ty.mst (Ty.mst 0 22 [(z :: zs).all fun t => !Ty.scal t]) 23 [decide (0 ≤ p.n ∧ p.n ≤ z.2 - 1)])) := by
 have hp := h.pt
 have hbl := gl hp
 have hG : w.grownBy w none := World.grownBy.refl _ _
 have pa0 : ∀ V c, Pt V b p c → V.cell? ⟨b, 0, none⟩ = some (.pointer (some ⟨A.c, 0, none⟩)) := fun V c hV => by have := hV.c0; rw [h.pa] at this; exact this
 have a1 := cell_of_row w _ 1 _ _ _ h.ak.cc
 have a2 := cell_of_row w _ 2 _ _ _ h.ak.cc
 have hac : A.c ≠ b := fun e => h.hb.2 (by simp [e])
 obtain ⟨gk, ok, hgk, hka, z0, z1⟩ := h.k0
 have pk : ∀ V c, Pt V b p c → V.cell? ⟨b, 10, none⟩ = some (.slice (some ⟨gk, ok, none⟩) (zs.length + 1) p.kc) := fun V c hV => by have := hV.c10; rw [hka, h.kn] at this; exact this
 have c10 := pk w 0 hp
 have hsm := tall_any w (some ⟨gk, ok, none⟩) (zs.length + 1) p.kc (z :: zs) rfl (by have := h.km; have := h.kn; simp at this; omega) (hka ▸ h.kl) 85 (fun t => !Ty.scal t) (enters_of Tryz.func85 (by kernel_rfl) rfl) (fun k l V => tisArray_any k l V)
 have H := ld h
 have HPK := ld pk
 have HZ0 := ld (And.intro z0 z1)
 have HZ := ld hgk
 have HPT := ld hp
 clear h pa0 a1 a2 hac pk z0 z1 hka hgk hG hp
 go_enter Tryz.func54, Tryz.ntmps54
 go_wp2_with (go_at_call 73; refine hsm.mono ?_; rintro e w1a ⟨v, rfl, hd1, hg1a⟩; obtain ⟨F1, q1, rfl⟩ := hd1.form; refine Hid.out ?_)
 have hal1 := ga w1a (.cells #[.func (.func F1) #[] q1] 125 (0, 0)) none
 have hmu1 := tmust_any (w1a.alloc (.cells #[.func (.func F1) #[] q1] 125)) b p 0 22 ((HPT.out).kept (hg1a.trans hal1)) (by decide) w1a.heap.size 1 [.func (.func F1) #[] q1] [(z :: zs).all fun t => !Ty.scal t] rfl rfl (by decide) (heap_alloc_new _ _) (by have := hg1a.size; have := gl (HPT.out); omega) (fun _ => dems1 (hd1.kept hal1))
 have HG1 := ld (hg1a.trans hal1)
 clear hal1 hg1a hd1 hsm c10
 refine ld ?_
 go_wp2_with (go_at_call 70; refine hmu1.mono ?_; rintro e w1b ⟨rfl, hp1, hg1b⟩; refine Hid.out ?_)
 have hgw1 := (grown_some HG1.out b).trans hg1b
 clear hg1b hmu1
 have y0 := hgw1.cell HZ0.out.1 (by simp; exact HZ.out)
 have y1 := hgw1.cell HZ0.out.2 (by simp; exact HZ.out)
 have pk := HPK.out
 have HGW1 := ld hgw1
 have HWR : Hid (IntKind.i64.wrap (z.2 - 1) = z.2 - 1) := ld (by
  obtain ⟨_, h2, h3⟩ := H.out.kw z (by simp)
  have := wf_bd h2
  exact wrapI (by omega) (by omega))
 clear hgw1
 refine ld ?_
 go_wp2
 refine wp_region_L (S := Sbt w1b b p) (Z := []) (by kernel_rfl) ?_
 have hS : Sbt w1b b p w1b.drew := ⟨gdrew (World.grownBy.refl _ _), _, hp1.kept (gdrew (World.grownBy.refl _ _))⟩
 refine Wl.t1 0 11 (.pointer (some ⟨b, 0, none⟩)) hS ?_
 (try simp only [Act.put, sA, sB, sC])
 refine Wl.t1 1 12 (.pointer (some ⟨b, 0, none⟩)) hS ?_
 (try simp only [Act.put, sA, sB, sC])
 refine Wl.t1 2 13 (.pointer (some ⟨b, 0, none⟩)) hS ?_
 (try simp only [Act.put, sA, sB, sC])
 refine Wl.t1 3 14 (.pointer (some ⟨b, 1, none⟩)) hS ?_
 (try simp only [Act.put, sA, sB, sC])
 refine Wl.t1 4 15 (.pointer (some ⟨b, 6, none⟩)) hS ?_
 (try simp only [Act.put, sA, sB, sC])
 refine Wl.t2 5 16 (.int .i64 p.n) (fun w' hw' => ?_) hS ?_
 ·have hc0 := hw'.2.choose_spec.c6; clear hw'; go_simp
 (try simp only [Act.put, sA, sB, sC])
 refine Wl.t1 6 17 (.pointer (some ⟨b, 0, none⟩)) hS ?_
 (try simp only [Act.put, sA, sB, sC])
 refine Wl.t1 7 18 (.pointer (some ⟨b, 0, none⟩)) hS ?_
 (try simp only [Act.put, sA, sB, sC])
 refine Wl.t1 8 19 (.pointer (some ⟨b, 10, none⟩)) hS ?_
 (try simp only [Act.put, sA, sB, sC])
 refine Wl.t2 9 20 (.slice (some ⟨gk, ok, none⟩) (zs.length + 1) p.kc) (fun w' hw' => ?_) hS ?_
 ·have hc0 := pk _ _ hw'.2.choose_spec; clear hw'; go_simp
 (try simp only [Act.put, sA, sB, sC])
 refine Wl.t2 10 21 (.pointer (some ⟨gk, ok, none⟩)) (fun w' hw' => ?_) hS ?_
 ·clear hw'; go_simp; (try (intro h9; exfalso; omega))
 (try simp only [Act.put, sA, sB, sC])
 refine Wl.t1 11 22 (.pointer (some ⟨gk, ok + 1, none⟩)) hS ?_
 (try simp only [Act.put, sA, sB, sC])
 refine Wl.t2 12 23 (.int .i64 z.2) (fun w' hw' => ?_) hS ?_
 ·have hc0 := hw'.1.cell y1 (by simp; exact HZ.out); clear hw'; go_simp
 (try simp only [Act.put, sA, sB, sC])
 refine Wl.t2 13 24 (.int .i64 (z.2 - 1)) (fun w' hw' => ?_) hS ?_
 ·have hwr := HWR.out; clear hw'; go_simp
 (try simp only [Act.put, sA, sB, sC])
 refine Wl.cg (R := fun v V => Dem V v (decide (0 ≤ p.n ∧ p.n ≤ z.2 - 1))) 14 25 80 #[.int .i64 0, .int .i64 p.n, .int .i64 (z.2 - 1)] hS ((twithin_any _ (0) (p.n) ((z.2 - 1))).mono (by rintro e w' ⟨v, rfl, hd, hg⟩; exact ⟨v, rfl, hd, hg⟩)) ?_ (hSk := Sbt.k _ _ _)
 intro v w5 hd5 hg5 hS
 obtain ⟨F5, q5, rfl⟩ := hd5.form
 (try simp only [Act.put, sA, sB, sC])
 refine Wl.vg 15 26 (.slice (some ⟨(w5).heap.size, 0, none⟩) 1 1) ((w5).alloc (.cells #[.func (.func F5) #[] q5] 125)) hS (ga _ _ none) ?_ (hSk := Sbt.k _ _ _)
 intro hS
 (try simp only [Act.put, sA, sB, sC])
 have hal := ga w5 (.cells #[.func (.func F5) #[] q5] 125 (0, 0)) none
 have hGa : w1b.grownBy (w5.alloc (.cells #[.func (.func F5) #[] q5] 125)) none := ((gdrew (World.grownBy.refl _ _)).trans hg5).trans hal
 have hmu := tmust_any (w5.alloc (.cells #[.func (.func F5) #[] q5] 125)) b p (Ty.mst 0 22 [(z :: zs).all fun t => !Ty.scal t]) 23 ((hp1).kept hGa) (by decide) w5.heap.size 1 [.func (.func F5) #[] q5] [decide (0 ≤ p.n ∧ p.n ≤ z.2 - 1)] rfl rfl (by decide) (heap_alloc_new _ _) (by have := gl (hp1); have := (((gdrew (World.grownBy.refl _ _)).trans hg5)).size; omega) (fun _ => dems1 ((hd5).kept hal))
 refine Wl.cs (R := fun u9 w' => u9 = .tuple #[] ∧ Pt w' b p (Ty.mst (Ty.mst 0 22 [(z :: zs).all fun t => !Ty.scal t]) 23 [decide (0 ≤ p.n ∧ p.n ≤ z.2 - 1)]) ∧ (w5.alloc (.cells #[.func (.func F5) #[] q5] 125)).grownBy w' (some b)) 16 27 70 #[.pointer (some ⟨b, 0, none⟩), .int .i64 23, .slice (some ⟨w5.heap.size, 0, none⟩) 1 1] (hmu.mono (by rintro e w' ⟨rfl, h1, h2⟩; exact ⟨_, rfl, rfl, h1, h2⟩)) (fun v w' h => ⟨(grown_some hGa b).trans h.2.2, _, h.2.1⟩) ?_
 rintro v w2b ⟨rfl, hp2, hg9⟩
 have hgw2 := (grown_some hGa b).trans hg9
 clear hmu hal hGa hg9
 (try simp only [Act.put, sA, sB, sC])
 refine wpL_done (by kernel_rfl) ?_ _
 have x10 := pk _ _ hp2
 have x0 := hgw2.cell y0 (by simp; exact HZ.out)
 have x1 := hgw2.cell y1 (by simp; exact HZ.out)
 have HP2 := ld (And.intro hp2 (HGW1.out.trans hgw2))
 clear hp2 hgw2 hd5 hg5 hS y0 y1 pk hp1
 go_wp2_with (go_at_call 79; refine (tscalar_any _ _).mono ?_; rintro e w6 ⟨rfl, hg6⟩; refine Hid.out ?_)
 refine ld ?_
 go_wp2_with (go_at_call 69; refine (tone_any _ _ _).mono ?_; rintro e w3 ⟨g, rfl, ht, hg⟩)
 go_ret
 exact rOne HP2.out.1 HP2.out.2 (hg6.trans hg) ht (fun _ => ⟨(H.out.kw z (by simp)).1, wf0, Int.le_refl 0⟩)
theorem wpL_l {P : Program} {md : Region.Mode} {ops : Array Oper} {Q : Exit → Act → World → Prop} {S : World → Prop} {Z : List Nat} {f : Nat} {l : Array Bool} {a : Act} {w : World} (l' : Array Bool) (h : wpL P md ops Q S Z f l' a w) (e : l = l' := by kernel_rfl) : wpL P md ops Q S Z f l a w := e ▸ h
theorem tr_array (w0 w : World) (A : Aa) (N : List (List UInt8 × (Gram.Node × Nv))) (V : List (List UInt8 × Ty.T)) (cnt b : Nat) (p : Pv) (z : Ty.T) (zs : List Ty.T) (h : Pc w0 w A N V cnt b p (z :: zs) 0) :
  Calls Tryz.prog 53 #[.pointer (some ⟨b, 0, none⟩)] w (rPost w b p [(z.1, ((zs.length + 1 : Nat) : Int))] (Ty.mst (Ty.mst 0 22 [(z :: zs).all Ty.scal, Ty.same (z :: zs)]) 23 [decide ((1 : Int) ≤ ((zs.length + 1 : Nat) : Int) ∧ ((zs.length + 1 : Nat) : Int) ≤ 16)])) := by
 have hp := h.pt
 have hbl := gl hp
 have hG : w.grownBy w none := World.grownBy.refl _ _
 have pa0 : ∀ V c, Pt V b p c → V.cell? ⟨b, 0, none⟩ = some (.pointer (some ⟨A.c, 0, none⟩)) := fun V c hV => by have := hV.c0; rw [h.pa] at this; exact this
 have a1 := cell_of_row w _ 1 _ _ _ h.ak.cc
 have a2 := cell_of_row w _ 2 _ _ _ h.ak.cc
 have hac : A.c ≠ b := fun e => h.hb.2 (by simp [e])
 obtain ⟨gk, ok, hgk, hka, z0, z1⟩ := h.k0
 have pk : ∀ V c, Pt V b p c → V.cell? ⟨b, 10, none⟩ = some (.slice (some ⟨gk, ok, none⟩) (zs.length + 1) p.kc) := fun V c hV => by have := hV.c10; rw [hka, h.kn] at this; exact this
 have H := ld h
 have HPK := ld pk
 have HZ0 := ld (And.intro z0 z1)
 have HZ := ld hgk
 have HPT := ld hp
 have HKM := ld (show zs.length + 1 ≤ 1000000 by have := h.km; have := h.kn; simp at this; omega)
 have HKL : Hid (TyL w (some ⟨gk, ok, none⟩) (z :: zs)) := ld (hka ▸ h.kl)
 clear h pa0 a1 a2 hac z0 z1 hka hgk hG hp
 go_enter Tryz.func53, Tryz.ntmps53
 go_wp2
 refine wp_region_L (S := Sbt w b p) (Z := []) (by kernel_rfl) ?_
 have hS : Sbt w b p w.drew := ⟨gdrew (World.grownBy.refl _ _), _, (HPT.out).kept (gdrew (World.grownBy.refl _ _))⟩
 refine Wl.t1 0 3 (.pointer (some ⟨b, 0, none⟩)) hS ?_
 (try simp only [Act.put, sA, sB, sC])
 refine Wl.t1 1 4 (.pointer (some ⟨b, 0, none⟩)) hS ?_
 (try simp only [Act.put, sA, sB, sC])
 refine Wl.t1 2 5 (.pointer (some ⟨b, 0, none⟩)) hS ?_
 (try simp only [Act.put, sA, sB, sC])
 refine Wl.t1 3 6 (.pointer (some ⟨b, 10, none⟩)) hS ?_
 (try simp only [Act.put, sA, sB, sC])
 refine Wl.t2 4 7 (.slice (some ⟨gk, ok, none⟩) (zs.length + 1) p.kc) (fun w' hw' => ?_) hS ?_
 ·have hc0 := pk _ _ hw'.2.choose_spec; clear hw'; go_simp
 (try simp only [Act.put, sA, sB, sC])
 refine Wl.t1 6 9 (.pointer (some ⟨b, 0, none⟩)) hS ?_
 (try simp only [Act.put, sA, sB, sC])
 refine Wl.t1 7 10 (.pointer (some ⟨b, 0, none⟩)) hS ?_
 (try simp only [Act.put, sA, sB, sC])
 refine Wl.t1 8 11 (.pointer (some ⟨b, 10, none⟩)) hS ?_
 (try simp only [Act.put, sA, sB, sC])
 refine Wl.t2 9 12 (.slice (some ⟨gk, ok, none⟩) (zs.length + 1) p.kc) (fun w' hw' => ?_) hS ?_
 ·have hc0 := pk _ _ hw'.2.choose_spec; clear hw'; go_simp
 (try simp only [Act.put, sA, sB, sC])
 refine Wl.cg (R := fun u9 V9 => Dem V9 u9 ((z :: zs).all Ty.scal)) 5 8 73 #[.func (.func 74) #[] #[], .slice (some ⟨gk, ok, none⟩) (zs.length + 1) p.kc] hS ((tall_any _ (some ⟨gk, ok, none⟩) (zs.length + 1) p.kc (z :: zs) rfl HKM.out (HKL.out.kept ((gdrew (World.grownBy.refl w none)).trans (World.grownBy.refl _ _))) 74 Ty.scal (enters_of Tryz.func74 (by kernel_rfl) rfl) (fun k l V => tisScalar_any k l V)).mono (by rintro e w' ⟨v, rfl, hd, hg⟩; exact ⟨v, rfl, hd, hg⟩)) ?_ (hSk := Sbt.k _ _ _)
 intro v8 w8 hd8 hg8 hS
 obtain ⟨F8, q8, rfl⟩ := hd8.form
 (try simp only [Act.put, sA, sB, sC])
 refine Wl.cg (R := fun u9 V9 => Dem V9 u9 (Ty.same (z :: zs))) 10 13 77 #[.slice (some ⟨gk, ok, none⟩) (zs.length + 1) p.kc] hS ((tsame_any _ (some ⟨gk, ok, none⟩) (zs.length + 1) p.kc (z :: zs) rfl HKM.out (HKL.out.kept ((gdrew (World.grownBy.refl w none)).trans hg8)) H.out.kw).mono (by rintro e w' ⟨v, rfl, hd, hg⟩; exact ⟨v, rfl, hd, hg⟩)) ?_ (hSk := Sbt.k _ _ _)
 intro v13 w13 hd13 hg13 hS
 obtain ⟨F13, q13, rfl⟩ := hd13.form
 (try simp only [Act.put, sA, sB, sC])
 refine Wl.vg 11 14 (.slice (some ⟨(w13).heap.size, 0, none⟩) 2 2) ((w13).alloc (.cells #[.func (.func F8) #[] q8, .func (.func F13) #[] q13] 125)) hS (ga _ _ none) ?_ (hSk := Sbt.k _ _ _)
 intro hS
 (try simp only [Act.put, sA, sB, sC])
 have hal := ga w13 (.cells #[.func (.func F8) #[] q8, .func (.func F13) #[] q13] 125 (0, 0)) none
 have hGa : w.grownBy (w13.alloc (.cells #[.func (.func F8) #[] q8, .func (.func F13) #[] q13] 125)) none := ((gdrew (World.grownBy.refl _ _)).trans (hg8.trans hg13)).trans hal
 have hmu := tmust_any (w13.alloc (.cells #[.func (.func F8) #[] q8, .func (.func F13) #[] q13] 125)) b p 0 22 ((HPT.out).kept hGa) (by decide) w13.heap.size 2 [.func (.func F8) #[] q8, .func (.func F13) #[] q13] [(z :: zs).all Ty.scal, Ty.same (z :: zs)] rfl rfl (by decide) (heap_alloc_new _ _) (by have := gl (HPT.out); have := (((gdrew (World.grownBy.refl _ _)).trans (hg8.trans hg13))).size; omega) (fun _ => dems2 ((hd8.kept hg13).kept hal) ((hd13).kept hal))
 refine Wl.cs (R := fun u9 w' => u9 = .tuple #[] ∧ Pt w' b p (Ty.mst 0 22 [(z :: zs).all Ty.scal, Ty.same (z :: zs)]) ∧ (w13.alloc (.cells #[.func (.func F8) #[] q8, .func (.func F13) #[] q13] 125)).grownBy w' (some b)) 12 15 70 #[.pointer (some ⟨b, 0, none⟩), .int .i64 22, .slice (some ⟨w13.heap.size, 0, none⟩) 2 2] (hmu.mono (by rintro e w' ⟨rfl, h1, h2⟩; exact ⟨_, rfl, rfl, h1, h2⟩)) (fun v w' h => ⟨(grown_some hGa b).trans h.2.2, _, h.2.1⟩) ?_
 rintro v w1b ⟨rfl, hp1, hg9⟩
 have hgw1 := (grown_some hGa b).trans hg9
 clear hmu hal hGa hg9
 (try simp only [Act.put, sA, sB, sC])
 refine wpL_done (by kernel_rfl) ?_ _
 have d10 := pk _ _ hp1
 have hsm := twithin_any w1b 1 ((zs.length + 1 : Nat) : Int) 16
 have HPT1 := ld (And.intro hp1 hgw1)
 clear hp1 hgw1 hS hd8 hd13 hg8 hg13
 go_wp2_with (go_at_call 80; refine hsm.mono ?_; rintro e w2a ⟨v, rfl, hd2, hg2a⟩; obtain ⟨F2, q2, rfl⟩ := hd2.form; refine Hid.out ?_)
 have hal2 := ga w2a (.cells #[.func (.func F2) #[] q2] 125 (0, 0)) none
 have hmu2 := tmust_any (w2a.alloc (.cells #[.func (.func F2) #[] q2] 125)) b p (Ty.mst 0 22 [(z :: zs).all Ty.scal, Ty.same (z :: zs)]) 23 ((HPT1.out.1).kept (hg2a.trans hal2)) (by decide) w2a.heap.size 1 [.func (.func F2) #[] q2] [decide ((1 : Int) ≤ ((zs.length + 1 : Nat) : Int) ∧ ((zs.length + 1 : Nat) : Int) ≤ 16)] rfl rfl (by decide) (heap_alloc_new _ _) (by have := hg2a.size; have := gl (HPT1.out.1); omega) (fun _ => dems1 (hd2.kept hal2))
 have HG2 := ld (hg2a.trans hal2)
 clear hal2 hg2a hd2 hsm d10
 refine ld ?_
 go_wp2_with (go_at_call 70; refine hmu2.mono ?_; rintro e w2b ⟨rfl, hp2, hg2b⟩; refine Hid.out ?_)
 have hgw2 := (grown_some HG2.out b).trans hg2b
 clear hg2b hmu2
 have hgw := HPT1.out.2.trans hgw2
 have y0 := hgw.cell HZ0.out.1 (by simp; exact HZ.out)
 have y1 := hgw.cell HZ0.out.2 (by simp; exact HZ.out)
 have HGW := ld hgw
 clear hgw hgw2
 refine ld ?_
 go_wp2
 refine wp_region_L (S := Sbt w2b b p) (Z := []) (by kernel_rfl) ?_
 have hS : Sbt w2b b p w2b.drew := ⟨gdrew (World.grownBy.refl _ _), _, (hp2).kept (gdrew (World.grownBy.refl _ _))⟩
 refine Wl.t1 0 25 (.pointer (some ⟨b, 0, none⟩)) hS ?_
 (try simp only [Act.put, sA, sB, sC])
 refine Wl.t1 1 26 (.pointer (some ⟨b, 0, none⟩)) hS ?_
 (try simp only [Act.put, sA, sB, sC])
 refine Wl.t1 2 27 (.pointer (some ⟨b, 10, none⟩)) hS ?_
 (try simp only [Act.put, sA, sB, sC])
 refine Wl.t2 3 28 (.slice (some ⟨gk, ok, none⟩) (zs.length + 1) p.kc) (fun w' hw' => ?_) hS ?_
 ·have hc0 := pk _ _ hw'.2.choose_spec; clear hw'; go_simp
 (try simp only [Act.put, sA, sB, sC])
 refine Wl.t2 4 29 (.pointer (some ⟨gk, ok, none⟩)) (fun w' hw' => ?_) hS ?_
 ·clear hw'; go_simp; (try (intro h9; exfalso; omega))
 (try simp only [Act.put, sA, sB, sC])
 refine Wl.t1 5 30 (.pointer (some ⟨gk, ok, none⟩)) hS ?_
 (try simp only [Act.put, sA, sB, sC])
 refine Wl.t2 6 31 (.int .i64 z.1) (fun w' hw' => ?_) hS ?_
 ·have hc0 := hw'.1.cell y0 (by simp; exact HZ.out); clear hw'; go_simp
 (try simp only [Act.put, sA, sB, sC])
 refine Wl.t1 7 32 (.pointer (some ⟨b, 0, none⟩)) hS ?_
 (try simp only [Act.put, sA, sB, sC])
 refine Wl.t1 8 33 (.pointer (some ⟨b, 0, none⟩)) hS ?_
 (try simp only [Act.put, sA, sB, sC])
 refine Wl.t1 9 34 (.pointer (some ⟨b, 10, none⟩)) hS ?_
 (try simp only [Act.put, sA, sB, sC])
 refine Wl.t2 10 35 (.slice (some ⟨gk, ok, none⟩) (zs.length + 1) p.kc) (fun w' hw' => ?_) hS ?_
 ·have hc0 := pk _ _ hw'.2.choose_spec; clear hw'; go_simp
 (try simp only [Act.put, sA, sB, sC])
 refine Wl.t2 11 36 (.int .i64 (((zs.length + 1 : Nat) : Int))) (fun w' hw' => ?_) hS ?_
 ·clear hw'; go_simp
 (try simp only [Act.put, sA, sB, sC])
 refine Wl.t1 12 37 (.agg #[.int .i64 z.1, .int .i64 (((zs.length + 1 : Nat) : Int))]) hS ?_
 (try simp only [Act.put, sA, sB, sC])
 refine Wl.cg (R := fun v V => ∃ g, v = .slice (some ⟨g, 0, none⟩) 1 1 ∧ (TyL V (some ⟨g, 0, none⟩) [(z.1, ((zs.length + 1 : Nat) : Int))] ∧ ∃ cs, V.heap[g]? = some (.cells cs 57 (0, 0)))) 13 38 69 #[.agg #[.int .i64 (z.1), .int .i64 (((zs.length + 1 : Nat) : Int))]] hS ((tone_any (z.1) (((zs.length + 1 : Nat) : Int)) _).mono (by rintro e w' ⟨g, rfl, ht, hg⟩; exact ⟨_, rfl, ⟨g, rfl, ht⟩, hg⟩)) ?_ (hSk := Sbt.k _ _ _)
 rintro v w8 ⟨g, rfl, ht⟩ hg8 hS
 (try simp only [Act.put, sA, sB, sC])
 refine Wl.t1 14 2 (.slice (some ⟨g, 0, none⟩) 1 1) hS ?_
 (try simp only [Act.put, sA, sB, sC])
 refine wpL_done (by kernel_rfl) ?_ _
 go_wp2
 go_ret
 exact rOne hp2 HGW.out ((gdrew (World.grownBy.refl _ _)).trans hg8) ht (fun _ => ⟨(H.out.kw z (by simp)).1, WalkArith.wf_i64 (by have := HKM.out; omega), by show (0 : Int) ≤ ((zs.length + 1 : Nat) : Int); omega⟩)
theorem tr_tick (w0 w : World) (A : Aa) (N : List (List UInt8 × (Gram.Node × Nv))) (V : List (List UInt8 × Ty.T)) (cnt b : Nat) (p : Pv) (kts : List Ty.T) (h : Pc w0 w A N V cnt b p kts 0) :
  Calls Tryz.prog 50 #[.pointer (some ⟨b, 0, none⟩)] w (rPost w b p [Ty.tB] (Ty.mst 0 23 [decide (1 ≤ p.n ∧ p.n ≤ 64), decide (p.m < p.n)])) := by
 have hp := h.pt
 have hbl := gl hp
 have hG : w.grownBy w none := World.grownBy.refl _ _
 have pa0 : ∀ V c, Pt V b p c → V.cell? ⟨b, 0, none⟩ = some (.pointer (some ⟨A.c, 0, none⟩)) := fun V c hV => by have := hV.c0; rw [h.pa] at this; exact this
 have a1 := cell_of_row w _ 1 _ _ _ h.ak.cc
 have a2 := cell_of_row w _ 2 _ _ _ h.ak.cc
 have hac : A.c ≠ b := fun e => h.hb.2 (by simp [e])
 have hga := ga w (.cells #[.pointer (some ⟨b, 0, none⟩)] 99 (0, 0)) none
 have pb0 := cell_of_row _ _ 0 _ _ _ (heap_alloc_new w (.cells #[.pointer (some ⟨b, 0, none⟩)] 99 (0, 0)))
 have HPA := ld (hp.kept hga)
 have HNB := ld (show w.heap.size ≠ b by omega)
 have HGA := ld hga
 clear h pa0 a1 a2 hac hG hp hga
 go_enter Tryz.func50, Tryz.ntmps50
 go_wp2
 refine wp_region_L (S := Sbt (w.alloc (.cells #[.pointer (some ⟨b, 0, none⟩)] 99)) b p) (Z := []) (by kernel_rfl) ?_
 have hS : Sbt (w.alloc (.cells #[.pointer (some ⟨b, 0, none⟩)] 99)) b p (w.alloc (.cells #[.pointer (some ⟨b, 0, none⟩)] 99)).drew := ⟨gdrew (World.grownBy.refl _ _), _, (HPA.out).kept (gdrew (World.grownBy.refl _ _))⟩
 refine Wl.t2 0 3 (.pointer (some ⟨b, 0, none⟩)) (fun w' hw' => ?_) hS ?_
 ·have hc0 := hw'.1.cell pb0 (by simp; exact HNB.out); clear hw'; go_simp
 (try simp only [Act.put, sA, sB, sC])
 refine Wl.t2 1 4 (.pointer (some ⟨b, 0, none⟩)) (fun w' hw' => ?_) hS ?_
 ·have hc0 := hw'.1.cell pb0 (by simp; exact HNB.out); clear hw'; go_simp
 (try simp only [Act.put, sA, sB, sC])
 refine Wl.t1 2 5 (.pointer (some ⟨b, 0, none⟩)) hS ?_
 (try simp only [Act.put, sA, sB, sC])
 refine Wl.t1 3 6 (.pointer (some ⟨b, 1, none⟩)) hS ?_
 (try simp only [Act.put, sA, sB, sC])
 refine Wl.t1 4 7 (.pointer (some ⟨b, 6, none⟩)) hS ?_
 (try simp only [Act.put, sA, sB, sC])
 refine Wl.t2 5 8 (.int .i64 p.n) (fun w' hw' => ?_) hS ?_
 ·have hc0 := hw'.2.choose_spec.c6; clear hw'; go_simp
 (try simp only [Act.put, sA, sB, sC])
 refine Wl.t1 7 10 (.func (.func 81) #[] #[.pointer (some ⟨w.heap.size, 0, none⟩)]) hS ?_
 (try simp only [Act.put, sA, sB, sC])
 refine Wl.cg (R := fun v V => Dem V v (decide (1 ≤ p.n ∧ p.n ≤ 64))) 6 9 80 #[.int .i64 1, .int .i64 p.n, .int .i64 64] hS ((twithin_any _ (1) (p.n) (64)).mono (by rintro e w' ⟨v, rfl, hd, hg⟩; exact ⟨v, rfl, hd, hg⟩)) ?_ (hSk := Sbt.k _ _ _)
 intro v w5 hd5 hg5 hS
 obtain ⟨F5, q5, rfl⟩ := hd5.form
 (try simp only [Act.put, sA, sB, sC])
 refine Wl.vg 8 11 (.slice (some ⟨(w5).heap.size, 0, none⟩) 2 2) ((w5).alloc (.cells #[.func (.func F5) #[] q5, .func (.func 81) #[] #[.pointer (some ⟨w.heap.size, 0, none⟩)]] 125)) hS (ga _ _ none) ?_ (hSk := Sbt.k _ _ _)
 intro hS
 (try simp only [Act.put, sA, sB, sC])
 have hal := ga w5 (.cells #[.func (.func F5) #[] q5, .func (.func 81) #[] #[.pointer (some ⟨w.heap.size, 0, none⟩)]] 125 (0, 0)) none
 have hGa : (w.alloc (.cells #[.pointer (some ⟨b, 0, none⟩)] 99)).grownBy (w5.alloc (.cells #[.func (.func F5) #[] q5, .func (.func 81) #[] #[.pointer (some ⟨w.heap.size, 0, none⟩)]] 125)) none := ((gdrew (World.grownBy.refl _ _)).trans hg5).trans hal
 have hmu := tmust_any (w5.alloc (.cells #[.func (.func F5) #[] q5, .func (.func 81) #[] #[.pointer (some ⟨w.heap.size, 0, none⟩)]] 125)) b p 0 23 ((HPA.out).kept hGa) (by decide) w5.heap.size 2 [.func (.func F5) #[] q5, .func (.func 81) #[] #[.pointer (some ⟨w.heap.size, 0, none⟩)]] [decide (1 ≤ p.n ∧ p.n ≤ 64), decide (p.m < p.n)] rfl rfl (by decide) (heap_alloc_new _ _) (by have := gl (HPA.out); have := (((gdrew (World.grownBy.refl _ _)).trans hg5)).size; omega) (fun _ => dems2 ((hd5).kept hal) (((ttick1 _ w.heap.size b p 0 HPA.out pb0).kept ((gdrew (World.grownBy.refl _ _)).trans hg5)).kept hal))
 refine Wl.cs (R := fun u9 w' => u9 = .tuple #[] ∧ Pt w' b p (Ty.mst 0 23 [decide (1 ≤ p.n ∧ p.n ≤ 64), decide (p.m < p.n)]) ∧ (w5.alloc (.cells #[.func (.func F5) #[] q5, .func (.func 81) #[] #[.pointer (some ⟨w.heap.size, 0, none⟩)]] 125)).grownBy w' (some b)) 9 12 70 #[.pointer (some ⟨b, 0, none⟩), .int .i64 23, .slice (some ⟨w5.heap.size, 0, none⟩) 2 2] (hmu.mono (by rintro e w' ⟨rfl, h1, h2⟩; exact ⟨_, rfl, rfl, h1, h2⟩)) (fun v w' h => ⟨(grown_some hGa b).trans h.2.2, _, h.2.1⟩) ?_
 rintro v w1b ⟨rfl, hp1, hg9⟩
 have hgw1 := (grown_some hGa b).trans hg9
 clear hmu hal hGa hg9
 (try simp only [Act.put, sA, sB, sC])
 refine wpL_done (by kernel_rfl) ?_ _
 have HP2 := ld (And.intro hp1 ((grown_some HGA.out b).trans hgw1))
 clear hp1 hgw1 hS hd5 hg5 pb0
 go_wp2_with (go_at_call 79; refine (tscalar_any _ _).mono ?_; rintro e w6 ⟨rfl, hg6⟩; refine Hid.out ?_)
 refine ld ?_
 go_wp2_with (go_at_call 69; refine (tone_any _ _ _).mono ?_; rintro e w3 ⟨g, rfl, ht, hg⟩)
 go_ret
 exact rOne HP2.out.1 HP2.out.2 (hg6.trans hg) ht (fun _ => ⟨by decide, by decide, by decide⟩)
theorem tr_sampled (w0 w : World) (A : Aa) (N : List (List UInt8 × (Gram.Node × Nv))) (V : List (List UInt8 × Ty.T)) (cnt b : Nat) (p : Pv) (z0 : Ty.T) (zs : List Ty.T) (h : Pc w0 w A N V cnt b p (z0 :: zs) 0) :
  Calls Tryz.prog 48 #[.pointer (some ⟨b, 0, none⟩)] w (rPost w b p [z0] (Ty.mst 0 22 [[(Ty.look V p.nm).getD (0, 0)].all fun t => t == Ty.tB, Ty.same (z0 :: zs)])) := by
 have hp := h.pt
 have hbl := gl hp
 have hG : w.grownBy w none := World.grownBy.refl _ _
 have pa0 : ∀ V c, Pt V b p c → V.cell? ⟨b, 0, none⟩ = some (.pointer (some ⟨A.c, 0, none⟩)) := fun V c hV => by have := hV.c0; rw [h.pa] at this; exact this
 have a1 := cell_of_row w _ 1 _ _ _ h.ak.cc
 have a2 := cell_of_row w _ 2 _ _ _ h.ak.cc
 have hac : A.c ≠ b := fun e => h.hb.2 (by simp [e])
 obtain ⟨gk, ok, hgk, hka, y0, y1⟩ := h.k0
 have pk : ∀ V c, Pt V b p c → V.cell? ⟨b, 10, none⟩ = some (.slice (some ⟨gk, ok, none⟩) (zs.length + 1) p.kc) := fun V c hV => by have := hV.c10; rw [hka, h.kn] at this; exact this
 obtain ⟨t, ht⟩ : ∃ t, t = (Ty.look V p.nm).getD (0, 0) := ⟨_, rfl⟩
 have HLK : Hid (∀ W, w.grownBy W (some b) → (Instr.lookup 67 (.map (some A.vb)) (.string ⟨p.nm.toArray⟩) false).run Tryz.prog W = .ok (.agg #[.int .i64 t.1, .int .i64 t.2]) W) := ld (fun W hW => by
  have := (h.ak.keptB hW (fun k e => by cases e; exact h.hb)).var p.nm h.sh
  rw [← ht] at this
  exact this)
 rw [← ht]
 have HPA0 := ld pa0
 have HA2 := ld a2
 have HA1 := ld a1
 have HAC := ld hac
 have H := ld h
 have HPK := ld pk
 have HZ0 := ld (And.intro y0 y1)
 have HZ := ld hgk
 have HPT := ld hp
 have HKM := ld (show zs.length + 1 ≤ 1000000 by have := h.km; have := h.kn; simp at this; omega)
 have HKL : Hid (TyL w (some ⟨gk, ok, none⟩) (z0 :: zs)) := ld (hka ▸ h.kl)
 clear h pa0 a1 a2 hac y0 y1 hka hgk hG hp ht
 go_enter Tryz.func48, Tryz.ntmps48
 go_wp2
 refine wp_region_L (S := Sbt w b p) (Z := []) (by kernel_rfl) ?_
 have hS : Sbt w b p w.drew := ⟨gdrew (World.grownBy.refl _ _), _, (HPT.out).kept (gdrew (World.grownBy.refl _ _))⟩
 refine Wl.t1 0 3 (.pointer (some ⟨b, 0, none⟩)) hS ?_
 (try simp only [Act.put, sA, sB, sC])
 refine Wl.t1 1 4 (.pointer (some ⟨b, 0, none⟩)) hS ?_
 (try simp only [Act.put, sA, sB, sC])
 refine Wl.t1 2 5 (.pointer (some ⟨b, 0, none⟩)) hS ?_
 (try simp only [Act.put, sA, sB, sC])
 refine Wl.t1 3 6 (.pointer (some ⟨b, 0, none⟩)) hS ?_
 (try simp only [Act.put, sA, sB, sC])
 refine Wl.t2 4 7 (.pointer (some ⟨A.c, 0, none⟩)) (fun w' hw' => ?_) hS ?_
 ·have hc0 := HPA0.out _ _ hw'.2.choose_spec; clear hw'; go_simp
 (try simp only [Act.put, sA, sB, sC])
 refine Wl.t1 5 8 (.pointer (some ⟨A.c, 0, none⟩)) hS ?_
 (try simp only [Act.put, sA, sB, sC])
 refine Wl.t1 6 9 (.pointer (some ⟨A.c, 2, none⟩)) hS ?_
 (try simp only [Act.put, sA, sB, sC])
 refine Wl.t2 7 10 (.map (some A.vb)) (fun w' hw' => ?_) hS ?_
 ·have hc0 := hw'.1.cell HA2.out (by simp; exact HAC.out); clear hw'; go_simp
 (try simp only [Act.put, sA, sB, sC])
 refine Wl.t1 8 11 (.pointer (some ⟨b, 0, none⟩)) hS ?_
 (try simp only [Act.put, sA, sB, sC])
 refine Wl.t1 9 12 (.pointer (some ⟨b, 0, none⟩)) hS ?_
 (try simp only [Act.put, sA, sB, sC])
 refine Wl.t1 10 13 (.pointer (some ⟨b, 1, none⟩)) hS ?_
 (try simp only [Act.put, sA, sB, sC])
 refine Wl.t1 11 14 (.pointer (some ⟨b, 3, none⟩)) hS ?_
 (try simp only [Act.put, sA, sB, sC])
 refine Wl.t2 12 15 (.string ⟨p.nm.toArray⟩) (fun w' hw' => ?_) hS ?_
 ·have hc0 := hw'.2.choose_spec.c3; clear hw'; go_simp
 (try simp only [Act.put, sA, sB, sC])
 refine Wl.t2 13 16 (.agg #[.int .i64 t.1, .int .i64 t.2]) (fun w' hw' => ?_) hS ?_
 ·have hl := HLK.out w' hw'.1; clear hw'; go_simp
 (try simp only [Act.put, sA, sB, sC])
 refine Wl.t1 16 19 (.pointer (some ⟨b, 0, none⟩)) hS ?_
 (try simp only [Act.put, sA, sB, sC])
 refine Wl.t1 17 20 (.pointer (some ⟨b, 0, none⟩)) hS ?_
 (try simp only [Act.put, sA, sB, sC])
 refine Wl.t1 18 21 (.pointer (some ⟨b, 10, none⟩)) hS ?_
 (try simp only [Act.put, sA, sB, sC])
 refine Wl.t2 19 22 (.slice (some ⟨gk, ok, none⟩) (zs.length + 1) p.kc) (fun w' hw' => ?_) hS ?_
 ·have hc0 := pk _ _ hw'.2.choose_spec; clear hw'; go_simp
 (try simp only [Act.put, sA, sB, sC])
 refine Wl.vg 14 17 (.slice (some ⟨w.drew.heap.size, 0, none⟩) 1 1) (w.drew.alloc (.cells #[.int .i64 t.1, .int .i64 t.2] 57)) hS (ga _ _ none) ?_ (hSk := Sbt.k _ _ _)
 intro hS
 (try simp only [Act.put, sA, sB, sC])
 refine Wl.cg (R := fun u9 V9 => Dem V9 u9 ([t].all fun t => t == Ty.tB)) 15 18 73 #[.func (.func 59) #[] #[], .slice (some ⟨w.drew.heap.size, 0, none⟩) 1 1] hS ((tall_any _ (some ⟨w.drew.heap.size, 0, none⟩) 1 1 [t] rfl (by decide) (TyL.one _ _ t.1 t.2 (heap_alloc_new w.drew _)) 59 (fun t => t == Ty.tB) (enters_of Tryz.func59 (by kernel_rfl) rfl) (fun k l V => tisBool_any k l V)).mono (by rintro e w' ⟨v, rfl, hd, hg⟩; exact ⟨v, rfl, hd, hg⟩)) ?_ (hSk := Sbt.k _ _ _)
 intro v18 w18 hd18 hg18 hS
 obtain ⟨F18, q18, rfl⟩ := hd18.form
 (try simp only [Act.put, sA, sB, sC])
 refine Wl.cg (R := fun u9 V9 => Dem V9 u9 (Ty.same (z0 :: zs))) 20 23 77 #[.slice (some ⟨gk, ok, none⟩) (zs.length + 1) p.kc] hS ((tsame_any _ (some ⟨gk, ok, none⟩) (zs.length + 1) p.kc (z0 :: zs) rfl HKM.out (HKL.out.kept ((gdrew (World.grownBy.refl w none)).trans ((ga w.drew (.cells #[.int .i64 t.1, .int .i64 t.2] 57 (0, 0)) none).trans hg18))) H.out.kw).mono (by rintro e w' ⟨v, rfl, hd, hg⟩; exact ⟨v, rfl, hd, hg⟩)) ?_ (hSk := Sbt.k _ _ _)
 intro v23 w23 hd23 hg23 hS
 obtain ⟨F23, q23, rfl⟩ := hd23.form
 (try simp only [Act.put, sA, sB, sC])
 refine Wl.vg 21 24 (.slice (some ⟨(w23).heap.size, 0, none⟩) 2 2) ((w23).alloc (.cells #[.func (.func F18) #[] q18, .func (.func F23) #[] q23] 125)) hS (ga _ _ none) ?_ (hSk := Sbt.k _ _ _)
 intro hS
 (try simp only [Act.put, sA, sB, sC])
 have hal := ga w23 (.cells #[.func (.func F18) #[] q18, .func (.func F23) #[] q23] 125 (0, 0)) none
 have hGa : w.grownBy (w23.alloc (.cells #[.func (.func F18) #[] q18, .func (.func F23) #[] q23] 125)) none := ((gdrew (World.grownBy.refl _ _)).trans (((ga w.drew (.cells #[.int .i64 t.1, .int .i64 t.2] 57 (0, 0)) none).trans hg18).trans hg23)).trans hal
 have hmu := tmust_any (w23.alloc (.cells #[.func (.func F18) #[] q18, .func (.func F23) #[] q23] 125)) b p 0 22 ((HPT.out).kept hGa) (by decide) w23.heap.size 2 [.func (.func F18) #[] q18, .func (.func F23) #[] q23] [[t].all fun t => t == Ty.tB, Ty.same (z0 :: zs)] rfl rfl (by decide) (heap_alloc_new _ _) (by have := gl (HPT.out); have := (((gdrew (World.grownBy.refl _ _)).trans (((ga w.drew (.cells #[.int .i64 t.1, .int .i64 t.2] 57 (0, 0)) none).trans hg18).trans hg23))).size; omega) (fun _ => dems2 ((hd18.kept hg23).kept hal) ((hd23).kept hal))
 refine Wl.cs (R := fun u9 w' => u9 = .tuple #[] ∧ Pt w' b p (Ty.mst 0 22 [[t].all fun t => t == Ty.tB, Ty.same (z0 :: zs)]) ∧ (w23.alloc (.cells #[.func (.func F18) #[] q18, .func (.func F23) #[] q23] 125)).grownBy w' (some b)) 22 25 70 #[.pointer (some ⟨b, 0, none⟩), .int .i64 22, .slice (some ⟨w23.heap.size, 0, none⟩) 2 2] (hmu.mono (by rintro e w' ⟨rfl, h1, h2⟩; exact ⟨_, rfl, rfl, h1, h2⟩)) (fun v w' h => ⟨(grown_some hGa b).trans h.2.2, _, h.2.1⟩) ?_
 rintro v w1b ⟨rfl, hp1, hg9⟩
 have hgw1 := (grown_some hGa b).trans hg9
 clear hmu hal hGa hg9
 (try simp only [Act.put, sA, sB, sC])
 refine wpL_done (by kernel_rfl) ?_ _
 have x10 := pk _ _ hp1
 have x0 := hgw1.cell HZ0.out.1 (by simp; exact HZ.out)
 have x1 := hgw1.cell HZ0.out.2 (by simp; exact HZ.out)
 have HP2 := ld (And.intro hp1 hgw1)
 clear hp1 hgw1 hS pk hd18 hd23 hg18 hg23
 go_wp2_with (go_at_call 69; refine (tone_any _ _ _).mono ?_; rintro e w3 ⟨g, rfl, ht, hg⟩)
 go_ret
 exact rOne HP2.out.1 HP2.out.2 hg ht (fun _ => H.out.kw z0 (by simp))
theorem slice1 (a : Act) (w : World) (oi : Oper) (s : Operand) (gk ok n : Nat) {c : Nat} (ho : oi.op = .slice 117 s (some (.const (.int .i64 1))) none none) (hs : a.eval s = .slice (some ⟨gk, ok, none⟩) (n + 1 + 1) c) (hc : n + 1 + 1 ≤ c) : (execOp a.eval oi).run Tryz.prog w = .ok (.value (.slice (some ⟨gk, ok + 2, none⟩) (n + 1) (c - 1))) w := by
 have hu := Tryz.underlying117
 obtain ⟨it, hit, hz, hsz, hby⟩ := infoP info_T
 unfold execOp
 rw [ho]
 simp only [hs]
 go_simp
 rw [if_pos (by omega), if_neg (by omega)]
theorem tr_choice (w0 w : World) (A : Aa) (N : List (List UInt8 × (Gram.Node × Nv))) (V : List (List UInt8 × Ty.T)) (cnt b : Nat) (p : Pv) (x y : Ty.T) (zs : List Ty.T) (h : Pc w0 w A N V cnt b p (x :: y :: zs) 0) :
  Calls Tryz.prog 46 #[.pointer (some ⟨b, 0, none⟩)] w (rPost w b p [y] (Ty.mst 0 22 [[x].all fun t => t == Ty.tB, Ty.same (y :: zs)])) := by
 have hp := h.pt
 have hbl := gl hp
 have hG : w.grownBy w none := World.grownBy.refl _ _
 have pa0 : ∀ V c, Pt V b p c → V.cell? ⟨b, 0, none⟩ = some (.pointer (some ⟨A.c, 0, none⟩)) := fun V c hV => by have := hV.c0; rw [h.pa] at this; exact this
 have a1 := cell_of_row w _ 1 _ _ _ h.ak.cc
 have a2 := cell_of_row w _ 2 _ _ _ h.ak.cc
 have hac : A.c ≠ b := fun e => h.hb.2 (by simp [e])
 obtain ⟨gk, ok, hgk, hka, z0, z1, z2, z3⟩ := h.k1
 have pk : ∀ V c, Pt V b p c → V.cell? ⟨b, 10, none⟩ = some (.slice (some ⟨gk, ok, none⟩) (zs.length + 1 + 1) p.kc) := fun V c hV => by have := hV.c10; rw [hka, h.kn] at this; exact this
 have H := ld h
 have HPK := ld pk
 have HZ0 := ld (And.intro z0 (And.intro z1 (And.intro z2 z3)))
 have HZ := ld hgk
 have HPT := ld hp
 have HKM := ld (show zs.length + 1 ≤ 1000000 by have := h.km; have := h.kn; simp at this; omega)
 have HCAP := ld (show zs.length + 1 + 1 ≤ p.kc by have := h.kcap; have := h.kn; simp at this; omega)
 have HKL2 : Hid (TyL w (some ⟨gk, ok + 2, none⟩) (y :: zs)) := ld (fun t q hq => by
  obtain ⟨g, off, e1, e2, e3⟩ := (hka ▸ h.kl : TyL w (some ⟨gk, ok, none⟩) (x :: y :: zs)) (t + 1) q (by simpa using hq)
  cases e1
  exact ⟨gk, ok + 2, rfl, by rw [show ok + 2 + t * 2 = ok + (t + 1) * 2 by omega]; exact e2, by rw [show ok + 2 + t * 2 = ok + (t + 1) * 2 by omega]; exact e3⟩)
 clear h pa0 a1 a2 hac z0 z1 z2 z3 hka hgk hG hp
 go_enter Tryz.func46, Tryz.ntmps46
 go_wp2
 refine wp_region_L (S := Sbt w b p) (Z := []) (by kernel_rfl) ?_
 have hS : Sbt w b p w.drew := ⟨gdrew (World.grownBy.refl _ _), _, (HPT.out).kept (gdrew (World.grownBy.refl _ _))⟩
 refine Wl.t1 0 3 (.pointer (some ⟨b, 0, none⟩)) hS ?_
 (try simp only [Act.put, sA, sB, sC])
 refine Wl.t1 1 4 (.pointer (some ⟨b, 0, none⟩)) hS ?_
 (try simp only [Act.put, sA, sB, sC])
 refine Wl.t1 2 5 (.pointer (some ⟨b, 0, none⟩)) hS ?_
 (try simp only [Act.put, sA, sB, sC])
 refine Wl.t1 3 6 (.pointer (some ⟨b, 10, none⟩)) hS ?_
 (try simp only [Act.put, sA, sB, sC])
 refine Wl.t2 4 7 (.slice (some ⟨gk, ok, none⟩) (zs.length + 1 + 1) p.kc) (fun w' hw' => ?_) hS ?_
 ·have hc0 := pk _ _ hw'.2.choose_spec; clear hw'; go_simp
 (try simp only [Act.put, sA, sB, sC])
 refine Wl.t2 5 8 (.pointer (some ⟨gk, ok, none⟩)) (fun w' hw' => ?_) hS ?_
 ·clear hw'; go_simp; (try (intro h9; exfalso; omega))
 (try simp only [Act.put, sA, sB, sC])
 refine Wl.t2 6 9 (.agg #[.int .i64 x.1, .int .i64 x.2]) (fun w' hw' => ?_) hS ?_
 ·have hc0 := hw'.1.cell HZ0.out.1 (by simp; exact HZ.out); have hc1 := hw'.1.cell HZ0.out.2.1 (by simp; exact HZ.out); clear hw'; go_simp
 (try simp only [Act.put, sA, sB, sC])
 refine Wl.t1 9 12 (.pointer (some ⟨b, 0, none⟩)) hS ?_
 (try simp only [Act.put, sA, sB, sC])
 refine Wl.t1 10 13 (.pointer (some ⟨b, 0, none⟩)) hS ?_
 (try simp only [Act.put, sA, sB, sC])
 refine Wl.t1 11 14 (.pointer (some ⟨b, 10, none⟩)) hS ?_
 (try simp only [Act.put, sA, sB, sC])
 refine Wl.t2 12 15 (.slice (some ⟨gk, ok, none⟩) (zs.length + 1 + 1) p.kc) (fun w' hw' => ?_) hS ?_
 ·have hc0 := pk _ _ hw'.2.choose_spec; clear hw'; go_simp
 (try simp only [Act.put, sA, sB, sC])
 refine Wl.t2 13 16 (.slice (some ⟨gk, ok + 2, none⟩) (zs.length + 1) (p.kc - 1)) (fun w' hw' => ?_) hS ?_
 ·clear hw'; exact slice1 _ _ _ _ _ _ _ rfl rfl HCAP.out
 (try simp only [Act.put, sA, sB, sC])
 refine Wl.vg 7 10 (.slice (some ⟨w.drew.heap.size, 0, none⟩) 1 1) (w.drew.alloc (.cells #[.int .i64 x.1, .int .i64 x.2] 57)) hS (ga _ _ none) ?_ (hSk := Sbt.k _ _ _)
 intro hS
 (try simp only [Act.put, sA, sB, sC])
 refine Wl.cg (R := fun u9 V9 => Dem V9 u9 ([x].all fun t => t == Ty.tB)) 8 11 73 #[.func (.func 59) #[] #[], .slice (some ⟨w.drew.heap.size, 0, none⟩) 1 1] hS ((tall_any _ (some ⟨w.drew.heap.size, 0, none⟩) 1 1 [x] rfl (by decide) (TyL.one _ _ x.1 x.2 (heap_alloc_new w.drew _)) 59 (fun t => t == Ty.tB) (enters_of Tryz.func59 (by kernel_rfl) rfl) (fun k l V => tisBool_any k l V)).mono (by rintro e w' ⟨v, rfl, hd, hg⟩; exact ⟨v, rfl, hd, hg⟩)) ?_ (hSk := Sbt.k _ _ _)
 intro v11 w11 hd11 hg11 hS
 obtain ⟨F11, q11, rfl⟩ := hd11.form
 (try simp only [Act.put, sA, sB, sC])
 refine Wl.cg (R := fun u9 V9 => Dem V9 u9 (Ty.same (y :: zs))) 14 17 77 #[.slice (some ⟨gk, ok + 2, none⟩) (zs.length + 1) (p.kc - 1)] hS ((tsame_any _ (some ⟨gk, ok + 2, none⟩) (zs.length + 1) (p.kc - 1) (y :: zs) rfl HKM.out (HKL2.out.kept ((gdrew (World.grownBy.refl w none)).trans ((ga w.drew (.cells #[.int .i64 x.1, .int .i64 x.2] 57 (0, 0)) none).trans hg11))) (fun q hq => H.out.kw q (by simp at hq ⊢; exact .inr hq))).mono (by rintro e w' ⟨v, rfl, hd, hg⟩; exact ⟨v, rfl, hd, hg⟩)) ?_ (hSk := Sbt.k _ _ _)
 intro v17 w17 hd17 hg17 hS
 obtain ⟨F17, q17, rfl⟩ := hd17.form
 (try simp only [Act.put, sA, sB, sC])
 refine Wl.vg 15 18 (.slice (some ⟨(w17).heap.size, 0, none⟩) 2 2) ((w17).alloc (.cells #[.func (.func F11) #[] q11, .func (.func F17) #[] q17] 125)) hS (ga _ _ none) ?_ (hSk := Sbt.k _ _ _)
 intro hS
 (try simp only [Act.put, sA, sB, sC])
 have hal := ga w17 (.cells #[.func (.func F11) #[] q11, .func (.func F17) #[] q17] 125 (0, 0)) none
 have hGa : w.grownBy (w17.alloc (.cells #[.func (.func F11) #[] q11, .func (.func F17) #[] q17] 125)) none := ((gdrew (World.grownBy.refl _ _)).trans (((ga w.drew (.cells #[.int .i64 x.1, .int .i64 x.2] 57 (0, 0)) none).trans hg11).trans hg17)).trans hal
 have hmu := tmust_any (w17.alloc (.cells #[.func (.func F11) #[] q11, .func (.func F17) #[] q17] 125)) b p 0 22 ((HPT.out).kept hGa) (by decide) w17.heap.size 2 [.func (.func F11) #[] q11, .func (.func F17) #[] q17] [[x].all fun t => t == Ty.tB, Ty.same (y :: zs)] rfl rfl (by decide) (heap_alloc_new _ _) (by have := gl (HPT.out); have := (((gdrew (World.grownBy.refl _ _)).trans (((ga w.drew (.cells #[.int .i64 x.1, .int .i64 x.2] 57 (0, 0)) none).trans hg11).trans hg17))).size; omega) (fun _ => dems2 ((hd11.kept hg17).kept hal) ((hd17).kept hal))
 refine Wl.cs (R := fun u9 w' => u9 = .tuple #[] ∧ Pt w' b p (Ty.mst 0 22 [[x].all fun t => t == Ty.tB, Ty.same (y :: zs)]) ∧ (w17.alloc (.cells #[.func (.func F11) #[] q11, .func (.func F17) #[] q17] 125)).grownBy w' (some b)) 16 19 70 #[.pointer (some ⟨b, 0, none⟩), .int .i64 22, .slice (some ⟨w17.heap.size, 0, none⟩) 2 2] (hmu.mono (by rintro e w' ⟨rfl, h1, h2⟩; exact ⟨_, rfl, rfl, h1, h2⟩)) (fun v w' h => ⟨(grown_some hGa b).trans h.2.2, _, h.2.1⟩) ?_
 rintro v w1b ⟨rfl, hp1, hg9⟩
 have hgw1 := (grown_some hGa b).trans hg9
 clear hmu hal hGa hg9
 (try simp only [Act.put, sA, sB, sC])
 refine wpL_done (by kernel_rfl) ?_ _
 have x10 := pk _ _ hp1
 have x0 := hgw1.cell HZ0.out.2.2.1 (by simp; exact HZ.out)
 have x1 := hgw1.cell HZ0.out.2.2.2 (by simp; exact HZ.out)
 have HP2 := ld (And.intro hp1 hgw1)
 clear hp1 hgw1 hS pk hd11 hd17 hg11 hg17
 go_wp2_with (go_at_call 69; refine (tone_any _ _ _).mono ?_; rintro e w3 ⟨g, rfl, ht, hg⟩)
 go_ret
 exact rOne HP2.out.1 HP2.out.2 hg ht (fun _ => H.out.kw y (by simp))
end Go.Proofs.YtbbamgjdnibldaaGreat
