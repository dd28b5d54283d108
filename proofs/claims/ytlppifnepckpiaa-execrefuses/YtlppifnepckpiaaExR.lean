/- Stage 21: ExecRefuses: the walk (written by mkexr.py). -/
import Derived.Test.YtlppifnepckpiaaExK
namespace Go.Proofs.Ytlppifnepckpiaa
open Go.RowKit Go.Maps Go.WideMaps

theorem i64_wf {n : Int} (h : (Lit.int .i64 n).wf = true) : Bv.I64 n := by
  simp only [Lit.wf, IntKind.min, IntKind.max, IntKind.signed, IntKind.bits, Bool.and_eq_true, decide_eq_true_eq, if_true] at h
  unfold Bv.I64
  omega
theorem isv2 {x : Int} : Bv.isv 2 x = decide (-128 ≤ x ∧ x ≤ 127) := by
  have e : Bv.isv 2 x = ((x + 128) % 256 - 128 == x) := by simp [Bv.isv, Bv.wid, Bv.wrp]
  rw [e]
  by_cases h : -128 ≤ x ∧ x ≤ 127
  · rw [decide_eq_true h, beq_iff_eq]; omega
  · rw [decide_eq_false h, beq_eq_false_iff_ne]; omega
theorem ref_nil (cells : List Int) : Ex.tickR Cd.small cells [] = ([], 0, 23, cells) := by
  unfold Ex.tickR
  rw [refuse_len (by decide), if_neg (by decide)]
theorem ref_two (cells : List Int) (x y : Int) : Ex.tickR Cd.small cells [x, y] = ([], 0, 23, cells) := by
  unfold Ex.tickR
  rw [refuse_len (by simp [Cd.small]), if_neg (by decide)]
theorem ref_bad {x : Int} (cells : List Int) (h : ¬ (-128 ≤ x ∧ x ≤ 127)) : Ex.tickR Cd.small cells [x] = ([], 0, 1, cells) := by
  unfold Ex.tickR
  rw [refuse_bad (c := Cd.small) (ins := [x]) (j := 0) (x := x) (k := 2) (by simp [Cd.small]) rfl rfl (by rw [isv2]; exact decide_eq_false h), if_neg (by decide)]
theorem ref_ok {x : Int} (h : -128 ≤ x ∧ x ≤ 127) : Ex.tickR Cd.small [] [x] = ([(x + 1 + 128) % 256 - 128], 5, 0, []) := by
  have hv : Bv.isv 2 x = true := by rw [isv2]; exact decide_eq_true h
  have h1 : Bv.isv 2 1 = true := by decide
  have hr : Ex.refuse Cd.small [x] = 0 := refuse_ok (by simp [Cd.small]) (fun j y k hj hk => by
    cases j with
    | zero => simp [Cd.small] at hj hk; subst hj hk; exact hv
    | succ j => simp at hj)
  have hb : Bv.binN 3 2 x 1 = (x + 1 + 128) % 256 - 128 := by
    have e : Bv.binB 3 2 x 1 = true := by simp [Bv.binB, Bv.allv, hv, h1]; decide
    unfold Bv.binN
    rw [if_pos e]
    have e2 : Bv.toK 3 2 = 2 := by decide
    have e3 : Bv.vop 3 2 x 1 = wrap64 (x + 1) := by simp [Bv.vop]
    rw [e2, e3]
    have e4 : wrap64 (x + 1) = x + 1 := by unfold wrap64; omega
    rw [e4]
    simp [Bv.wrp]
  have ht : Ex.tick Cd.small [] [x] = ([x, (x + 1 + 128) % 256 - 128], 5) := by
    unfold Ex.tick
    have e0 : Ex.start Cd.small [] [x] = [x, 0] := by simp [Ex.start, Cd.small]
    rw [e0]
    show Ex.fin Cd.small.body 5 0 [x, 0] [] 0 = _
    simp [Ex.fin, Ex.nxt, Ex.deed, Cd.small, Ex.top]
    exact hb
  unfold Ex.tickR
  rw [if_pos hr, ht]
  rfl
theorem nums_two (w : World) (x y : Int) (o : Obj) : NumsAt ((w.alloc o).alloc (.cells #[.int .i64 x, .int .i64 y] 3)) (some ⟨w.heap.size + 1, 0, none⟩) [x, y] := by
  have := nums_row (l := [x, y]) (heap_alloc_new (w.alloc o) (.cells #[.int .i64 x, .int .i64 y] 3))
  rwa [World.size_alloc] at this

set_option maxHeartbeats 4000000 in
set_option maxRecDepth 100000 in
theorem refuses_two (w : World) (x y : Int) (hx : Bv.I64 x) (hy : Bv.I64 y) :
    Calls Try.prog 3 #[.int .i64 x, .int .i64 y, .bool true] w fun e w' => e = .returned (.bool true) ∧ w.grownBy w' none := by
  have hal := fun V => alive21_any V
  have hsm := fun V => small_any V
  have hnum := fun k V => num21_any k V
  have HI := Lib.hid (And.intro hx hy)
  clear hx hy
  go_enter Try.func3, Try.ntmps3
  go_upto_region 10 with (first
    | (go_at_call 4; refine (hal _).mono ?_; rintro e w0 ⟨rfl, hg0⟩; have H0 := Lib.hid hg0; clear hg0)
    | (go_at_call 6; refine (hsm _).mono ?_; rintro e w1 ⟨g1, h1, rfl, hc1, _, _, hg1⟩; have H1 := Lib.hid (And.intro hc1 (H0.out.trans hg1)); clear hc1 hg1)
    | (go_at_call 5; refine (new_any _ Cd.small _ 2 _ 0 _ 5 H1.out.1 small_64 (by decide)).mono ?_; rintro e w2 ⟨hg2, _, hm2⟩; obtain ⟨m, rfl, iv, nv, kv, bv, hM0⟩ := hm2 Cd.small_ok; have hM : MachR w1.heap.size w2 m Cd.small [] iv nv kv bv := hM0; have H2 := Lib.hid (And.intro (H1.out.2.trans hg2) (And.intro hM H1.out.2.size)); clear hm2 hg2 hM hM0)
    | (go_at_call 7; refine (hnum _ _).mono ?_; rintro e w9 ⟨rfl, hw9⟩; obtain rfl := hw9.symm)
    | (go_at_call 8; have q := H3; refine (xtick_any H3.out.2.1 Cd.small_ok small_64 0 (ins := []) (NumsAt.nil _ _) (by decide) (by simp)).mono ?_; rintro e w4 ⟨hk4, ⟨nv4, hM4, _⟩, v4, rfl, ho4⟩; rw [ref_nil] at ho4 ⊢; obtain ⟨a4, c4, rfl⟩ := own_form ho4; have H4 := Lib.hid hk4; clear hk4 hM4 ho4)
    | (go_at_call 8; refine (xtick_any (H2.out.2.1.on ((World.grownBy_alloc w2 (.cells #[.int .i64 x] 3) none).trans (World.grownBy_alloc (w2.alloc (.cells #[.int .i64 x] 3)) (.cells #[.int .i64 x, .int .i64 y] 3) none))) Cd.small_ok small_64 2 (ins := [x, y]) (nums_two w2 x y _) (by simp [maxLen]) (by intro z hz; simp at hz; rcases hz with rfl | rfl; exact HI.out.1; exact HI.out.2)).mono ?_; rintro e w3 ⟨hk3, ⟨nv3, hM3, _⟩, v3, rfl, ho3⟩; rw [ref_two] at hM3 ho3 ⊢; obtain ⟨a3, c3, rfl⟩ := own_form ho3; have H3 := Lib.hid (And.intro hk3 (And.intro hM3 (And.intro ho3 (trivial)))); clear hk3 hM3 ho3))
  have HG : Hid (w.grownBy w4 none) := Lib.hid (by
    have k1 : Kp [m] w w3 := (Kp.of0 (H2.out.1.trans ((World.grownBy_alloc w2 (.cells #[.int .i64 x] 3) none).trans (World.grownBy_alloc (w2.alloc (.cells #[.int .i64 x] 3)) (.cells #[.int .i64 x, .int .i64 y] 3) none))) _).trans H3.out.1
    exact Kp.grown (World.grownBy.refl w none) (k1.trans H4.out) (fun k hk => by simp at hk; have := H2.out.2.1.mb; have := H2.out.2.2; omega))
  go_wp2_with (go_at_call 7; refine (hnum _ _).mono ?_; rintro e w9 ⟨rfl, hw9⟩; obtain rfl := hw9.symm)
  go_ret
  exact ⟨rfl, HG.out⟩

set_option maxHeartbeats 4000000 in
set_option maxRecDepth 100000 in
theorem refuses_bad (w : World) (x y : Int) (hx : Bv.I64 x) (hy : Bv.I64 y) (hb : ¬ (-128 ≤ x ∧ x ≤ 127)) :
    Calls Try.prog 3 #[.int .i64 x, .int .i64 y, .bool false] w fun e w' => e = .returned (.bool true) ∧ w.grownBy w' none := by
  have hal := fun V => alive21_any V
  have hsm := fun V => small_any V
  have hnum := fun k V => num21_any k V
  have HI := Lib.hid (And.intro hx hy)
  have HB := Lib.hid hb
  clear hx hy
  by_cases h1 : x < -128
  · have h2 : decide (x < -128) = true := decide_eq_true h1
    clear hb
    go_enter Try.func3, Try.ntmps3
    go_upto_region 10 with (first
      | (go_at_call 4; refine (hal _).mono ?_; rintro e w0 ⟨rfl, hg0⟩; have H0 := Lib.hid hg0; clear hg0)
      | (go_at_call 6; refine (hsm _).mono ?_; rintro e w1 ⟨g1, h1, rfl, hc1, _, _, hg1⟩; have H1 := Lib.hid (And.intro hc1 (H0.out.trans hg1)); clear hc1 hg1)
      | (go_at_call 5; refine (new_any _ Cd.small _ 2 _ 0 _ 5 H1.out.1 small_64 (by decide)).mono ?_; rintro e w2 ⟨hg2, _, hm2⟩; obtain ⟨m, rfl, iv, nv, kv, bv, hM0⟩ := hm2 Cd.small_ok; have hM : MachR w1.heap.size w2 m Cd.small [] iv nv kv bv := hM0; have H2 := Lib.hid (And.intro (H1.out.2.trans hg2) (And.intro hM H1.out.2.size)); clear hm2 hg2 hM hM0)
      | (go_at_call 7; refine (hnum _ _).mono ?_; rintro e w9 ⟨rfl, hw9⟩; obtain rfl := hw9.symm)
      | (go_at_call 8; have q := H3; refine (xtick_any H3.out.2.1 Cd.small_ok small_64 0 (ins := []) (NumsAt.nil _ _) (by decide) (by simp)).mono ?_; rintro e w4 ⟨hk4, ⟨nv4, hM4, _⟩, v4, rfl, ho4⟩; rw [ref_nil] at ho4 ⊢; obtain ⟨a4, c4, rfl⟩ := own_form ho4; have H4 := Lib.hid hk4; clear hk4 hM4 ho4)
      | (go_at_call 8; refine (xtick_any (H2.out.2.1.on (World.grownBy_alloc w2 (.cells #[.int .i64 x] 3) none)) Cd.small_ok small_64 1 (ins := [x]) (nums_one w2 x) (by simp [maxLen]) (by intro z hz; simp at hz; subst hz; exact HI.out.1)).mono ?_; rintro e w3 ⟨hk3, ⟨nv3, hM3, _⟩, v3, rfl, ho3⟩; rw [ref_bad _ HB.out] at hM3 ho3 ⊢; obtain ⟨a3, c3, rfl⟩ := own_form ho3; have H3 := Lib.hid (And.intro hk3 (And.intro hM3 (And.intro ho3 (trivial)))); clear hk3 hM3 ho3))
    have HG : Hid (w.grownBy w4 none) := Lib.hid (by
      have k1 : Kp [m] w w3 := (Kp.of0 (H2.out.1.trans (World.grownBy_alloc w2 (.cells #[.int .i64 x] 3) none)) _).trans H3.out.1
      exact Kp.grown (World.grownBy.refl w none) (k1.trans H4.out) (fun k hk => by simp at hk; have := H2.out.2.1.mb; have := H2.out.2.2; omega))
    go_wp2_with (go_at_call 7; refine (hnum _ _).mono ?_; rintro e w9 ⟨rfl, hw9⟩; obtain rfl := hw9.symm)
    go_ret
    exact ⟨rfl, HG.out⟩
  · have h2 : 127 < x := by omega
    clear hb
    go_enter Try.func3, Try.ntmps3
    go_upto_region 10 with (first
      | (go_at_call 4; refine (hal _).mono ?_; rintro e w0 ⟨rfl, hg0⟩; have H0 := Lib.hid hg0; clear hg0)
      | (go_at_call 6; refine (hsm _).mono ?_; rintro e w1 ⟨g1, h1, rfl, hc1, _, _, hg1⟩; have H1 := Lib.hid (And.intro hc1 (H0.out.trans hg1)); clear hc1 hg1)
      | (go_at_call 5; refine (new_any _ Cd.small _ 2 _ 0 _ 5 H1.out.1 small_64 (by decide)).mono ?_; rintro e w2 ⟨hg2, _, hm2⟩; obtain ⟨m, rfl, iv, nv, kv, bv, hM0⟩ := hm2 Cd.small_ok; have hM : MachR w1.heap.size w2 m Cd.small [] iv nv kv bv := hM0; have H2 := Lib.hid (And.intro (H1.out.2.trans hg2) (And.intro hM H1.out.2.size)); clear hm2 hg2 hM hM0)
      | (go_at_call 7; refine (hnum _ _).mono ?_; rintro e w9 ⟨rfl, hw9⟩; obtain rfl := hw9.symm)
      | (go_at_call 8; have q := H3; refine (xtick_any H3.out.2.1 Cd.small_ok small_64 0 (ins := []) (NumsAt.nil _ _) (by decide) (by simp)).mono ?_; rintro e w4 ⟨hk4, ⟨nv4, hM4, _⟩, v4, rfl, ho4⟩; rw [ref_nil] at ho4 ⊢; obtain ⟨a4, c4, rfl⟩ := own_form ho4; have H4 := Lib.hid hk4; clear hk4 hM4 ho4)
      | (go_at_call 8; refine (xtick_any (H2.out.2.1.on (World.grownBy_alloc w2 (.cells #[.int .i64 x] 3) none)) Cd.small_ok small_64 1 (ins := [x]) (nums_one w2 x) (by simp [maxLen]) (by intro z hz; simp at hz; subst hz; exact HI.out.1)).mono ?_; rintro e w3 ⟨hk3, ⟨nv3, hM3, _⟩, v3, rfl, ho3⟩; rw [ref_bad _ HB.out] at hM3 ho3 ⊢; obtain ⟨a3, c3, rfl⟩ := own_form ho3; have H3 := Lib.hid (And.intro hk3 (And.intro hM3 (And.intro ho3 (trivial)))); clear hk3 hM3 ho3))
    have HG : Hid (w.grownBy w4 none) := Lib.hid (by
      have k1 : Kp [m] w w3 := (Kp.of0 (H2.out.1.trans (World.grownBy_alloc w2 (.cells #[.int .i64 x] 3) none)) _).trans H3.out.1
      exact Kp.grown (World.grownBy.refl w none) (k1.trans H4.out) (fun k hk => by simp at hk; have := H2.out.2.1.mb; have := H2.out.2.2; omega))
    go_wp2_with (go_at_call 7; refine (hnum _ _).mono ?_; rintro e w9 ⟨rfl, hw9⟩; obtain rfl := hw9.symm)
    go_ret
    exact ⟨rfl, HG.out⟩

set_option maxHeartbeats 4000000 in
set_option maxRecDepth 100000 in
theorem refuses_ok (w : World) (x y : Int) (hx : Bv.I64 x) (hy : Bv.I64 y) (hb : -128 ≤ x ∧ x ≤ 127) :
    Calls Try.prog 3 #[.int .i64 x, .int .i64 y, .bool false] w fun e w' => e = .returned (.bool true) ∧ w.grownBy w' none := by
  have hal := fun V => alive21_any V
  have hsm := fun V => small_any V
  have hnum := fun k V => num21_any k V
  have HI := Lib.hid (And.intro hx hy)
  have HB := Lib.hid hb
  obtain ⟨hb1, hb2⟩ := hb
  clear hx hy
  go_enter Try.func3, Try.ntmps3
  go_upto_region 10 with (first
    | (go_at_call 4; refine (hal _).mono ?_; rintro e w0 ⟨rfl, hg0⟩; have H0 := Lib.hid hg0; clear hg0)
    | (go_at_call 6; refine (hsm _).mono ?_; rintro e w1 ⟨g1, h1, rfl, hc1, _, _, hg1⟩; have H1 := Lib.hid (And.intro hc1 (H0.out.trans hg1)); clear hc1 hg1)
    | (go_at_call 5; refine (new_any _ Cd.small _ 2 _ 0 _ 5 H1.out.1 small_64 (by decide)).mono ?_; rintro e w2 ⟨hg2, _, hm2⟩; obtain ⟨m, rfl, iv, nv, kv, bv, hM0⟩ := hm2 Cd.small_ok; have hM : MachR w1.heap.size w2 m Cd.small [] iv nv kv bv := hM0; have H2 := Lib.hid (And.intro (H1.out.2.trans hg2) (And.intro hM H1.out.2.size)); clear hm2 hg2 hM hM0)
    | (go_at_call 7; refine (hnum _ _).mono ?_; rintro e w9 ⟨rfl, hw9⟩; obtain rfl := hw9.symm)
    | (go_at_call 8; have q := H3; refine (xtick_any H3.out.2.1 Cd.small_ok small_64 0 (ins := []) (NumsAt.nil _ _) (by decide) (by simp)).mono ?_; rintro e w4 ⟨hk4, ⟨nv4, hM4, _⟩, v4, rfl, ho4⟩; rw [ref_nil] at ho4 ⊢; obtain ⟨a4, c4, rfl⟩ := own_form ho4; have H4 := Lib.hid hk4; clear hk4 hM4 ho4)
    | (go_at_call 8; refine (xtick_any (H2.out.2.1.on (World.grownBy_alloc w2 (.cells #[.int .i64 x] 3) none)) Cd.small_ok small_64 1 (ins := [x]) (nums_one w2 x) (by simp [maxLen]) (by intro z hz; simp at hz; subst hz; exact HI.out.1)).mono ?_; rintro e w3 ⟨hk3, ⟨nv3, hM3, _⟩, v3, rfl, ho3⟩; rw [ref_ok HB.out] at hM3 ho3 ⊢; obtain ⟨b3, c3, rfl, p3⟩ := own_one ho3; have H3 := Lib.hid (And.intro hk3 (And.intro hM3 (And.intro ho3 (p3)))); clear hk3 hM3 ho3))
  have HG : Hid (w.grownBy w4 none) := Lib.hid (by
    have k1 : Kp [m] w w3 := (Kp.of0 (H2.out.1.trans (World.grownBy_alloc w2 (.cells #[.int .i64 x] 3) none)) _).trans H3.out.1
    exact Kp.grown (World.grownBy.refl w none) (k1.trans H4.out) (fun k hk => by simp at hk; have := H2.out.2.1.mb; have := H2.out.2.2; omega))
  have p3 : w4.cell? ⟨b3, 0, none⟩ = some (.int .i64 ((x + 1 + 128) % 256 - 128)) := by
    have hml := gl H2.out.2.1.row
    have hb3 := (H3.out.2.2.1.lt b3 rfl).1
    rw [World.size_alloc] at hb3
    exact H4.out.cell H3.out.2.2.2 (by simp; omega)
  have hcv : wrap64 (IntKind.i8.wrap (x + 1)) = (x + 1 + 128) % 256 - 128 := Bv.wrap8 (x + 1)
  have hcv2 : IntKind.i8.wrap (x + 1) = (x + 1 + 128) % 256 - 128 := Bv.wrap_i8 (x + 1)
  go_wp2_with (go_at_call 7; refine (hnum _ _).mono ?_; rintro e w9 ⟨rfl, hw9⟩; obtain rfl := hw9.symm)
  go_ret
  exact ⟨rfl, HG.out⟩

theorem execRefuses_any (w : World) (x y : Int) (more : Bool) (hx : Bv.I64 x) (hy : Bv.I64 y) :
    Calls Try.prog 3 #[.int .i64 x, .int .i64 y, .bool more] w fun e w' => e = .returned (.bool true) ∧ w.grownBy w' none := by
  cases more with
  | true => exact refuses_two w x y hx hy
  | false =>
    by_cases h : -128 ≤ x ∧ x ≤ 127
    · exact refuses_ok w x y hx hy h
    · exact refuses_bad w x y hx hy h
theorem execRefuses_run (x y : Int) (more : Bool) (hx : (Lit.int .i64 x).wf = true) (hy : (Lit.int .i64 y).wf = true) (w : World) :
    Calls Try.prog 3 #[.int .i64 x, .int .i64 y, .bool more] w fun e w' => e = .returned (.bool true) ∧ w.grownBy w' none := execRefuses_any w x y more (i64_wf hx) (i64_wf hy)
end Go.Proofs.Ytlppifnepckpiaa
