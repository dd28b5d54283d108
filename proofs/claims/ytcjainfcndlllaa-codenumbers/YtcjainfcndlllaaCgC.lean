/- Package code: Write: what chapter 19 says of it is so. -/
import Derived.Test.YtcjainfcndlllaaCgB
namespace Go.Proofs.Ytcjainfcndlllaa
open Go.RowKit Go.Maps Go.WideMaps

theorem check_lens {c : Cd.Code} (h : Cd.check c = 0) : c.kinds.length ≤ 8000 ∧ c.init.length ≤ 8000 ∧ c.body.length ≤ 60000 := by
  unfold Cd.check at h
  by_cases h1 : 60000 < c.body.length ∨ 8000 < c.kinds.length ∨ 64 < c.stack
  · rw [if_pos h1] at h; cases h
  rw [if_neg h1] at h
  rw [bad_is] at h
  change (if (!fmB c) = true then (40 : Int) else _) = 0 at h
  cases hf : fmB c with
  | false => rw [hf] at h; cases h
  | true =>
    have h2 := (formed_of hf).1
    have h3 : iniB c = true := by
      unfold fmB at hf
      simp only [Bool.and_eq_true] at hf
      exact hf.2.2.1
    unfold iniB at h3
    simp only [Bool.and_eq_true, beq_iff_eq] at h3
    have h4 := h2.2.2.1.2
    have h5 := h3.1
    refine ⟨by omega, by omega, by omega⟩

set_option maxHeartbeats 4000000 in
theorem cwrite_any : CWrite := by
  intro w c ka kc ia ic ba bc hc h64 hkc
  have g1 := fun V (h : w.grownBy V none) => ccheck_any V c ka kc ia ic ba bc (hc.on h) h64 hkc
  have hg0 := World.grownBy_alloc w (.cells (codeV c ka kc ia ic ba bc) 25) none
  have hr0 := heap_alloc_new w (.cells (codeV c ka kc ia ic ba bc) 25)
  have H0 : Cb w w (codeV c ka kc ia ic ba bc) (w.alloc (.cells (codeV c ka kc ia ic ba bc) 25)) := ⟨hg0, hr0⟩
  replace H0 := Lib.hid H0
  clear hg0 hr0
  by_cases hz : Cd.check c = 0
  · obtain ⟨l1, l2, l3⟩ := check_lens hz
    have g2 := fun V (h : w.grownBy V none) => bytesOf_any V c ka kc ia ic ba bc (hc.on h) h64 l1 l2 l3
    rw [hz] at g1
    have HZ := Lib.hid hz
    obtain ⟨L, hL⟩ : ∃ L, L = Cd.write c := ⟨_, rfl⟩
    rw [← hL] at g2 ⊢
    clear hz hc h64 hkc l1 l2 l3 hL
    generalize Cd.check c = ck at *
    unfold codeV at g1 g2 H0 ⊢
    generalize c.kinds.length = K at *
    generalize c.body.length = B at *
    generalize c.init.length = I at *
    generalize c.stack = s at *
    generalize c.ins = ci at *
    generalize c.outs = co at *
    generalize c.cells = cc at *
    go_enter Try.func14, Try.ntmps14
    go_wp2_with (first | (go_at_call 10; refine (g1 _ H0.out.1).mono ?_; rintro e w1 ⟨rfl, hg1⟩; have H1 := Lib.hid (H0.out.on hg1); clear hg1; have u0 := cell_of_row w1 _ 0 _ _ _ H1.out.2; have u1 := cell_of_row w1 _ 1 _ _ _ H1.out.2; have u2 := cell_of_row w1 _ 2 _ _ _ H1.out.2; have u3 := cell_of_row w1 _ 3 _ _ _ H1.out.2; have u4 := cell_of_row w1 _ 4 _ _ _ H1.out.2; have u5 := cell_of_row w1 _ 5 _ _ _ H1.out.2; have u6 := cell_of_row w1 _ 6 _ _ _ H1.out.2) | (go_at_call 23; refine (g2 _ H1.out.1).mono ?_; rintro e w2 ⟨v, rfl, hg2, hown⟩; have H2 := Lib.hid (And.intro (H1.out.1.trans hg2) (And.intro hown H1.out.1.size)); clear hg2 hown))
    go_ret2
    exact ⟨H2.out.1, fun _ => ⟨v, rfl, owns_base H2.out.2.1 H2.out.2.2⟩, fun h => absurd HZ.out h⟩
  · obtain ⟨k, hk⟩ : ∃ k, k = Cd.check c := ⟨_, rfl⟩
    rw [← hk] at g1 hz ⊢
    have e1 : (k != 0) = true := by simpa using hz
    have HZ := Lib.hid hz
    clear hz hc h64 hkc hk
    generalize Cd.write c = L at *
    unfold codeV at g1 H0 ⊢
    generalize c.kinds.length = K at *
    generalize c.body.length = B at *
    generalize c.init.length = I at *
    generalize c.stack = s at *
    generalize c.ins = ci at *
    generalize c.outs = co at *
    generalize c.cells = cc at *
    go_enter Try.func14, Try.ntmps14
    go_wp2_with (go_at_call 10; refine (g1 _ H0.out.1).mono ?_; rintro e w1 ⟨rfl, hg1⟩; have H1 := Lib.hid (H0.out.on hg1); clear hg1)
    go_ret2
    exact ⟨H1.out.1, fun h => absurd h HZ.out, fun _ => rfl⟩
end Go.Proofs.Ytcjainfcndlllaa
