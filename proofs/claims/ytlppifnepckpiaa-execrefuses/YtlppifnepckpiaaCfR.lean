/- Package code: isFormed, Check: what chapter 19 says of Check is so. -/
import Derived.Test.YtlppifnepckpiaaCfQ
import Derived.Test.YtlppifnepckpiaaCfN
import Derived.Test.YtlppifnepckpiaaCeB
namespace Go.Proofs.Ytlppifnepckpiaa
open Go.RowKit Go.Maps Go.WideMaps
open Cd (Kn)

theorem bad_is (c : Cd.Code) : Cd.bad c = !(decide (Cnt c) && ((c.kinds.all fun k => decide (0 < Bv.wid k)) && (iniB c && opsB c.body))) := by
  have h1 : decide (Cnt c) = !(decide (c.ins < 0) || decide (c.outs < 0) || decide (c.cells < 0) || decide (c.stack < 0) || decide ((c.kinds.length : Int) < c.ins) || decide ((c.kinds.length : Int) < c.outs) || decide ((c.kinds.length : Int) < c.cells) || decide ((c.kinds.length : Int) < c.ins + c.outs + c.cells)) := by
    rw [Bool.eq_iff_iff]
    simp only [decide_eq_true_eq, Bool.not_eq_true', Bool.or_eq_false_iff, decide_eq_false_iff_not]
    unfold Cnt
    omega
  have h2 : iniB c = !(((c.init.length : Int) != c.cells) || !((c.init.zip (c.kinds.drop (c.ins + c.outs).toNat)).all fun p => Bv.isv p.2 p.1)) := by
    unfold iniB
    rw [Bool.not_or, Bool.not_not, bne, Bool.not_not]
  rw [h1, h2]
  unfold Cd.bad opsB
  generalize (c.kinds.all fun k => decide (0 < Bv.wid k)) = a
  generalize ((c.init.zip (c.kinds.drop (c.ins + c.outs).toNat)).all fun p => Bv.isv p.2 p.1) = b
  generalize (c.body.all fun x => decide (1 ≤ x.op) && decide (x.op ≤ 9)) = d
  generalize ((c.init.length : Int) != c.cells) = f
  generalize (decide (c.ins < 0) || decide (c.outs < 0) || decide (c.cells < 0) || decide (c.stack < 0) || decide ((c.kinds.length : Int) < c.ins) || decide ((c.kinds.length : Int) < c.outs) || decide ((c.kinds.length : Int) < c.cells) || decide ((c.kinds.length : Int) < c.ins + c.outs + c.cells)) = k
  cases c.body.getLast? with
  | none => cases a <;> cases b <;> cases d <;> cases f <;> cases k <;> rfl
  | some x =>
    simp only [bne]
    generalize (x.op == 9) = e
    cases a <;> cases b <;> cases d <;> cases e <;> cases f <;> cases k <;> rfl

/-- the box that code came in -/
def Cb (W : World) (w : World) (cs : Array Value) (V : World) : Prop := w.grownBy V none ∧ V.heap[W.heap.size]? = some (.cells cs 30 (0, 0))
theorem Cb.on {W w V V' : World} {cs : Array Value} (h : Cb W w cs V) (hg : V.grownBy V' none) : Cb W w cs V' := ⟨h.1.trans hg, (hg.block _ (gl h.2) (by simp)).trans h.2⟩

def fmB (c : Cd.Code) : Bool := decide (Cnt c) && ((c.kinds.all fun k => decide (0 < Bv.wid k)) && (iniB c && opsB c.body))

theorem hold_ldC {P : Program} {ops : Array Oper} {rest : List Oper} {d : Option Tmp} {p : Operand} {ty : TypeId} {s : String} {af : Array Edge} {g : Option (Nat × Bool)} {a : Act} {w : World} {Q : Exit → Act → World → Prop}
    (hK : Hid (wpList P ops Q ({ dst := d, op := Op.load 30 p, type := ty, pos := s, after := af, guard := g } :: rest) a w)) :
    wpList P ops Q ({ dst := d, op := Op.load 30 p, type := ty, pos := s, after := af, guard := g } :: rest) a w := hK

set_option maxHeartbeats 4000000 in
theorem isFormed_any (w : World) (c : Cd.Code) (ka : Option Addr) (kc : Nat) (ia : Option Addr) (ic : Nat) (ba : Option Addr) (bc : Nat) (hkc : c.kinds.length ≤ kc) (hc : CodeAt w c ka ia ba) (hK : c.kinds.length ≤ 8000) (hB : c.body.length ≤ 60000) :
    Calls Try.prog 16 #[.agg (codeV c ka kc ia ic ba bc)] w fun e w' => e = .returned (.bool (fmB c)) ∧ w.grownBy w' none := by
  have f1 := fun V => hasCounts_any V c ka kc ia ic ba bc hK
  have f2 := fun V (h : w.grownBy V none) => hasKinds_any V c ka kc ia ic ba bc (hc.kinds.on h) (by unfold maxLen; omega)
  have f3 := fun V (h : w.grownBy V none) (hcn : Cnt c) => hasInits_any V c ka kc ia ic ba bc hkc (hc.kinds.on h) (hc.init.on h) hK hcn
  have f4 := fun V (h : w.grownBy V none) => hasOps_any V c ka kc ia ic ba bc (hc.body.on h) hB
  have hg0 := World.grownBy_alloc w (.cells (codeV c ka kc ia ic ba bc) 30) none
  have hr0 := heap_alloc_new w (.cells (codeV c ka kc ia ic ba bc) 30)
  have H0 : Cb w w (codeV c ka kc ia ic ba bc) (w.alloc (.cells (codeV c ka kc ia ic ba bc) 30)) := ⟨hg0, hr0⟩
  replace H0 := Lib.hid H0
  clear hg0 hr0
  obtain ⟨D, hD⟩ : ∃ D : Bool, D = fmB c := ⟨_, rfl⟩
  rw [← hD]
  unfold fmB at hD
  clear hc
  unfold codeV at f1 f2 f3 f4 H0
  unfold codeV
  by_cases h1 : Cnt c
  · rw [decide_eq_true h1, Bool.true_and] at hD
    have f3 := fun V h => f3 V h h1
    simp only [decide_eq_true h1] at f1
    clear h1 hkc hK hB
    cases h2 : (c.kinds.all fun k => decide (0 < Bv.wid k)) with
    | true =>
      rw [h2, Bool.true_and] at hD
      simp only [h2] at f2
      clear h2
      cases h3 : iniB c with
      | true =>
        rw [h3, Bool.true_and] at hD
        simp only [h3] at f3
        clear h3
        have HD := Lib.hid hD
        clear hD
        generalize opsB c.body = ob at f4 HD
        generalize c.kinds.length = K at *
        generalize c.body.length = B at *
        generalize c.init.length = I at *
        generalize c.stack = s at *
        generalize c.ins = ci at *
        generalize c.outs = co at *
        generalize c.cells = cc at *
        go_enter Try.func16, Try.ntmps16
        go_wp2_with (first | (go_at_call 20; refine (f1 _).mono ?_; rintro e w1 ⟨rfl, hg1⟩; have H1 := Lib.hid (H0.out.on hg1); clear hg1; have u0 := cell_of_row w1 _ 0 _ _ _ H1.out.2; have u1 := cell_of_row w1 _ 1 _ _ _ H1.out.2; have u2 := cell_of_row w1 _ 2 _ _ _ H1.out.2; have u3 := cell_of_row w1 _ 3 _ _ _ H1.out.2; have u4 := cell_of_row w1 _ 4 _ _ _ H1.out.2; have u5 := cell_of_row w1 _ 5 _ _ _ H1.out.2; have u6 := cell_of_row w1 _ 6 _ _ _ H1.out.2) | (go_at_call 21; refine (f2 _ H1.out.1).mono ?_; rintro e w2 ⟨rfl, hg2⟩; have H2 := Lib.hid (H1.out.on hg2); clear hg2; have u0 := cell_of_row w2 _ 0 _ _ _ H2.out.2; have u1 := cell_of_row w2 _ 1 _ _ _ H2.out.2; have u2 := cell_of_row w2 _ 2 _ _ _ H2.out.2; have u3 := cell_of_row w2 _ 3 _ _ _ H2.out.2; have u4 := cell_of_row w2 _ 4 _ _ _ H2.out.2; have u5 := cell_of_row w2 _ 5 _ _ _ H2.out.2; have u6 := cell_of_row w2 _ 6 _ _ _ H2.out.2) | (go_at_call 22; refine (f3 _ H2.out.1).mono ?_; rintro e w3 ⟨rfl, hg3⟩; have H3 := Lib.hid (H2.out.on hg3); clear hg3; have u0 := cell_of_row w3 _ 0 _ _ _ H3.out.2; have u1 := cell_of_row w3 _ 1 _ _ _ H3.out.2; have u2 := cell_of_row w3 _ 2 _ _ _ H3.out.2; have u3 := cell_of_row w3 _ 3 _ _ _ H3.out.2; have u4 := cell_of_row w3 _ 4 _ _ _ H3.out.2; have u5 := cell_of_row w3 _ 5 _ _ _ H3.out.2; have u6 := cell_of_row w3 _ 6 _ _ _ H3.out.2) | (go_at_call 23; refine (f4 _ H3.out.1).mono ?_; rintro e w4 ⟨rfl, hg4⟩; have H4 := Lib.hid (H3.out.on hg4); clear hg4; have u0 := cell_of_row w4 _ 0 _ _ _ H4.out.2; have u1 := cell_of_row w4 _ 1 _ _ _ H4.out.2; have u2 := cell_of_row w4 _ 2 _ _ _ H4.out.2; have u3 := cell_of_row w4 _ 3 _ _ _ H4.out.2; have u4 := cell_of_row w4 _ 4 _ _ _ H4.out.2; have u5 := cell_of_row w4 _ 5 _ _ _ H4.out.2; have u6 := cell_of_row w4 _ 6 _ _ _ H4.out.2))
        go_ret
        exact ⟨(by rw [HD.out]; rfl), H4.out.1⟩
      | false =>
        rw [h3, Bool.false_and] at hD
        simp only [h3] at f3
        clear h3 f4
        have HD := Lib.hid hD
        clear hD
        generalize c.kinds.length = K at *
        generalize c.body.length = B at *
        generalize c.init.length = I at *
        generalize c.stack = s at *
        generalize c.ins = ci at *
        generalize c.outs = co at *
        generalize c.cells = cc at *
        go_enter Try.func16, Try.ntmps16
        go_wp2_with (first | (go_at_call 20; refine (f1 _).mono ?_; rintro e w1 ⟨rfl, hg1⟩; have H1 := Lib.hid (H0.out.on hg1); clear hg1; have u0 := cell_of_row w1 _ 0 _ _ _ H1.out.2; have u1 := cell_of_row w1 _ 1 _ _ _ H1.out.2; have u2 := cell_of_row w1 _ 2 _ _ _ H1.out.2; have u3 := cell_of_row w1 _ 3 _ _ _ H1.out.2; have u4 := cell_of_row w1 _ 4 _ _ _ H1.out.2; have u5 := cell_of_row w1 _ 5 _ _ _ H1.out.2; have u6 := cell_of_row w1 _ 6 _ _ _ H1.out.2) | (go_at_call 21; refine (f2 _ H1.out.1).mono ?_; rintro e w2 ⟨rfl, hg2⟩; have H2 := Lib.hid (H1.out.on hg2); clear hg2; have u0 := cell_of_row w2 _ 0 _ _ _ H2.out.2; have u1 := cell_of_row w2 _ 1 _ _ _ H2.out.2; have u2 := cell_of_row w2 _ 2 _ _ _ H2.out.2; have u3 := cell_of_row w2 _ 3 _ _ _ H2.out.2; have u4 := cell_of_row w2 _ 4 _ _ _ H2.out.2; have u5 := cell_of_row w2 _ 5 _ _ _ H2.out.2; have u6 := cell_of_row w2 _ 6 _ _ _ H2.out.2) | (go_at_call 22; refine (f3 _ H2.out.1).mono ?_; rintro e w3 ⟨rfl, hg3⟩; have H3 := Lib.hid (H2.out.on hg3); clear hg3; have u0 := cell_of_row w3 _ 0 _ _ _ H3.out.2; have u1 := cell_of_row w3 _ 1 _ _ _ H3.out.2; have u2 := cell_of_row w3 _ 2 _ _ _ H3.out.2; have u3 := cell_of_row w3 _ 3 _ _ _ H3.out.2; have u4 := cell_of_row w3 _ 4 _ _ _ H3.out.2; have u5 := cell_of_row w3 _ 5 _ _ _ H3.out.2; have u6 := cell_of_row w3 _ 6 _ _ _ H3.out.2))
        go_ret
        exact ⟨(by rw [HD.out]; rfl), H3.out.1⟩
    | false =>
      rw [h2, Bool.false_and] at hD
      simp only [h2] at f2
      clear h2 f3 f4
      have HD := Lib.hid hD
      clear hD
      generalize c.kinds.length = K at *
      generalize c.body.length = B at *
      generalize c.init.length = I at *
      generalize c.stack = s at *
      generalize c.ins = ci at *
      generalize c.outs = co at *
      generalize c.cells = cc at *
      go_enter Try.func16, Try.ntmps16
      go_wp2_with (first | (go_at_call 20; refine (f1 _).mono ?_; rintro e w1 ⟨rfl, hg1⟩; have H1 := Lib.hid (H0.out.on hg1); clear hg1; have u0 := cell_of_row w1 _ 0 _ _ _ H1.out.2; have u1 := cell_of_row w1 _ 1 _ _ _ H1.out.2; have u2 := cell_of_row w1 _ 2 _ _ _ H1.out.2; have u3 := cell_of_row w1 _ 3 _ _ _ H1.out.2; have u4 := cell_of_row w1 _ 4 _ _ _ H1.out.2; have u5 := cell_of_row w1 _ 5 _ _ _ H1.out.2; have u6 := cell_of_row w1 _ 6 _ _ _ H1.out.2) | (go_at_call 21; refine (f2 _ H1.out.1).mono ?_; rintro e w2 ⟨rfl, hg2⟩; have H2 := Lib.hid (H1.out.on hg2); clear hg2; have u0 := cell_of_row w2 _ 0 _ _ _ H2.out.2; have u1 := cell_of_row w2 _ 1 _ _ _ H2.out.2; have u2 := cell_of_row w2 _ 2 _ _ _ H2.out.2; have u3 := cell_of_row w2 _ 3 _ _ _ H2.out.2; have u4 := cell_of_row w2 _ 4 _ _ _ H2.out.2; have u5 := cell_of_row w2 _ 5 _ _ _ H2.out.2; have u6 := cell_of_row w2 _ 6 _ _ _ H2.out.2))
      go_ret
      exact ⟨(by rw [HD.out]; rfl), H2.out.1⟩
  · rw [decide_eq_false h1, Bool.false_and] at hD
    simp only [decide_eq_false h1] at f1
    clear h1 f2 f3 f4 hkc hK hB
    have HD := Lib.hid hD
    clear hD
    generalize c.kinds.length = K at *
    generalize c.body.length = B at *
    generalize c.init.length = I at *
    generalize c.stack = s at *
    generalize c.ins = ci at *
    generalize c.outs = co at *
    generalize c.cells = cc at *
    go_enter Try.func16, Try.ntmps16
    go_wp2_with (go_at_call 20; refine (f1 _).mono ?_; rintro e w1 ⟨rfl, hg1⟩; have H1 := Lib.hid (H0.out.on hg1); clear hg1; have u0 := cell_of_row w1 _ 0 _ _ _ H1.out.2; have u1 := cell_of_row w1 _ 1 _ _ _ H1.out.2; have u2 := cell_of_row w1 _ 2 _ _ _ H1.out.2; have u3 := cell_of_row w1 _ 3 _ _ _ H1.out.2; have u4 := cell_of_row w1 _ 4 _ _ _ H1.out.2; have u5 := cell_of_row w1 _ 5 _ _ _ H1.out.2; have u6 := cell_of_row w1 _ 6 _ _ _ H1.out.2)
    go_ret
    exact ⟨(by rw [HD.out]; rfl), H1.out.1⟩

/-- what is formed has kinds, counts and instructions that can be -/
theorem formed_of {c : Cd.Code} (h : fmB c = true) : Cnt c ∧ (∀ k ∈ c.kinds, 1 ≤ k ∧ k ≤ 9) ∧ 0 < c.body.length ∧ ∀ x ∈ c.body, 1 ≤ x.op ∧ x.op ≤ 9 := by
  unfold fmB at h
  simp only [Bool.and_eq_true, decide_eq_true_eq] at h
  obtain ⟨h1, h2, h3, h4⟩ := h
  unfold opsB at h4
  simp only [Bool.and_eq_true] at h4
  refine ⟨h1, fun k hk => ?_, ?_, fun x hx => ?_⟩
  · have := List.all_eq_true.1 h2 k hk
    exact Cd.wid_k (by simpa using this)
  · cases hb : c.body with
    | nil => rw [hb] at h4; simp at h4
    | cons a b => simp
  · have := List.all_eq_true.1 h4.1 x hx
    simpa using this

set_option maxHeartbeats 4000000 in
theorem ccheck_any : CCheck := by
  intro w c ka kc ia ic ba bc hc h64 hkc
  have g1 := fun V => isShort_any V c ka kc ia ic ba bc
  have hg0 := World.grownBy_alloc w (.cells (codeV c ka kc ia ic ba bc) 30) none
  have hr0 := heap_alloc_new w (.cells (codeV c ka kc ia ic ba bc) 30)
  have H0 : Cb w w (codeV c ka kc ia ic ba bc) (w.alloc (.cells (codeV c ka kc ia ic ba bc) 30)) := ⟨hg0, hr0⟩
  replace H0 := Lib.hid H0
  clear hg0 hr0 h64
  obtain ⟨D, hD⟩ : ∃ D : Int, D = Cd.check c := ⟨_, rfl⟩
  rw [← hD]
  unfold Cd.check at hD
  by_cases hs : 60000 < c.body.length ∨ 8000 < c.kinds.length ∨ 64 < c.stack
  · rw [if_pos hs] at hD
    simp only [decide_eq_true hs, Bool.not_true] at g1
    clear hs hc hkc
    have HD := Lib.hid hD
    clear hD
    unfold codeV at g1 H0 ⊢
    generalize c.kinds.length = K at *
    generalize c.body.length = B at *
    generalize c.init.length = I at *
    generalize c.stack = s at *
    generalize c.ins = ci at *
    generalize c.outs = co at *
    generalize c.cells = cc at *
    go_enter Try.func9, Try.ntmps9
    go_wp2_with (go_at_call 15; refine (g1 _).mono ?_; rintro e w1 ⟨rfl, hg1⟩; have H1 := Lib.hid (H0.out.on hg1); clear hg1; have u0 := cell_of_row w1 _ 0 _ _ _ H1.out.2; have u1 := cell_of_row w1 _ 1 _ _ _ H1.out.2; have u2 := cell_of_row w1 _ 2 _ _ _ H1.out.2; have u3 := cell_of_row w1 _ 3 _ _ _ H1.out.2; have u4 := cell_of_row w1 _ 4 _ _ _ H1.out.2; have u5 := cell_of_row w1 _ 5 _ _ _ H1.out.2; have u6 := cell_of_row w1 _ 6 _ _ _ H1.out.2)
    all_goals go_ret
    all_goals exact ⟨(by rw [HD.out]; rfl), H1.out.1⟩
  · rw [if_neg hs] at hD
    simp only [decide_eq_false hs, Bool.not_false] at g1
    have g2 := fun V (h : w.grownBy V none) => isFormed_any V c ka kc ia ic ba bc hkc (hc.on h) (by omega) (by omega)
    have hb : Cd.bad c = !fmB c := bad_is c
    rw [hb] at hD
    cases hf : fmB c with
    | false =>
      rw [hf, Bool.not_false, if_pos rfl] at hD
      simp only [hf] at g2
      clear hs hc hkc hb hf
      have HD := Lib.hid hD
      clear hD
      unfold codeV at g1 g2 H0 ⊢
      generalize c.kinds.length = K at *
      generalize c.body.length = B at *
      generalize c.init.length = I at *
      generalize c.stack = s at *
      generalize c.ins = ci at *
      generalize c.outs = co at *
      generalize c.cells = cc at *
      go_enter Try.func9, Try.ntmps9
      go_wp2_with (first | (go_at_call 15; refine (g1 _).mono ?_; rintro e w1 ⟨rfl, hg1⟩; have H1 := Lib.hid (H0.out.on hg1); clear hg1; have u0 := cell_of_row w1 _ 0 _ _ _ H1.out.2; have u1 := cell_of_row w1 _ 1 _ _ _ H1.out.2; have u2 := cell_of_row w1 _ 2 _ _ _ H1.out.2; have u3 := cell_of_row w1 _ 3 _ _ _ H1.out.2; have u4 := cell_of_row w1 _ 4 _ _ _ H1.out.2; have u5 := cell_of_row w1 _ 5 _ _ _ H1.out.2; have u6 := cell_of_row w1 _ 6 _ _ _ H1.out.2) | (go_at_call 16; refine (g2 _ H1.out.1).mono ?_; rintro e w2 ⟨rfl, hg2⟩; have H2 := Lib.hid (H1.out.on hg2); clear hg2; have u0 := cell_of_row w2 _ 0 _ _ _ H2.out.2; have u1 := cell_of_row w2 _ 1 _ _ _ H2.out.2; have u2 := cell_of_row w2 _ 2 _ _ _ H2.out.2; have u3 := cell_of_row w2 _ 3 _ _ _ H2.out.2; have u4 := cell_of_row w2 _ 4 _ _ _ H2.out.2; have u5 := cell_of_row w2 _ 5 _ _ _ H2.out.2; have u6 := cell_of_row w2 _ 6 _ _ _ H2.out.2))
      all_goals go_ret
      all_goals exact ⟨(by rw [HD.out]; rfl), H2.out.1⟩
    | true =>
      rw [hf, Bool.not_true, if_neg (by decide)] at hD
      simp only [hf] at g2
      obtain ⟨x1, x2, x3, x4⟩ := formed_of hf
      have g3 := fun V (h : w.grownBy V none) => canRun_any V c ka kc ia ic ba bc (hc.on h) (by omega) x3 x1.2.2.2.1 (by omega) x1.1.1 x2 x4
      have e : Cd.go c c.body (some [] :: List.replicate (c.body.length - 1) none) = Cd.go c c.body (some [] :: Cd.nots (c.body.length - 1)) := rfl
      rw [e] at hD
      clear hs hc hkc hb hf x1 x2 x3 x4 e
      cases hg : Cd.go c c.body (some [] :: Cd.nots (c.body.length - 1)) with
      | true =>
        rw [hg, if_pos rfl] at hD
        simp only [hg] at g3
        clear hg
        have HD := Lib.hid hD
        clear hD
        unfold codeV at g1 g2 g3 H0 ⊢
        generalize c.kinds.length = K at *
        generalize c.body.length = B at *
        generalize c.init.length = I at *
        generalize c.stack = s at *
        generalize c.ins = ci at *
        generalize c.outs = co at *
        generalize c.cells = cc at *
        go_enter Try.func9, Try.ntmps9
        go_wp2_with (first | (go_at_call 15; refine (g1 _).mono ?_; rintro e w1 ⟨rfl, hg1⟩; have H1 := Lib.hid (H0.out.on hg1); clear hg1; have u0 := cell_of_row w1 _ 0 _ _ _ H1.out.2; have u1 := cell_of_row w1 _ 1 _ _ _ H1.out.2; have u2 := cell_of_row w1 _ 2 _ _ _ H1.out.2; have u3 := cell_of_row w1 _ 3 _ _ _ H1.out.2; have u4 := cell_of_row w1 _ 4 _ _ _ H1.out.2; have u5 := cell_of_row w1 _ 5 _ _ _ H1.out.2; have u6 := cell_of_row w1 _ 6 _ _ _ H1.out.2) | (go_at_call 16; refine (g2 _ H1.out.1).mono ?_; rintro e w2 ⟨rfl, hg2⟩; have H2 := Lib.hid (H1.out.on hg2); clear hg2; have u0 := cell_of_row w2 _ 0 _ _ _ H2.out.2; have u1 := cell_of_row w2 _ 1 _ _ _ H2.out.2; have u2 := cell_of_row w2 _ 2 _ _ _ H2.out.2; have u3 := cell_of_row w2 _ 3 _ _ _ H2.out.2; have u4 := cell_of_row w2 _ 4 _ _ _ H2.out.2; have u5 := cell_of_row w2 _ 5 _ _ _ H2.out.2; have u6 := cell_of_row w2 _ 6 _ _ _ H2.out.2) | (go_at_call 17; refine (g3 _ H2.out.1).mono ?_; rintro e w3 ⟨rfl, hg3⟩; have H3 := Lib.hid (H2.out.on hg3); clear hg3; have u0 := cell_of_row w3 _ 0 _ _ _ H3.out.2; have u1 := cell_of_row w3 _ 1 _ _ _ H3.out.2; have u2 := cell_of_row w3 _ 2 _ _ _ H3.out.2; have u3 := cell_of_row w3 _ 3 _ _ _ H3.out.2; have u4 := cell_of_row w3 _ 4 _ _ _ H3.out.2; have u5 := cell_of_row w3 _ 5 _ _ _ H3.out.2; have u6 := cell_of_row w3 _ 6 _ _ _ H3.out.2))
        all_goals go_ret
        all_goals exact ⟨(by rw [HD.out]; rfl), H3.out.1⟩
      | false =>
        rw [hg, if_neg (by decide)] at hD
        simp only [hg] at g3
        clear hg
        have HD := Lib.hid hD
        clear hD
        unfold codeV at g1 g2 g3 H0 ⊢
        generalize c.kinds.length = K at *
        generalize c.body.length = B at *
        generalize c.init.length = I at *
        generalize c.stack = s at *
        generalize c.ins = ci at *
        generalize c.outs = co at *
        generalize c.cells = cc at *
        go_enter Try.func9, Try.ntmps9
        go_wp2_with (first | (go_at_call 15; refine (g1 _).mono ?_; rintro e w1 ⟨rfl, hg1⟩; have H1 := Lib.hid (H0.out.on hg1); clear hg1; have u0 := cell_of_row w1 _ 0 _ _ _ H1.out.2; have u1 := cell_of_row w1 _ 1 _ _ _ H1.out.2; have u2 := cell_of_row w1 _ 2 _ _ _ H1.out.2; have u3 := cell_of_row w1 _ 3 _ _ _ H1.out.2; have u4 := cell_of_row w1 _ 4 _ _ _ H1.out.2; have u5 := cell_of_row w1 _ 5 _ _ _ H1.out.2; have u6 := cell_of_row w1 _ 6 _ _ _ H1.out.2) | (go_at_call 16; refine (g2 _ H1.out.1).mono ?_; rintro e w2 ⟨rfl, hg2⟩; have H2 := Lib.hid (H1.out.on hg2); clear hg2; have u0 := cell_of_row w2 _ 0 _ _ _ H2.out.2; have u1 := cell_of_row w2 _ 1 _ _ _ H2.out.2; have u2 := cell_of_row w2 _ 2 _ _ _ H2.out.2; have u3 := cell_of_row w2 _ 3 _ _ _ H2.out.2; have u4 := cell_of_row w2 _ 4 _ _ _ H2.out.2; have u5 := cell_of_row w2 _ 5 _ _ _ H2.out.2; have u6 := cell_of_row w2 _ 6 _ _ _ H2.out.2) | (go_at_call 17; refine (g3 _ H2.out.1).mono ?_; rintro e w3 ⟨rfl, hg3⟩; have H3 := Lib.hid (H2.out.on hg3); clear hg3; have u0 := cell_of_row w3 _ 0 _ _ _ H3.out.2; have u1 := cell_of_row w3 _ 1 _ _ _ H3.out.2; have u2 := cell_of_row w3 _ 2 _ _ _ H3.out.2; have u3 := cell_of_row w3 _ 3 _ _ _ H3.out.2; have u4 := cell_of_row w3 _ 4 _ _ _ H3.out.2; have u5 := cell_of_row w3 _ 5 _ _ _ H3.out.2; have u6 := cell_of_row w3 _ 6 _ _ _ H3.out.2))
        all_goals go_ret
        all_goals exact ⟨(by rw [HD.out]; rfl), H3.out.1⟩
end Go.Proofs.Ytlppifnepckpiaa
