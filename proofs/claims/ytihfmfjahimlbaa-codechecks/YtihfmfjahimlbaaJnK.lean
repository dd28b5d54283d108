/- Texts joined: CuJ, CuK, CuL. -/
import Derived.Test.YtihfmfjahimlbaaCuI
import Derived.Test.YtihfmfjahimlbaaJnD
import Derived.OpenShut
import Derived.Deep.Slices
import Derived.Deep.Strs
import Derived.Carry
import Derived.ChangeOld
import Derived.Test.YtihfmfjahimlbaaJnG
/- Stage 19: metronomeref19.Check is the chapter's. -/
namespace Go.Proofs.Ytihfmfjahimlbaa
open Go.RowKit Go.Maps Go.WideMaps

theorem rcheck_any (w : World) (c : Cd.Code) (ka : Option Addr) (kc : Nat) (ia : Option Addr) (ic : Nat) (ba : Option Addr) (bc : Nat) (hc : CodeAt w c ka ia ba) (hs : I64s c) :
    Calls Try.prog 8 #[.agg (codeV c ka kc ia ic ba bc)] w fun e w' => e = .returned (.int .i64 (Cd.check c)) ∧ w.grownBy w' none := by
  by_cases hl : 60000 < c.body.length ∨ 8000 < c.kinds.length ∨ 64 < c.stack
  · exact rcheck_long w c ka kc ia ic ba bc ⟨hs.2.2.2.2.2.2.2.1, hs.2.2.2.2.2.2.2.2.2⟩ hl
  · by_cases hcn : Cnt c
    · exact rcheck_main w c ka kc ia ic ba bc hl hcn hc
    · exact rcheck_counts w c ka kc ia ic ba bc hl hcn
end Go.Proofs.Ytihfmfjahimlbaa

/- Stage 19: code that came in. -/
namespace Go.Proofs.Ytihfmfjahimlbaa
open Go.ChangeShapes Go.WideShapes Go.ChangeAt Go.RowKit Go.Deep

theorem addr_pl (b off i : Nat) : (⟨b, off, none⟩ : Addr).add i = ⟨b, off + i, none⟩ := by unfold Addr.add; split <;> simp_all
theorem co_int : Try.prog.cellsOf 3 = 1 := by kernel_rfl
theorem co_ints : Try.prog.cellsOf 22 = 1 := by kernel_rfl
theorem co_ins : Try.prog.cellsOf 39 = 3 := by kernel_rfl
theorem co_inss : Try.prog.cellsOf 23 = 1 := by kernel_rfl
theorem co_code : Try.prog.cellsOf 25 = 7 := by kernel_rfl
theorem i64_of {n : Int} (h : (Lit.int .i64 n).wf = true) : Cd.I64 n := bounds_i64 h
section
variable {H : Type} {enc : TypeId × Value → H} {W : World} {base : Nat} {sp : Nat → Bool} {held : Bool} {fuel : Nat} {cs : List Value} {x : DataW H × List MemPlace}
theorem nums_of (hf : DataW.trod enc Try.prog W base sp held fuel 22 cs = some x) :
    ∃ (a : Option Addr) (c : Nat) (l : List Int), cs = [.slice a l.length c] ∧ l.length ≤ c ∧ l.length ≤ maxLen ∧ NumsAt W a l ∧ ∀ y ∈ l, Cd.I64 y := by
  rcases open_ints Try.underlying22 Try.underlying3 co_int hf with ⟨hcs, _⟩ | ⟨ad, n, c', zs, hcs, _, hl, hm, hz, _, hcell, hwf⟩
  · exact ⟨none, 0, [], by simpa using hcs, Nat.le_refl _, Nat.zero_le _, NumsAt.nil _ _, by simp⟩
  · have hlm : n ≤ zs.length := by rw [hz]; split <;> omega
    have htl : (zs.take n).length = n := by simp; omega
    refine ⟨some ad, c', zs.take n, by rw [htl]; exact hcs, by rw [htl]; exact hl, by rw [htl]; omega, fun i y hy => ?_, fun y hy => i64_of (hwf y (List.mem_of_mem_take hy))⟩
    have hi : i < n := by
      have := (List.getElem?_eq_some_iff.1 hy).1
      rwa [htl] at this
    rw [List.getElem?_take, if_pos hi] at hy
    obtain ⟨b, off, spot⟩ := ad
    have hc0 := hcell i (by omega)
    have hc00 := hcell 0 (by omega)
    have hspot : spot = none := by simpa [Addr.add] using World.cell?_spot hc00
    subst hspot
    rw [addr_pl] at hc0
    exact ⟨b, off, rfl, by rw [hc0, List.getD_eq_getElem?_getD, hy]; rfl⟩
set_option maxRecDepth 100000 in
theorem inss_of (hf : DataW.trod enc Try.prog W base sp held fuel 23 cs = some x) :
    ∃ (a : Option Addr) (c : Nat) (l : List Cd.Ins), cs = [.slice a l.length c] ∧ l.length ≤ c ∧ l.length ≤ maxLen ∧ InssAt W a l ∧ ∀ y ∈ l, Cd.I64 y.op ∧ Cd.I64 y.n ∧ Cd.I64 y.k := by
  rcases open_slice Try.underlying23 hf with ⟨hcs, _⟩ | ⟨ad, n, c', m, f, D, Pl, hcs, hb, hl, hm, hmm, _, hx⟩
  · exact ⟨none, 0, [], by simpa using hcs, Nat.le_refl _, Nat.zero_le _, fun i x h => by simp at h, by simp⟩
  · have hlm : n ≤ m := by rw [hmm]; split <;> omega
    have each : ∀ i, i < m → ∃ q : Cd.Ins, W.cell? (ad.add (i * 3)) = some (.int .i64 q.op) ∧ W.cell? (ad.add (i * 3 + 1)) = some (.int .i64 q.n) ∧ W.cell? (ad.add (i * 3 + 2)) = some (.int .i64 q.k) ∧ Cd.I64 q.op ∧ Cd.I64 q.n ∧ Cd.I64 q.k := by
      intro i hi
      obtain ⟨cs', h1, h2⟩ := hx i hi
      rw [co_ins] at h1
      obtain ⟨_, hlen, hcell⟩ := World.cells?_some h1
      obtain ⟨y0, y1, y2, k, _, _, g0, g1, g2⟩ := trod_struct3 Try.underlying39 h2
      match cs', hlen with
      | [v0, v1, v2], _ =>
        simp [co_int] at g0 g1 g2
        obtain ⟨n0, e0, _, w0⟩ := DataW.trod_int Try.underlying3 g0
        obtain ⟨n1, e1, _, w1⟩ := DataW.trod_int Try.underlying3 g1
        obtain ⟨n2, e2, _, w2⟩ := DataW.trod_int Try.underlying3 g2
        simp at e0 e1 e2
        subst e0 e1 e2
        have c0 := hcell 0 (by omega)
        have c1 := hcell 1 (by omega)
        have c2 := hcell 2 (by omega)
        rw [add_add] at c0 c1 c2
        exact ⟨⟨n0, n1, n2⟩, by simpa using c0, by simpa using c1, by simpa using c2, i64_of w0, i64_of w1, i64_of w2⟩
    haveI : Inhabited Cd.Ins := ⟨⟨0, 0, 0⟩⟩
    obtain ⟨q, hq⟩ := choose_lt each
    have htl : ((List.range n).map q).length = n := by simp
    refine ⟨some ad, c', (List.range n).map q, by rw [htl]; exact hcs, by rw [htl]; exact hl, by rw [htl]; omega, fun i y hy => ?_, fun y hy => ?_⟩
    · have hi : i < n := by
        have := (List.getElem?_eq_some_iff.1 hy).1
        rwa [htl] at this
      simp [hi] at hy
      subst hy
      obtain ⟨b, off, spot⟩ := ad
      obtain ⟨d0, d1, d2, _⟩ := hq i (by omega)
      have hc00 := (hq 0 (by omega)).1
      have hspot : spot = none := by simpa [Addr.add] using World.cell?_spot hc00
      subst hspot
      rw [addr_pl] at d0 d1 d2
      exact ⟨b, off, rfl, d0, by rw [Nat.add_assoc]; exact d1, by rw [Nat.add_assoc]; exact d2⟩
    · rw [List.mem_map] at hy
      obtain ⟨i, hi, rfl⟩ := hy
      exact (hq i (by have := List.mem_range.1 hi; omega)).2.2.2
set_option maxRecDepth 100000 in
set_option maxHeartbeats 1000000 in
theorem code_of {cells : Array Value} {d : DataW H} {p : List MemPlace} (h : DataW.Trod enc Try.prog W base sp held 25 (.agg cells) d p) :
    ∃ (c : Cd.Code) (ka : Option Addr) (kc : Nat) (ia : Option Addr) (ic : Nat) (ba : Option Addr) (bc : Nat), cells = codeV c ka kc ia ic ba bc ∧ CodeAt W c ka ia ba ∧ I64s c ∧ c.kinds.length ≤ kc := by
  obtain ⟨fuel, hf⟩ := h
  obtain ⟨xs, k, _, _, hlen, hxl, hg⟩ := DataW.trod_struct Try.underlying25 hf
  rw [co_code] at hlen
  simp only [Value.cells] at hlen hg
  have g0 := hg 0 _ rfl
  have g1 := hg 1 _ rfl
  have g2 := hg 2 _ rfl
  have g3 := hg 3 _ rfl
  have g4 := hg 4 _ rfl
  have g5 := hg 5 _ rfl
  have g6 := hg 6 _ rfl
  clear hg hf
  obtain ⟨l⟩ := cells
  match l, hlen, xs, hxl with
  | [v0, v1, v2, v3, v4, v5, v6], _, [y0, y1, y2, y3, y4, y5, y6], _ =>
    simp [co_int, co_ints, co_inss] at g0 g1 g2 g3 g4 g5 g6
    obtain ⟨ka, kc, ks, e0, k1, k2, k3, k4⟩ := nums_of g0
    obtain ⟨n1, e1, _, w1⟩ := DataW.trod_int Try.underlying3 g1
    obtain ⟨n2, e2, _, w2⟩ := DataW.trod_int Try.underlying3 g2
    obtain ⟨n3, e3, _, w3⟩ := DataW.trod_int Try.underlying3 g3
    obtain ⟨n4, e4, _, w4⟩ := DataW.trod_int Try.underlying3 g4
    obtain ⟨ia, ic, is, e5, i1, i2, i3, i4⟩ := nums_of g5
    obtain ⟨ba, bc, bs, e6, b1, b2, b3, b4⟩ := inss_of g6
    simp at e0 e1 e2 e3 e4 e5 e6
    subst e0 e1 e2 e3 e4 e5 e6
    exact ⟨⟨ks, n1, n2, n3, is, n4, bs⟩, ka, kc, ia, ic, ba, bc, rfl, ⟨k3, i3, b3⟩, ⟨i64_of w1, i64_of w2, i64_of w3, i64_of w4, k4, i4, b4, k2, i2, b2⟩, k1⟩
end
end Go.Proofs.Ytihfmfjahimlbaa

/- Stage 19: CodeChecks: the walk. -/
namespace Go.Proofs.Ytihfmfjahimlbaa
open Go.RowKit Go.Maps Go.WideMaps

def bigB (c : Cd.Code) : Bool := decide (3000 < c.body.length) || decide (500 < c.kinds.length) || decide (500 < c.init.length)
set_option maxHeartbeats 1000000 in
theorem big19_any (w : World) (c : Cd.Code) (ka : Option Addr) (kc : Nat) (ia : Option Addr) (ic : Nat) (ba : Option Addr) (bc : Nat) (hs : c.kinds.length ≤ maxLen ∧ c.init.length ≤ maxLen ∧ c.body.length ≤ maxLen) :
    Calls Try.prog 5 #[.agg (codeV c ka kc ia ic ba bc)] w fun e w' => e = .returned (.bool (bigB c)) ∧ w.grownBy w' none := by
  obtain ⟨h1, h2, h3⟩ := hs
  have n1 : c.kinds.length ≤ 9223372036854775807 := by simpa [maxLen] using h1
  have n2 : c.init.length ≤ 9223372036854775807 := by simpa [maxLen] using h2
  have n3 : c.body.length ≤ 9223372036854775807 := by simpa [maxLen] using h3
  clear h1 h2 h3
  obtain ⟨R, hR⟩ : ∃ R, R = bigB c := ⟨_, rfl⟩
  rw [← hR]
  unfold bigB at hR
  unfold codeV
  generalize c.kinds.length = nk at *
  generalize c.init.length = ni at *
  generalize c.body.length = nb at *
  generalize c.ins = x1
  generalize c.outs = x2
  generalize c.cells = x3
  generalize c.stack = x4
  by_cases l1 : 3000 < nb
  · have e1 : decide ((3000 : Int) < (nb : Int)) = true := dT (by omega)
    have HR : Hid (R = true) := Lib.hid (by rw [hR, dT l1]; rfl)
    clear hR l1
    go_enter Try.func5, Try.ntmps5
    go_wp2
    go_ret
    exact ⟨(by rw [HR.out]; rfl), World.grownBy_alloc _ _ _⟩
  have e1 : decide ((3000 : Int) < (nb : Int)) = false := dF (by omega)
  by_cases l2 : 500 < nk
  · have e2 : decide ((500 : Int) < (nk : Int)) = true := dT (by omega)
    have HR : Hid (R = true) := Lib.hid (by rw [hR, dT l2, dF l1]; rfl)
    clear hR l1 l2
    go_enter Try.func5, Try.ntmps5
    go_wp2
    go_ret
    exact ⟨(by rw [HR.out]; rfl), World.grownBy_alloc _ _ _⟩
  have e2 : decide ((500 : Int) < (nk : Int)) = false := dF (by omega)
  have e3 : decide ((500 : Int) < (ni : Int)) = decide (500 < ni) := by rw [decide_eq_decide]; omega
  have HR : Hid (R = decide (500 < ni)) := Lib.hid (by rw [hR, dF l1, dF l2]; rfl)
  clear hR l1 l2
  cases h : decide (500 < ni) with
  | true =>
    rw [h] at e3 HR
    clear h
    go_enter Try.func5, Try.ntmps5
    go_wp2
    go_ret
    exact ⟨(by rw [HR.out]; rfl), World.grownBy_alloc _ _ _⟩
  | false =>
    rw [h] at e3 HR
    clear h
    go_enter Try.func5, Try.ntmps5
    go_wp2
    go_ret
    exact ⟨(by rw [HR.out]; rfl), World.grownBy_alloc _ _ _⟩

set_option maxHeartbeats 4000000 in
set_option maxRecDepth 100000 in
theorem codeChecks_any (w : World) (c : Cd.Code) (ka : Option Addr) (kc : Nat) (ia : Option Addr) (ic : Nat) (ba : Option Addr) (bc : Nat) (hc : CodeAt w c ka ia ba) (hs : I64s c) (hkc : c.kinds.length ≤ kc) :
    Calls Try.prog 3 #[.agg (codeV c ka kc ia ic ba bc)] w fun e w' => e = .returned (.bool true) ∧ w.grownBy w' none := by
  have hal := fun V => alive19_any ccheck_any cwrite_any V
  have hbig := fun V => big19_any V c ka kc ia ic ba bc ⟨hs.2.2.2.2.2.2.2.1, hs.2.2.2.2.2.2.2.2.1, hs.2.2.2.2.2.2.2.2.2⟩
  have hck := fun V (hg : w.grownBy V none) => ccheck_any V c ka kc ia ic ba bc (hc.on hg) hs hkc
  have hrk := fun V (hg : w.grownBy V none) => rcheck_any V c ka kc ia ic ba bc (hc.on hg) hs
  have hnum := fun k V => num19_any k V
  have hg0 := World.grownBy_alloc w (.cells (codeV c ka kc ia ic ba bc) 25) none
  have hr0 := heap_alloc_new w (.cells (codeV c ka kc ia ic ba bc) 25)
  have H0 : Cb w w (codeV c ka kc ia ic ba bc) (w.alloc (.cells (codeV c ka kc ia ic ba bc) 25)) := ⟨hg0, hr0⟩
  replace H0 := Lib.hid H0
  clear hc hs hkc hg0 hr0
  generalize Cd.check c = R at *
  generalize bigB c = B at *
  unfold codeV at *
  generalize c.kinds.length = nk at *
  generalize c.init.length = ni at *
  generalize c.body.length = nb at *
  generalize c.ins = x1 at *
  generalize c.outs = x2 at *
  generalize c.cells = x3 at *
  generalize c.stack = x4 at *
  have HCK := Lib.hid hck
  have HRK := Lib.hid hrk
  clear hck hrk
  cases B with
  | true =>
    go_enter Try.func3, Try.ntmps3
    go_wp2_with (first | (go_at_call 4; refine (hal _).mono ?_; rintro e w1 ⟨rfl, hg1⟩; have H1 := Lib.hid (H0.out.on hg1); clear hg1; have u0 := cell_of_row w1 _ 0 _ _ _ H1.out.2; have u1 := cell_of_row w1 _ 1 _ _ _ H1.out.2; have u2 := cell_of_row w1 _ 2 _ _ _ H1.out.2; have u3 := cell_of_row w1 _ 3 _ _ _ H1.out.2; have u4 := cell_of_row w1 _ 4 _ _ _ H1.out.2; have u5 := cell_of_row w1 _ 5 _ _ _ H1.out.2; have u6 := cell_of_row w1 _ 6 _ _ _ H1.out.2) | (go_at_call 5; refine (hbig _).mono ?_; rintro e w2 ⟨rfl, hg2⟩; have H2 := Lib.hid (H1.out.on hg2); clear hg2 u0 u1 u2 u3 u4 u5 u6; have u0 := cell_of_row w2 _ 0 _ _ _ H2.out.2; have u1 := cell_of_row w2 _ 1 _ _ _ H2.out.2; have u2 := cell_of_row w2 _ 2 _ _ _ H2.out.2; have u3 := cell_of_row w2 _ 3 _ _ _ H2.out.2; have u4 := cell_of_row w2 _ 4 _ _ _ H2.out.2; have u5 := cell_of_row w2 _ 5 _ _ _ H2.out.2; have u6 := cell_of_row w2 _ 6 _ _ _ H2.out.2))
    go_ret
    exact ⟨rfl, H2.out.1⟩
  | false =>
    go_enter Try.func3, Try.ntmps3
    go_upto_region 6 with (first | (go_at_call 4; refine (hal _).mono ?_; rintro e w1 ⟨rfl, hg1⟩; have H1 := Lib.hid (H0.out.on hg1); clear hg1; have u0 := cell_of_row w1 _ 0 _ _ _ H1.out.2; have u1 := cell_of_row w1 _ 1 _ _ _ H1.out.2; have u2 := cell_of_row w1 _ 2 _ _ _ H1.out.2; have u3 := cell_of_row w1 _ 3 _ _ _ H1.out.2; have u4 := cell_of_row w1 _ 4 _ _ _ H1.out.2; have u5 := cell_of_row w1 _ 5 _ _ _ H1.out.2; have u6 := cell_of_row w1 _ 6 _ _ _ H1.out.2) | (go_at_call 5; refine (hbig _).mono ?_; rintro e w2 ⟨rfl, hg2⟩; have H2 := Lib.hid (H1.out.on hg2); clear hg2 u0 u1 u2 u3 u4 u5 u6; have u0 := cell_of_row w2 _ 0 _ _ _ H2.out.2; have u1 := cell_of_row w2 _ 1 _ _ _ H2.out.2; have u2 := cell_of_row w2 _ 2 _ _ _ H2.out.2; have u3 := cell_of_row w2 _ 3 _ _ _ H2.out.2; have u4 := cell_of_row w2 _ 4 _ _ _ H2.out.2; have u5 := cell_of_row w2 _ 5 _ _ _ H2.out.2; have u6 := cell_of_row w2 _ 6 _ _ _ H2.out.2) | (go_at_call 6; refine (HCK.out _ H2.out.1).mono ?_; rintro e w3 ⟨rfl, hg3⟩; have H3 := Lib.hid (H2.out.on hg3); clear hg3 u0 u1 u2 u3 u4 u5 u6))
    refine wp_region_L (S := fun V => w3.grownBy V none) (Z := []) (by kernel_rfl) ?_
    have hS : w3.grownBy w3.drew none := ⟨rfl, rfl, rfl, Nat.le_refl _, fun _ _ _ => rfl⟩
    (try simp only [Act.put, sA, sB, sC])
    refine t1 0 17 (.int .i64 R) hS ?_
    (try simp only [Act.put, sA, sB, sC])
    refine t2 2 19 (.agg #[.slice ka nk kc, .int .i64 x1, .int .i64 x2, .int .i64 x3, .int .i64 x4, .slice ia ni ic, .slice ba nb bc]) (fun w' hw' => ?_) hS ?_
    · exact exec_load_mid 25 _ rfl w.heap.size 0 rfl _ _ (row_range ((hw'.block _ (gl H3.out.2) (by simp)).trans H3.out.2)) Try.underlying25 rfl (by kernel_rfl)
    (try simp only [Act.put, sA, sB, sC])
    refine wpL_call (i := 1) (d := 18) (g := 7) (args := #[.int .i64 R]) (R := fun v V => v = .int .i64 R ∧ w3.grownBy V none) (by kernel_rfl) rfl rfl (by kernel_rfl) (by kernel_rfl) ((hnum _ _).mono (by rintro e w' ⟨rfl, rfl⟩; exact ⟨_, rfl, rfl, hS⟩)) (fun v V h => h.2) (fun v V h => ?_)
    clear hS
    obtain ⟨rfl, hS⟩ := h
    (try simp only [Act.put, sA, sB, sC])
    refine wpL_call (i := 3) (d := 20) (g := 8) (args := #[.agg #[.slice ka nk kc, .int .i64 x1, .int .i64 x2, .int .i64 x3, .int .i64 x4, .slice ia ni ic, .slice ba nb bc]]) (R := fun v V => v = .int .i64 R ∧ w3.grownBy V none) (by kernel_rfl) rfl rfl (by kernel_rfl) (by kernel_rfl) ((HRK.out _ (H3.out.1.trans hS)).mono (by rintro e w' ⟨rfl, hg⟩; exact ⟨_, rfl, rfl, hS.trans hg⟩)) (fun v V h => h.2) (fun v V h => ?_)
    clear hS
    obtain ⟨rfl, hS⟩ := h
    (try simp only [Act.put, sA, sB, sC])
    have hRR : (R == R) = true := by simp
    refine t2 4 21 (.bool true) (fun w' hw' => ?_) hS ?_
    · clear hw' hS
      go_simp
    (try simp only [Act.put, sA, sB, sC])
    refine t1 5 2 (.bool true) hS ?_
    (try simp only [Act.put, sA, sB, sC])
    refine wpL_done (by kernel_rfl) ?_ _
    have HG := Lib.hid (H3.out.1.trans hS)
    clear hS
    go_wp2
    go_ret
    exact ⟨rfl, HG.out⟩
theorem codeChecks_run (w : World) (c : Cd.Code) (ka : Option Addr) (kc : Nat) (ia : Option Addr) (ic : Nat) (ba : Option Addr) (bc : Nat) (hc : CodeAt w c ka ia ba) (hs : I64s c) (hkc : c.kinds.length ≤ kc) :
    Calls Try.prog 3 #[.agg (codeV c ka kc ia ic ba bc)] w fun e w' => e = .returned (.bool true) ∧ w.grownBy w' none := codeChecks_any w c ka kc ia ic ba bc hc hs hkc
end Go.Proofs.Ytihfmfjahimlbaa
