/- Stage 19: CodeWrites: the walk (written by mkcur.py). -/
import Derived.Test.YtihfmfjahimlbaaGreatCuR
namespace Go.Proofs.YtihfmfjahimlbaaGreat
open Go.RowKit Go.Maps Go.WideMaps

set_option maxHeartbeats 8000000 in
set_option maxRecDepth 100000 in
theorem codeWrites_any (w : World) (c : Cd.Code) (ka : Option Addr) (kc : Nat) (ia : Option Addr) (ic : Nat) (ba : Option Addr) (bc : Nat) (o : Cd.Code) (oka : Option Addr) (okc : Nat) (oia : Option Addr) (oic : Nat) (oba : Option Addr) (obc : Nat)
    (hc : CodeAt w c ka ia ba) (h64 : I64s c) (hkc : c.kinds.length ≤ kc) (ho : CodeAt w o oka oia oba) (o64 : I64s o) (okk : o.kinds.length ≤ okc) :
    Calls Tryz.prog 3 #[.agg (codeV c ka kc ia ic ba bc), .agg (codeV o oka okc oia oic oba obc)] w fun e w' => e = .returned (.bool true) ∧ w.grownBy w' none := by
  have hal := fun V => alive19_any ccheck_any cwrite_any V
  have hbc := fun V => big19_any V c ka kc ia ic ba bc ⟨h64.2.2.2.2.2.2.2.1, h64.2.2.2.2.2.2.2.2.1, h64.2.2.2.2.2.2.2.2.2⟩
  have hbo := fun V => big19_any V o oka okc oia oic oba obc ⟨o64.2.2.2.2.2.2.2.1, o64.2.2.2.2.2.2.2.2.1, o64.2.2.2.2.2.2.2.2.2⟩
  have hlc := write_len h64
  have hlo := write_len o64
  have HWO : Hid (bigB o = false → ∀ V, w.grownBy V none → Calls Tryz.prog 7 #[.agg (codeV o oka okc oia oic oba obc)] V fun e w' => V.grownBy w' none ∧ ∃ da dn dc ec, e = .returned (.tuple #[.slice da dn dc, .int .i64 ec]) ∧ Dd V.heap.size w' da dn ∧ dn ≤ 4000000) := Lib.hid (fun h V hg => write_o V o oka okc oia oic oba obc (ho.on hg) o64 okk (hlo h))
  have HWG : Hid (Cd.check c = 0 → ∀ V, w.grownBy V none → Calls Tryz.prog 7 #[.agg (codeV c ka kc ia ic ba bc)] V (WrG V (Cd.write c))) := Lib.hid (fun h V hg => (cwrite_any V c ka kc ia ic ba bc (hc.on hg) h64 hkc).mono (by rintro e w' ⟨h1, h2, -⟩; obtain ⟨v, rfl, h3⟩ := h2 h; exact wrG_of (write_ne c) h1 h3))
  have HWB : Hid (Cd.check c ≠ 0 → ∀ V, w.grownBy V none → Calls Tryz.prog 7 #[.agg (codeV c ka kc ia ic ba bc)] V fun e w' => e = .returned (.tuple #[.slice none 0 0, .int .i64 (Cd.check c)]) ∧ V.grownBy w' none) := Lib.hid (fun h V hg => (cwrite_any V c ka kc ia ic ba bc (hc.on hg) h64 hkc).mono (by rintro e w' ⟨h1, -, h2⟩; exact ⟨h2 h, h1⟩))
  have HRG : Hid (Cd.check c = 0 → ∀ V, w.grownBy V none → Calls Tryz.prog 8 #[.agg (codeV c ka kc ia ic ba bc)] V (WrG V (Cd.write c))) := Lib.hid (fun h V hg => (rwrite_good V c ka kc ia ic ba bc (hc.on hg) h64 h).mono (by rintro e w' ⟨v, rfl, h1, h3⟩; exact wrG_of (write_ne c) h1 h3))
  have HRB : Hid (Cd.check c ≠ 0 → ∀ V, w.grownBy V none → Calls Tryz.prog 8 #[.agg (codeV c ka kc ia ic ba bc)] V fun e w' => e = .returned (.tuple #[.slice none 0 0, .int .i64 (Cd.check c)]) ∧ V.grownBy w' none) := Lib.hid (fun h V hg => rwrite_bad V c ka kc ia ic ba bc (hc.on hg) h64 h)
  have HPA : Hid (Cd.check c = 0 → bigB c = false → ∀ V g cap, BytesAt V (some ⟨g, 0, none⟩) (Cd.write c) → (Cd.write c).length ≤ cap → Calls Tryz.prog 10 #[.slice (some ⟨g, 0, none⟩) (Cd.write c).length cap] V (PrP V c)) := Lib.hid (fun h hb V g cap h1 h2 => cread_any V c (some ⟨g, 0, none⟩) cap h1 h2 (hlc hb) h h64)
  have HSA : Hid (∀ V pa pc pi pj pb pd, w.grownBy V none → CodeAt V c pa pi pb → Calls Tryz.prog 11 #[.agg (codeV c pa pc pi pj pb pd), .agg (codeV c ka kc ia ic ba bc)] V fun e w' => e = .returned (.bool true) ∧ V.grownBy w' none) := Lib.hid (fun V pa pc pi pj pb pd hg h => rSame_eq V c pa pc pi pj pb pd ka kc ia ic ba bc h (hc.on hg) h64)
  have hnum := fun k V => num19_any k V
  have H0 : Cv w ((w.alloc (.cells (codeV c ka kc ia ic ba bc) 25)).alloc (.cells (codeV o oka okc oia oic oba obc) 25)) (codeV c ka kc ia ic ba bc) (codeV o oka okc oia oic oba obc) := by
    have h1 := heap_alloc_new w (.cells (codeV c ka kc ia ic ba bc) 25)
    have h2 := heap_alloc_new (w.alloc (.cells (codeV c ka kc ia ic ba bc) 25)) (.cells (codeV o oka okc oia oic oba obc) 25)
    rw [World.size_alloc] at h2
    exact ⟨(World.grownBy_alloc w _ none).trans (World.grownBy_alloc _ _ none), (heap_alloc_old _ _ (gl h1)).trans h1, h2⟩
  replace H0 := Lib.hid H0
  clear hc hkc ho okk hlc hlo h64 o64
  generalize bigB c = Bc at *
  generalize Cd.write c = P at *
  generalize Cd.check c = R at *
  generalize bigB o = Bo at *
  have HPF : Hid (∀ pa pc pi pj pb pd, codeV c pa pc pi pj pb pd = #[.slice pa c.kinds.length pc, .int .i64 c.ins, .int .i64 c.outs, .int .i64 c.cells, .int .i64 c.stack, .slice pi c.init.length pj, .slice pb c.body.length pd]) := Lib.hid (fun _ _ _ _ _ _ => rfl)
  simp only [HPF.out] at HSA
  rw [show codeV c ka kc ia ic ba bc = #[.slice ka c.kinds.length kc, .int .i64 c.ins, .int .i64 c.outs, .int .i64 c.cells, .int .i64 c.stack, .slice ia c.init.length ic, .slice ba c.body.length bc] from rfl] at *
  rw [show codeV o oka okc oia oic oba obc = #[.slice oka o.kinds.length okc, .int .i64 o.ins, .int .i64 o.outs, .int .i64 o.cells, .int .i64 o.stack, .slice oia o.init.length oic, .slice oba o.body.length obc] from rfl] at *
  generalize o.kinds.length = mk at *
  generalize o.init.length = mi at *
  generalize o.body.length = mb at *
  generalize o.ins = y1 at *
  generalize o.outs = y2 at *
  generalize o.cells = y3 at *
  generalize o.stack = y4 at *
  cases Bc with
  | true =>
    go_enter Tryz.func3, Tryz.ntmps3
    go_upto_region 3 with (first | (go_at_call 5; refine (hal _).mono ?_; rintro e w1 ⟨rfl, hg1⟩; have H1 := Lib.hid (H0.out.on hg1); clear hg1; have u0 := cell_of_row w1 _ 0 _ _ _ H1.out.2.1; have u1 := cell_of_row w1 _ 1 _ _ _ H1.out.2.1; have u2 := cell_of_row w1 _ 2 _ _ _ H1.out.2.1; have u3 := cell_of_row w1 _ 3 _ _ _ H1.out.2.1; have u4 := cell_of_row w1 _ 4 _ _ _ H1.out.2.1; have u5 := cell_of_row w1 _ 5 _ _ _ H1.out.2.1; have u6 := cell_of_row w1 _ 6 _ _ _ H1.out.2.1; have v0 := cell_of_row w1 _ 0 _ _ _ H1.out.2.2; have v1 := cell_of_row w1 _ 1 _ _ _ H1.out.2.2; have v2 := cell_of_row w1 _ 2 _ _ _ H1.out.2.2; have v3 := cell_of_row w1 _ 3 _ _ _ H1.out.2.2; have v4 := cell_of_row w1 _ 4 _ _ _ H1.out.2.2; have v5 := cell_of_row w1 _ 5 _ _ _ H1.out.2.2; have v6 := cell_of_row w1 _ 6 _ _ _ H1.out.2.2) | (go_at_call 6; refine (hbc _).mono ?_; rintro e w2 ⟨rfl, hg2⟩; have H2 := Lib.hid (H1.out.on hg2); clear hg2 u0 u1 u2 u3 u4 u5 u6 v0 v1 v2 v3 v4 v5 v6; have u0 := cell_of_row w2 _ 0 _ _ _ H2.out.2.1; have u1 := cell_of_row w2 _ 1 _ _ _ H2.out.2.1; have u2 := cell_of_row w2 _ 2 _ _ _ H2.out.2.1; have u3 := cell_of_row w2 _ 3 _ _ _ H2.out.2.1; have u4 := cell_of_row w2 _ 4 _ _ _ H2.out.2.1; have u5 := cell_of_row w2 _ 5 _ _ _ H2.out.2.1; have u6 := cell_of_row w2 _ 6 _ _ _ H2.out.2.1; have v0 := cell_of_row w2 _ 0 _ _ _ H2.out.2.2; have v1 := cell_of_row w2 _ 1 _ _ _ H2.out.2.2; have v2 := cell_of_row w2 _ 2 _ _ _ H2.out.2.2; have v3 := cell_of_row w2 _ 3 _ _ _ H2.out.2.2; have v4 := cell_of_row w2 _ 4 _ _ _ H2.out.2.2; have v5 := cell_of_row w2 _ 5 _ _ _ H2.out.2.2; have v6 := cell_of_row w2 _ 6 _ _ _ H2.out.2.2))
    go_wp2
    go_ret
    exact ⟨rfl, H2.out.1⟩
  | false =>
    cases Bo with
    | true =>
      go_enter Tryz.func3, Tryz.ntmps3
      go_upto_region 3 with (first | (have q2 := H2; go_at_call 6; clear q2; refine (hbo _).mono ?_; rintro e w3 ⟨rfl, hg3⟩; have H3 := Lib.hid (H2.out.on hg3); clear hg3 u0 u1 u2 u3 u4 u5 u6 v0 v1 v2 v3 v4 v5 v6; have u0 := cell_of_row w3 _ 0 _ _ _ H3.out.2.1; have u1 := cell_of_row w3 _ 1 _ _ _ H3.out.2.1; have u2 := cell_of_row w3 _ 2 _ _ _ H3.out.2.1; have u3 := cell_of_row w3 _ 3 _ _ _ H3.out.2.1; have u4 := cell_of_row w3 _ 4 _ _ _ H3.out.2.1; have u5 := cell_of_row w3 _ 5 _ _ _ H3.out.2.1; have u6 := cell_of_row w3 _ 6 _ _ _ H3.out.2.1; have v0 := cell_of_row w3 _ 0 _ _ _ H3.out.2.2; have v1 := cell_of_row w3 _ 1 _ _ _ H3.out.2.2; have v2 := cell_of_row w3 _ 2 _ _ _ H3.out.2.2; have v3 := cell_of_row w3 _ 3 _ _ _ H3.out.2.2; have v4 := cell_of_row w3 _ 4 _ _ _ H3.out.2.2; have v5 := cell_of_row w3 _ 5 _ _ _ H3.out.2.2; have v6 := cell_of_row w3 _ 6 _ _ _ H3.out.2.2) | (go_at_call 5; refine (hal _).mono ?_; rintro e w1 ⟨rfl, hg1⟩; have H1 := Lib.hid (H0.out.on hg1); clear hg1; have u0 := cell_of_row w1 _ 0 _ _ _ H1.out.2.1; have u1 := cell_of_row w1 _ 1 _ _ _ H1.out.2.1; have u2 := cell_of_row w1 _ 2 _ _ _ H1.out.2.1; have u3 := cell_of_row w1 _ 3 _ _ _ H1.out.2.1; have u4 := cell_of_row w1 _ 4 _ _ _ H1.out.2.1; have u5 := cell_of_row w1 _ 5 _ _ _ H1.out.2.1; have u6 := cell_of_row w1 _ 6 _ _ _ H1.out.2.1; have v0 := cell_of_row w1 _ 0 _ _ _ H1.out.2.2; have v1 := cell_of_row w1 _ 1 _ _ _ H1.out.2.2; have v2 := cell_of_row w1 _ 2 _ _ _ H1.out.2.2; have v3 := cell_of_row w1 _ 3 _ _ _ H1.out.2.2; have v4 := cell_of_row w1 _ 4 _ _ _ H1.out.2.2; have v5 := cell_of_row w1 _ 5 _ _ _ H1.out.2.2; have v6 := cell_of_row w1 _ 6 _ _ _ H1.out.2.2) | (go_at_call 6; refine (hbc _).mono ?_; rintro e w2 ⟨rfl, hg2⟩; have H2 := Lib.hid (H1.out.on hg2); clear hg2 u0 u1 u2 u3 u4 u5 u6 v0 v1 v2 v3 v4 v5 v6; have u0 := cell_of_row w2 _ 0 _ _ _ H2.out.2.1; have u1 := cell_of_row w2 _ 1 _ _ _ H2.out.2.1; have u2 := cell_of_row w2 _ 2 _ _ _ H2.out.2.1; have u3 := cell_of_row w2 _ 3 _ _ _ H2.out.2.1; have u4 := cell_of_row w2 _ 4 _ _ _ H2.out.2.1; have u5 := cell_of_row w2 _ 5 _ _ _ H2.out.2.1; have u6 := cell_of_row w2 _ 6 _ _ _ H2.out.2.1; have v0 := cell_of_row w2 _ 0 _ _ _ H2.out.2.2; have v1 := cell_of_row w2 _ 1 _ _ _ H2.out.2.2; have v2 := cell_of_row w2 _ 2 _ _ _ H2.out.2.2; have v3 := cell_of_row w2 _ 3 _ _ _ H2.out.2.2; have v4 := cell_of_row w2 _ 4 _ _ _ H2.out.2.2; have v5 := cell_of_row w2 _ 5 _ _ _ H2.out.2.2; have v6 := cell_of_row w2 _ 6 _ _ _ H2.out.2.2))
      go_wp2
      go_ret
      exact ⟨rfl, H3.out.1⟩
    | false =>
      by_cases hz : R = 0
      · go_enter Tryz.func3, Tryz.ntmps3
        go_upto_region 3 with (first | (have q2 := H2; go_at_call 6; clear q2; refine (hbo _).mono ?_; rintro e w3 ⟨rfl, hg3⟩; have H3 := Lib.hid (H2.out.on hg3); clear hg3 u0 u1 u2 u3 u4 u5 u6 v0 v1 v2 v3 v4 v5 v6; have u0 := cell_of_row w3 _ 0 _ _ _ H3.out.2.1; have u1 := cell_of_row w3 _ 1 _ _ _ H3.out.2.1; have u2 := cell_of_row w3 _ 2 _ _ _ H3.out.2.1; have u3 := cell_of_row w3 _ 3 _ _ _ H3.out.2.1; have u4 := cell_of_row w3 _ 4 _ _ _ H3.out.2.1; have u5 := cell_of_row w3 _ 5 _ _ _ H3.out.2.1; have u6 := cell_of_row w3 _ 6 _ _ _ H3.out.2.1; have v0 := cell_of_row w3 _ 0 _ _ _ H3.out.2.2; have v1 := cell_of_row w3 _ 1 _ _ _ H3.out.2.2; have v2 := cell_of_row w3 _ 2 _ _ _ H3.out.2.2; have v3 := cell_of_row w3 _ 3 _ _ _ H3.out.2.2; have v4 := cell_of_row w3 _ 4 _ _ _ H3.out.2.2; have v5 := cell_of_row w3 _ 5 _ _ _ H3.out.2.2; have v6 := cell_of_row w3 _ 6 _ _ _ H3.out.2.2) | (go_at_call 5; refine (hal _).mono ?_; rintro e w1 ⟨rfl, hg1⟩; have H1 := Lib.hid (H0.out.on hg1); clear hg1; have u0 := cell_of_row w1 _ 0 _ _ _ H1.out.2.1; have u1 := cell_of_row w1 _ 1 _ _ _ H1.out.2.1; have u2 := cell_of_row w1 _ 2 _ _ _ H1.out.2.1; have u3 := cell_of_row w1 _ 3 _ _ _ H1.out.2.1; have u4 := cell_of_row w1 _ 4 _ _ _ H1.out.2.1; have u5 := cell_of_row w1 _ 5 _ _ _ H1.out.2.1; have u6 := cell_of_row w1 _ 6 _ _ _ H1.out.2.1; have v0 := cell_of_row w1 _ 0 _ _ _ H1.out.2.2; have v1 := cell_of_row w1 _ 1 _ _ _ H1.out.2.2; have v2 := cell_of_row w1 _ 2 _ _ _ H1.out.2.2; have v3 := cell_of_row w1 _ 3 _ _ _ H1.out.2.2; have v4 := cell_of_row w1 _ 4 _ _ _ H1.out.2.2; have v5 := cell_of_row w1 _ 5 _ _ _ H1.out.2.2; have v6 := cell_of_row w1 _ 6 _ _ _ H1.out.2.2) | (go_at_call 6; refine (hbc _).mono ?_; rintro e w2 ⟨rfl, hg2⟩; have H2 := Lib.hid (H1.out.on hg2); clear hg2 u0 u1 u2 u3 u4 u5 u6 v0 v1 v2 v3 v4 v5 v6; have u0 := cell_of_row w2 _ 0 _ _ _ H2.out.2.1; have u1 := cell_of_row w2 _ 1 _ _ _ H2.out.2.1; have u2 := cell_of_row w2 _ 2 _ _ _ H2.out.2.1; have u3 := cell_of_row w2 _ 3 _ _ _ H2.out.2.1; have u4 := cell_of_row w2 _ 4 _ _ _ H2.out.2.1; have u5 := cell_of_row w2 _ 5 _ _ _ H2.out.2.1; have u6 := cell_of_row w2 _ 6 _ _ _ H2.out.2.1; have v0 := cell_of_row w2 _ 0 _ _ _ H2.out.2.2; have v1 := cell_of_row w2 _ 1 _ _ _ H2.out.2.2; have v2 := cell_of_row w2 _ 2 _ _ _ H2.out.2.2; have v3 := cell_of_row w2 _ 3 _ _ _ H2.out.2.2; have v4 := cell_of_row w2 _ 4 _ _ _ H2.out.2.2; have v5 := cell_of_row w2 _ 5 _ _ _ H2.out.2.2; have v6 := cell_of_row w2 _ 6 _ _ _ H2.out.2.2))
        go_upto_region 7 with (first | (have q4 := H4; go_at_call 7; clear q4; refine (HWO.out (by first | rfl | trivial) _ H4.out.1).mono ?_; rintro e w5 ⟨hg5, da, dn, dc, ec, rfl, hD, hdn⟩; have H5 := Lib.hid (H4.out.on hg5); have HD := Lib.hid (And.intro hD hg5); clear hD hg5 u0 u1 u2 u3 u4 u5 u6 v0 v1 v2 v3 v4 v5 v6) | (go_at_call 7; refine (HWG.out hz _ H3.out.1).mono ?_; rintro e w4 ⟨hg4, g, cap, rfl, hb4, hcp, hgl⟩; have H4 := Lib.hid (H3.out.on hg4); have HBY := Lib.hid (And.intro hb4 (And.intro hcp hgl)); clear hg4 hb4 hcp hgl u0 u1 u2 u3 u4 u5 u6 v0 v1 v2 v3 v4 v5 v6; have u0 := cell_of_row w4 _ 0 _ _ _ H4.out.2.1; have u1 := cell_of_row w4 _ 1 _ _ _ H4.out.2.1; have u2 := cell_of_row w4 _ 2 _ _ _ H4.out.2.1; have u3 := cell_of_row w4 _ 3 _ _ _ H4.out.2.1; have u4 := cell_of_row w4 _ 4 _ _ _ H4.out.2.1; have u5 := cell_of_row w4 _ 5 _ _ _ H4.out.2.1; have u6 := cell_of_row w4 _ 6 _ _ _ H4.out.2.1; have v0 := cell_of_row w4 _ 0 _ _ _ H4.out.2.2; have v1 := cell_of_row w4 _ 1 _ _ _ H4.out.2.2; have v2 := cell_of_row w4 _ 2 _ _ _ H4.out.2.2; have v3 := cell_of_row w4 _ 3 _ _ _ H4.out.2.2; have v4 := cell_of_row w4 _ 4 _ _ _ H4.out.2.2; have v5 := cell_of_row w4 _ 5 _ _ _ H4.out.2.2; have v6 := cell_of_row w4 _ 6 _ _ _ H4.out.2.2))
        clear hal hbc hbo
        go_wp2
        have n1 : dn ≤ 9223372036854775807 := by omega
        go_loopw [11] (fun iv wr => ∃ t : Nat, t ≤ dn ∧ iv = .int .i64 (t : Int) ∧ Hid ((∀ g, da = some ⟨g, 0, none⟩ → 0 < dn → w4.heap.size ≤ g ∧ U8 wr g dn) ∧ Below w4.heap.size w5 wr)) (fun i _ => dn - (intOf i).toNat)
        case atStart =>
          refine ⟨0, Nat.zero_le _, rfl, Lib.hid ⟨fun g0 e h0 => ?_, Below.refl _ _⟩⟩
          rcases HD.out.1 with h | ⟨g1, e1, h1, h2⟩
          · omega
          · rw [e] at e1
            cases e1
            exact ⟨h1, h2⟩
        case round =>
          obtain ⟨t, ht, rfl, HT⟩ := hrel
          by_cases hlt : t < dn
          · obtain ⟨g5, rfl, hB5, -⟩ := HD.out.1.resolve_left (by omega)
            have hU := (HT.out.1 g5 rfl (by omega)).2
            obtain ⟨xb, c5⟩ := hU.cell hlt
            have z5 := hU.fr t
            have HU := Lib.hid (And.intro hU hB5)
            clear hU hB5
            go_wp2
            go_roundw
            case measure => simp [intOf]; omega
            exact ⟨t + 1, by omega, by go_num, Lib.hid ⟨fun g0 e _ => (by cases e; exact ⟨HU.out.2, HU.out.1.set⟩), HT.out.2.setCell HU.out.2 _⟩⟩
          · obtain rfl : dn = t := by omega
            have hlt4 := gl H4.out.2.2
            have H6 := Lib.hid (H5.out.below HT.out.2 (.inr hlt4))
            have u0 := cell_of_row wr _ 0 _ _ _ H6.out.2.1
            have u1 := cell_of_row wr _ 1 _ _ _ H6.out.2.1
            have u2 := cell_of_row wr _ 2 _ _ _ H6.out.2.1
            have u3 := cell_of_row wr _ 3 _ _ _ H6.out.2.1
            have u4 := cell_of_row wr _ 4 _ _ _ H6.out.2.1
            have u5 := cell_of_row wr _ 5 _ _ _ H6.out.2.1
            have u6 := cell_of_row wr _ 6 _ _ _ H6.out.2.1
            have v0 := cell_of_row wr _ 0 _ _ _ H6.out.2.2
            have v1 := cell_of_row wr _ 1 _ _ _ H6.out.2.2
            have v2 := cell_of_row wr _ 2 _ _ _ H6.out.2.2
            have v3 := cell_of_row wr _ 3 _ _ _ H6.out.2.2
            have v4 := cell_of_row wr _ 4 _ _ _ H6.out.2.2
            have v5 := cell_of_row wr _ 5 _ _ _ H6.out.2.2
            have v6 := cell_of_row wr _ 6 _ _ _ H6.out.2.2
            have HBW : Hid (BytesAt wr (some ⟨g, 0, none⟩) P ∧ P.length ≤ cap) := Lib.hid ⟨BytesAt.below (fun i b hi => by
              obtain ⟨g', o', e, hcx⟩ := HBY.out.1 i b hi
              exact ⟨g', o', e, HD.out.2.cell hcx (by simp)⟩) HT.out.2 HBY.out.2.2, HBY.out.2.1⟩
            clear HT hlt ht HBY HD hlt4
            go_upto_region 12 with (go_at_call 8; refine (HRG.out hz _ H6.out.1).mono ?_; rintro e w7 ⟨hg7, g7, cap7, rfl, hb7, hcp7, hgl7⟩; have H7 := Lib.hid (H6.out.on hg7); have hb1 : BytesAt w7 (some ⟨g, 0, none⟩) P := fun i b hi => (by obtain ⟨g', o', e, hcx⟩ := HBW.out.1 i b hi; exact ⟨g', o', e, hg7.cell hcx (by simp)⟩); have HB7 := Lib.hid hb1; have hcv1 := str_of (cap := cap) hb1; have hcv2 := str_of (cap := cap7) hb7; clear hg7 hb7 hcp7 hgl7 hb1 u0 u1 u2 u3 u4 u5 u6 v0 v1 v2 v3 v4 v5 v6)
            obtain ⟨S, hS⟩ : ∃ S : ByteArray, S = ⟨P.toArray⟩ := ⟨_, rfl⟩
            rw [← hS] at hcv1 hcv2
            clear hS
            subst hz
            go_upto_region 16 with (go_at_call 9; refine (hnum _ _).mono ?_; rintro e w' ⟨rfl, hw'⟩; obtain rfl := hw'.symm)
            go_wp2_with (go_at_call 10; refine (HPA.out trivial trivial _ g cap HB7.out HBW.out.2).mono ?_; rintro e w8 ⟨hg8, pa, pc, pi, pj, pb, pd, rfl, hcd⟩; refine Hid.out ?_)
            rw [HPF.out]
            have H8 := Lib.hid (H7.out.on hg8)
            have HCD := Lib.hid hcd
            clear hg8 hcd
            refine Lib.hid ?_
            go_wp2_with (with_reducible refine hold_st ?_)
            refine Lib.hid ?_
            refine store_lastc #[.slice pa c.kinds.length pc, .int .i64 c.ins, .int .i64 c.outs, .int .i64 c.cells, .int .i64 c.stack, .slice pi c.init.length pj, .slice pb c.body.length pd] ?hp ?hv ?hi ?ho ?h1 ?hK
            case hp => rfl
            case hv => rfl
            case hi => kernel_rfl
            case ho => rfl
            case h1 => simp [Value.oneCell']
            have hrow := heap_alloc_new w8 (.cells #[.slice pa c.kinds.length pc, .int .i64 c.ins, .int .i64 c.outs, .int .i64 c.cells, .int .i64 c.stack, .slice pi c.init.length pj, .slice pb c.body.length pd] 25)
            have H9 := Lib.hid (H8.out.on (World.grownBy_alloc w8 (.cells #[.slice pa c.kinds.length pc, .int .i64 c.ins, .int .i64 c.outs, .int .i64 c.cells, .int .i64 c.stack, .slice pi c.init.length pj, .slice pb c.body.length pd] 25) none))
            have HC9 := Lib.hid (HCD.out.on (World.grownBy_alloc w8 (.cells #[.slice pa c.kinds.length pc, .int .i64 c.ins, .int .i64 c.outs, .int .i64 c.cells, .int .i64 c.stack, .slice pi c.init.length pj, .slice pb c.body.length pd] 25) none))
            obtain ⟨W9, hW9⟩ : ∃ W9, W9 = w8.alloc (.cells #[.slice pa c.kinds.length pc, .int .i64 c.ins, .int .i64 c.outs, .int .i64 c.cells, .int .i64 c.stack, .slice pi c.init.length pj, .slice pb c.body.length pd] 25) := ⟨_, rfl⟩
            rw [← hW9] at hrow H9 HC9 ⊢
            clear hW9 H8 HCD
            have u0 := cell_of_row W9 _ 0 _ _ _ H9.out.2.1
            have u1 := cell_of_row W9 _ 1 _ _ _ H9.out.2.1
            have u2 := cell_of_row W9 _ 2 _ _ _ H9.out.2.1
            have u3 := cell_of_row W9 _ 3 _ _ _ H9.out.2.1
            have u4 := cell_of_row W9 _ 4 _ _ _ H9.out.2.1
            have u5 := cell_of_row W9 _ 5 _ _ _ H9.out.2.1
            have u6 := cell_of_row W9 _ 6 _ _ _ H9.out.2.1
            have v0 := cell_of_row W9 _ 0 _ _ _ hrow
            have v1 := cell_of_row W9 _ 1 _ _ _ hrow
            have v2 := cell_of_row W9 _ 2 _ _ _ hrow
            have v3 := cell_of_row W9 _ 3 _ _ _ hrow
            have v4 := cell_of_row W9 _ 4 _ _ _ hrow
            have v5 := cell_of_row W9 _ 5 _ _ _ hrow
            have v6 := cell_of_row W9 _ 6 _ _ _ hrow
            clear hrow
            go_wp2_with (first | (go_at_call 9; refine (hnum _ _).mono ?_; rintro e w' ⟨rfl, hw'⟩; obtain rfl := hw'.symm) | (go_at_call 11; refine (HSA.out _ pa pc pi pj pb pd H9.out.1 HC9.out).mono ?_; rintro e w10 ⟨rfl, hg10⟩; have H10 := Lib.hid (H9.out.1.trans hg10); clear hg10 u0 u1 u2 u3 u4 u5 u6 v0 v1 v2 v3 v4 v5 v6))
            go_ret
            exact ⟨rfl, H10.out⟩
      · go_enter Tryz.func3, Tryz.ntmps3
        go_upto_region 3 with (first | (have q2 := H2; go_at_call 6; clear q2; refine (hbo _).mono ?_; rintro e w3 ⟨rfl, hg3⟩; have H3 := Lib.hid (H2.out.on hg3); clear hg3 u0 u1 u2 u3 u4 u5 u6 v0 v1 v2 v3 v4 v5 v6; have u0 := cell_of_row w3 _ 0 _ _ _ H3.out.2.1; have u1 := cell_of_row w3 _ 1 _ _ _ H3.out.2.1; have u2 := cell_of_row w3 _ 2 _ _ _ H3.out.2.1; have u3 := cell_of_row w3 _ 3 _ _ _ H3.out.2.1; have u4 := cell_of_row w3 _ 4 _ _ _ H3.out.2.1; have u5 := cell_of_row w3 _ 5 _ _ _ H3.out.2.1; have u6 := cell_of_row w3 _ 6 _ _ _ H3.out.2.1; have v0 := cell_of_row w3 _ 0 _ _ _ H3.out.2.2; have v1 := cell_of_row w3 _ 1 _ _ _ H3.out.2.2; have v2 := cell_of_row w3 _ 2 _ _ _ H3.out.2.2; have v3 := cell_of_row w3 _ 3 _ _ _ H3.out.2.2; have v4 := cell_of_row w3 _ 4 _ _ _ H3.out.2.2; have v5 := cell_of_row w3 _ 5 _ _ _ H3.out.2.2; have v6 := cell_of_row w3 _ 6 _ _ _ H3.out.2.2) | (go_at_call 5; refine (hal _).mono ?_; rintro e w1 ⟨rfl, hg1⟩; have H1 := Lib.hid (H0.out.on hg1); clear hg1; have u0 := cell_of_row w1 _ 0 _ _ _ H1.out.2.1; have u1 := cell_of_row w1 _ 1 _ _ _ H1.out.2.1; have u2 := cell_of_row w1 _ 2 _ _ _ H1.out.2.1; have u3 := cell_of_row w1 _ 3 _ _ _ H1.out.2.1; have u4 := cell_of_row w1 _ 4 _ _ _ H1.out.2.1; have u5 := cell_of_row w1 _ 5 _ _ _ H1.out.2.1; have u6 := cell_of_row w1 _ 6 _ _ _ H1.out.2.1; have v0 := cell_of_row w1 _ 0 _ _ _ H1.out.2.2; have v1 := cell_of_row w1 _ 1 _ _ _ H1.out.2.2; have v2 := cell_of_row w1 _ 2 _ _ _ H1.out.2.2; have v3 := cell_of_row w1 _ 3 _ _ _ H1.out.2.2; have v4 := cell_of_row w1 _ 4 _ _ _ H1.out.2.2; have v5 := cell_of_row w1 _ 5 _ _ _ H1.out.2.2; have v6 := cell_of_row w1 _ 6 _ _ _ H1.out.2.2) | (go_at_call 6; refine (hbc _).mono ?_; rintro e w2 ⟨rfl, hg2⟩; have H2 := Lib.hid (H1.out.on hg2); clear hg2 u0 u1 u2 u3 u4 u5 u6 v0 v1 v2 v3 v4 v5 v6; have u0 := cell_of_row w2 _ 0 _ _ _ H2.out.2.1; have u1 := cell_of_row w2 _ 1 _ _ _ H2.out.2.1; have u2 := cell_of_row w2 _ 2 _ _ _ H2.out.2.1; have u3 := cell_of_row w2 _ 3 _ _ _ H2.out.2.1; have u4 := cell_of_row w2 _ 4 _ _ _ H2.out.2.1; have u5 := cell_of_row w2 _ 5 _ _ _ H2.out.2.1; have u6 := cell_of_row w2 _ 6 _ _ _ H2.out.2.1; have v0 := cell_of_row w2 _ 0 _ _ _ H2.out.2.2; have v1 := cell_of_row w2 _ 1 _ _ _ H2.out.2.2; have v2 := cell_of_row w2 _ 2 _ _ _ H2.out.2.2; have v3 := cell_of_row w2 _ 3 _ _ _ H2.out.2.2; have v4 := cell_of_row w2 _ 4 _ _ _ H2.out.2.2; have v5 := cell_of_row w2 _ 5 _ _ _ H2.out.2.2; have v6 := cell_of_row w2 _ 6 _ _ _ H2.out.2.2))
        go_upto_region 7 with (first | (have q4 := H4; go_at_call 7; clear q4; refine (HWO.out (by first | rfl | trivial) _ H4.out.1).mono ?_; rintro e w5 ⟨hg5, da, dn, dc, ec, rfl, hD, hdn⟩; have H5 := Lib.hid (H4.out.on hg5); have HD := Lib.hid (And.intro hD hg5); clear hD hg5 u0 u1 u2 u3 u4 u5 u6 v0 v1 v2 v3 v4 v5 v6) | (go_at_call 7; refine (HWB.out hz _ H3.out.1).mono ?_; rintro e w4 ⟨rfl, hg4⟩; have H4 := Lib.hid (H3.out.on hg4); clear hg4 u0 u1 u2 u3 u4 u5 u6 v0 v1 v2 v3 v4 v5 v6; have u0 := cell_of_row w4 _ 0 _ _ _ H4.out.2.1; have u1 := cell_of_row w4 _ 1 _ _ _ H4.out.2.1; have u2 := cell_of_row w4 _ 2 _ _ _ H4.out.2.1; have u3 := cell_of_row w4 _ 3 _ _ _ H4.out.2.1; have u4 := cell_of_row w4 _ 4 _ _ _ H4.out.2.1; have u5 := cell_of_row w4 _ 5 _ _ _ H4.out.2.1; have u6 := cell_of_row w4 _ 6 _ _ _ H4.out.2.1; have v0 := cell_of_row w4 _ 0 _ _ _ H4.out.2.2; have v1 := cell_of_row w4 _ 1 _ _ _ H4.out.2.2; have v2 := cell_of_row w4 _ 2 _ _ _ H4.out.2.2; have v3 := cell_of_row w4 _ 3 _ _ _ H4.out.2.2; have v4 := cell_of_row w4 _ 4 _ _ _ H4.out.2.2; have v5 := cell_of_row w4 _ 5 _ _ _ H4.out.2.2; have v6 := cell_of_row w4 _ 6 _ _ _ H4.out.2.2))
        clear hal hbc hbo
        go_wp2
        have n1 : dn ≤ 9223372036854775807 := by omega
        go_loopw [11] (fun iv wr => ∃ t : Nat, t ≤ dn ∧ iv = .int .i64 (t : Int) ∧ Hid ((∀ g, da = some ⟨g, 0, none⟩ → 0 < dn → w4.heap.size ≤ g ∧ U8 wr g dn) ∧ Below w4.heap.size w5 wr)) (fun i _ => dn - (intOf i).toNat)
        case atStart =>
          refine ⟨0, Nat.zero_le _, rfl, Lib.hid ⟨fun g0 e h0 => ?_, Below.refl _ _⟩⟩
          rcases HD.out.1 with h | ⟨g1, e1, h1, h2⟩
          · omega
          · rw [e] at e1
            cases e1
            exact ⟨h1, h2⟩
        case round =>
          obtain ⟨t, ht, rfl, HT⟩ := hrel
          by_cases hlt : t < dn
          · obtain ⟨g5, rfl, hB5, -⟩ := HD.out.1.resolve_left (by omega)
            have hU := (HT.out.1 g5 rfl (by omega)).2
            obtain ⟨xb, c5⟩ := hU.cell hlt
            have z5 := hU.fr t
            have HU := Lib.hid (And.intro hU hB5)
            clear hU hB5
            go_wp2
            go_roundw
            case measure => simp [intOf]; omega
            exact ⟨t + 1, by omega, by go_num, Lib.hid ⟨fun g0 e _ => (by cases e; exact ⟨HU.out.2, HU.out.1.set⟩), HT.out.2.setCell HU.out.2 _⟩⟩
          · obtain rfl : dn = t := by omega
            have hlt4 := gl H4.out.2.2
            have H6 := Lib.hid (H5.out.below HT.out.2 (.inr hlt4))
            have u0 := cell_of_row wr _ 0 _ _ _ H6.out.2.1
            have u1 := cell_of_row wr _ 1 _ _ _ H6.out.2.1
            have u2 := cell_of_row wr _ 2 _ _ _ H6.out.2.1
            have u3 := cell_of_row wr _ 3 _ _ _ H6.out.2.1
            have u4 := cell_of_row wr _ 4 _ _ _ H6.out.2.1
            have u5 := cell_of_row wr _ 5 _ _ _ H6.out.2.1
            have u6 := cell_of_row wr _ 6 _ _ _ H6.out.2.1
            have v0 := cell_of_row wr _ 0 _ _ _ H6.out.2.2
            have v1 := cell_of_row wr _ 1 _ _ _ H6.out.2.2
            have v2 := cell_of_row wr _ 2 _ _ _ H6.out.2.2
            have v3 := cell_of_row wr _ 3 _ _ _ H6.out.2.2
            have v4 := cell_of_row wr _ 4 _ _ _ H6.out.2.2
            have v5 := cell_of_row wr _ 5 _ _ _ H6.out.2.2
            have v6 := cell_of_row wr _ 6 _ _ _ H6.out.2.2
            clear HT hlt ht HD hlt4
            have e1 : (R != 0) = true := by simpa using hz
            have hcv := fun W : World => run_convert_bytes_nil (P := Tryz.prog) (w := W) 28 5 Tryz.underlying28 Tryz.underlying5 0 0 9 Tryz.underlying9
            go_upto_region 12 with (go_at_call 8; refine (HRB.out hz _ H6.out.1).mono ?_; rintro e w7 ⟨rfl, hg7⟩; have H7 := Lib.hid (H6.out.on hg7); clear hg7 u0 u1 u2 u3 u4 u5 u6 v0 v1 v2 v3 v4 v5 v6)
            go_wp2_with (go_at_call 9; refine (hnum _ _).mono ?_; rintro e w' ⟨rfl, hw'⟩; obtain rfl := hw'.symm)
            go_ret
            exact ⟨rfl, H7.out.1⟩
end Go.Proofs.YtihfmfjahimlbaaGreat
