/- metronomelaw23.CnfParses: the walk. -/
import Derived.Test.YtdhgopcfjomjaaaDoorCqS
import Derived.Test.YtdhgopcfjomjaaaDoorJnP
namespace Go.Proofs.YtdhgopcfjomjaaaDoor
open Go.RowKit Go.Maps Go.WideMaps
open Go.Lib hiding intOf run_convert_string_bytes
open Cn (I64)

/-- what both answers are, and that they are alike -/
def Two (w : World) (vs : Int) (L : List (List Int)) (E : Int) (e : Ending) (w' : World) : Prop := ∃ (va : Option Addr) (c : Nat), e = .returned (.tuple #[.agg #[.int .i64 vs, .slice va L.length c], .int .i64 0, .int .i64 E]) ∧ RowsAt w' va L ∧ w.grownBy w' none
def Two2 (w : World) (vs : Int) (L : List (List Int)) (E : Int) (e : Ending) (w' : World) : Prop := ∃ (va : Option Addr) (c : Nat), e = .returned (.tuple #[.agg #[.int .i64 vs, .slice va L.length c], .int .i64 E]) ∧ RowsAt w' va L ∧ w.grownBy w' none
theorem two_any (w : World) (s : List UInt8) (hl : s.length ≤ 20000) (he : Errs w) : ∃ (vs : Int) (L : List (List Int)) (E : Int), L.length ≤ 200000 ∧ (∀ V, w.grownBy V none → Calls Tryd.prog 23 #[.string ⟨s.toArray⟩] V (Two V vs L E)) ∧ ∀ V, Calls Tryd.prog 24 #[.string ⟨s.toArray⟩] V (Two2 V vs L E) := by
  have hgl : 1 < w.heap.size ∧ 2 < w.heap.size := by
    obtain ⟨e1, e2, q1, _, q2, _⟩ := he
    exact ⟨lt_of_some q1, lt_of_some q2⟩
  by_cases hX : ∃ f : Cn.Fm, Cn.check f = 0 ∧ Cn.txt f = s
  · obtain ⟨f, h1, h2⟩ := hX
    have hF := Cn.formP_text h1
    rw [h2] at hF
    have hok := Cn.check_ok.1 h1
    have hwl := Cn.wt_len f.cl
    refine ⟨f.vars, f.cl, 0, by omega, fun V hg => ?_, fun V => ?_⟩
    · exact (parse_ok V s f.vars f.cl hF h1 (by omega) (he.on hg) (by have := hg.size; omega)).mono fun e w' ⟨va, c, h⟩ => ⟨va, c, h⟩
    · have h3 := rparse_any V s hl
      rw [Cn.pf_some h1 h2] at h3
      exact h3.mono fun e w' ⟨va, c, h⟩ => ⟨va, c, h⟩
  · have hn : ¬ ((Cn.formP s).2.2 = ([], false) ∧ Cn.check ⟨(Cn.formP s).1, (Cn.formP s).2.1⟩ = 0) := fun h => hX (Cn.formP_iff.2 h)
    have hnil : ∀ W : World, RowsAt W none [] := fun W => (RowsIn.nil (fun _ => True) W none).to
    refine ⟨0, [], 40, by simp, fun V hg => ?_, fun V => ?_⟩
    · exact (parse_bad V s hn (by omega) (he.on hg) (by have := hg.size; omega)).mono fun e w' h => ⟨none, 0, h.1, hnil w', h.2⟩
    · have h3 := rparse_any V s hl
      rw [Cn.pf_none hX] at h3
      exact h3.mono fun e w' h => ⟨none, 0, h.1, hnil w', h.2⟩
set_option maxRecDepth 100000 in
set_option maxHeartbeats 8000000 in
theorem cnfParses_run (w : World) (s : List UInt8) (hl63 : s.length ≤ 9223372036854775807) (ht : Tab w) (he : Errs w) :
    Calls Tryd.prog 7 #[.string ⟨s.toArray⟩] w fun e w' => e = .returned (.bool true) ∧ w.grownBy w' none := by
  have hal := alive23_any w ht
  have hnum := fun k V => num23_any k V
  obtain ⟨x, hx⟩ : ∃ x : ByteArray, x = ⟨s.toArray⟩ := ⟨_, rfl⟩
  obtain ⟨N, hN⟩ : ∃ N, N = s.length := ⟨_, rfl⟩
  have hxs : x.size = N := by rw [hx, hN]; simp [ByteArray.size]
  by_cases hl : N ≤ 20000
  · obtain ⟨vs, L, E, hL, hp, hr⟩ := two_any w s (by omega) he
    rw [← hx] at hp hr ⊢
    obtain ⟨n, hn⟩ : ∃ n, n = L.length := ⟨_, rfl⟩
    have hsm := fun V (a1 a2 : Option Addr) (c1 c2 : Nat) (h1 : RowsAt V a1 L) (h2 : RowsAt V a2 L) => sameF_any V vs L a1 c1 a2 c2 h1 h2 (by omega)
    unfold Two at hp
    unfold Two2 at hr
    rw [← hn] at hp hr hsm
    have q1 : ¬ (20000 : Int) < (N : Int) := by omega
    have e1 : decide ((20000 : Int) < (N : Int)) = false := xF q1
    have e2 : (E == E) = true := beq_self_eq_true E
    have HH := Lib.hid (And.intro hal (And.intro hp (And.intro hr hsm)))
    clear hal hp hr hsm hn hL hl hN hx ht he hl63
    go_enter Tryd.func7, Tryd.ntmps7
    go_upto_region 4 with (go_at_call 8; refine HH.out.1.mono ?_; rintro e w1 ⟨rfl, hg1⟩; have H1 := Lib.hid hg1; clear hg1)
    go_upto_region 5 with (go_at_call 23; refine (HH.out.2.1 _ H1.out).mono ?_; rintro e w2 ⟨va, c, rfl, hr2, hg2⟩; have H2 := Lib.hid (And.intro hr2 hg2); clear hr2 hg2)
    obtain ⟨W3, hW3⟩ : ∃ W3, W3 = w2.alloc (.cells #[.int .i64 vs, .slice va n c] 24) := ⟨_, rfl⟩
    have hg3 : w2.grownBy W3 none := by rw [hW3]; exact World.grownBy_alloc _ _ _
    have x0 : W3.cell? ⟨w2.heap.size, 0, none⟩ = some (.int .i64 vs) := by rw [hW3]; simp
    have x1 : W3.cell? ⟨w2.heap.size, 1, none⟩ = some (.slice va n c) := by rw [hW3]; simp
    have H3 := Lib.hid (And.intro (H1.out.trans (H2.out.2.trans hg3)) (H2.out.1.on hg3))
    rw [← hW3]
    clear hW3 hg3
    go_upto_region 6 with (go_at_call 24; refine (HH.out.2.2.1 _).mono ?_; rintro e w4 ⟨va2, c2, rfl, hr4, hg4⟩; have y0 := hg4.cell x0 (by simp); have y1 := hg4.cell x1 (by simp); have H4 := Lib.hid (And.intro (H3.out.2.on hg4) (And.intro hr4 (H3.out.1.trans hg4))); clear hr4 hg4 x0 x1)
    obtain ⟨W5, hW5⟩ : ∃ W5, W5 = w4.alloc (.cells #[.int .i64 vs, .slice va2 n c2] 24) := ⟨_, rfl⟩
    have hg5 : w4.grownBy W5 none := by rw [hW5]; exact World.grownBy_alloc _ _ _
    have z0 : W5.cell? ⟨w4.heap.size, 0, none⟩ = some (.int .i64 vs) := by rw [hW5]; simp
    have z1 : W5.cell? ⟨w4.heap.size, 1, none⟩ = some (.slice va2 n c2) := by rw [hW5]; simp
    have y2 := hg5.cell y0 (by simp)
    have y3 := hg5.cell y1 (by simp)
    have H5 := Lib.hid (And.intro (H4.out.2.2.trans hg5) (HH.out.2.2.2 W5 va va2 c c2 (H4.out.1.on hg5) (H4.out.2.1.on hg5)))
    rw [← hW5]
    clear hW5 hg5 y0 y1
    go_wp2_with (first
      | (go_at_call 11; refine (hnum _ _).mono ?_; rintro e w9 ⟨rfl, hw9⟩; obtain rfl := hw9.symm)
      | (go_at_call 18; refine H5.out.2.mono ?_; rintro e w7 ⟨rfl, hg7⟩; have H7 := Lib.hid hg7; clear hg7))
    go_ret
    exact ⟨rfl, H5.out.1.trans H7.out⟩
  · rw [← hx]
    have q1 : (20000 : Int) < (N : Int) := by omega
    have e1 : decide ((20000 : Int) < (N : Int)) = true := xT q1
    have hN63 : N ≤ 9223372036854775807 := by omega
    have HH := Lib.hid hal
    clear hal hl hN hx ht he hl63
    go_enter Tryd.func7, Tryd.ntmps7
    go_wp2_with (go_at_call 8; refine HH.out.mono ?_; rintro e w1 ⟨rfl, hg1⟩; have H1 := Lib.hid hg1; clear hg1)
    go_ret
    exact ⟨rfl, H1.out⟩
end Go.Proofs.YtdhgopcfjomjaaaDoor
