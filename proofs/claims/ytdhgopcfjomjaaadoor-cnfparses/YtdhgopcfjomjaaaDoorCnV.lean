/- cnf.Text; the example. -/
import Derived.Test.YtdhgopcfjomjaaaDoorCnU
namespace Go.Proofs.YtdhgopcfjomjaaaDoor
open Go.RowKit Go.Maps Go.WideMaps
open Go.Lib hiding intOf
open Cn (I64)

theorem own_str {w : World} {B : Nat} {v : Value} {T : List UInt8} (h : w.ownsRow B 5 1 v T.length (byteCells T)) (h0 : 0 < T.length) : (convert 66 9 v).run Tryd.prog w = .ok (.string ⟨T.toArray⟩) w := by
  rcases h.2 with ⟨_, e⟩ | ⟨g, cap, cur, rfl, _⟩
  · omega
  · exact run_convert_bytes_back (P := Tryd.prog) w 66 9 5 ⟨g, 0, none⟩ cap T Tryd.underlying66 Tryd.underlying5 Tryd.underlying9 (fun j hj => h.cells (g := g) rfl j _ (by unfold byteCells; rw [List.getElem?_map, List.getElem?_eq_getElem hj]; rfl))
def Cn.textOf (f : Cn.Fm) : List UInt8 := if Cn.check f = 0 then Cn.txt f else []
set_option maxHeartbeats 2000000 in
set_option maxRecDepth 100000 in
theorem text_any (w : World) (f : Cn.Fm) (a : Option Addr) (cap : Nat) (h : RowsAt w a f.cl) (hm : f.cl.length ≤ 140737488351232) (hv : I64 f.vars) (ht : Tab w) :
    Calls Tryd.prog 21 #[.agg #[.int .i64 f.vars, .slice a f.cl.length cap]] w fun e w' => e = .returned (.string ⟨(Cn.textOf f).toArray⟩) ∧ w.grownBy w' none := by
  obtain ⟨W0, hW0⟩ : ∃ W0, W0 = w.alloc (.cells #[.int .i64 f.vars, .slice a f.cl.length cap] 24) := ⟨_, rfl⟩
  have hg0 : w.grownBy W0 none := by rw [hW0]; exact World.grownBy_alloc _ _ _
  have c0 : W0.cell? ⟨w.heap.size, 0, none⟩ = some (.int .i64 f.vars) := by rw [hW0]; simp
  have c1 : W0.cell? ⟨w.heap.size, 1, none⟩ = some (.slice a f.cl.length cap) := by rw [hW0]; simp
  have hch := check_any W0 f a cap (h.on hg0) hm
  obtain ⟨T, hT⟩ : ∃ T, T = Cn.textOf f := ⟨_, rfl⟩
  rw [← hT]
  unfold Cn.textOf at hT
  by_cases hc : Cn.check f = 0
  · rw [if_pos hc] at hT
    rw [hc] at hch
    have hok := Cn.check_ok.1 hc
    have hwr := fun V (hg : W0.grownBy V none) => written_any V f a cap ((h.on hg0).on hg) hok.2.1 hv ((ht.on hg0).on hg)
    rw [← hT] at hwr
    have hT0 : 0 < T.length := by rw [hT]; unfold Cn.txt Cn.headT; simp
    have HH := Lib.hid (And.intro hch (And.intro hwr (And.intro hg0 hT0)))
    obtain ⟨vs, hvs⟩ : ∃ vs, vs = f.vars := ⟨_, rfl⟩
    obtain ⟨n, hn⟩ : ∃ n, n = f.cl.length := ⟨_, rfl⟩
    rw [← hvs, ← hn] at HH hW0 ⊢
    rw [← hvs] at c0
    rw [← hn] at c1
    clear hch hwr hg0 hT0 hT hok hc hvs hn h hm hv ht
    go_enter Tryd.func21, Tryd.ntmps21
    go_wp2_with (first
      | (rw [← hW0]; go_at_call 10; refine HH.out.1.mono ?_; rintro e w1 ⟨rfl, hg1⟩; have d0 := hg1.cell c0 (by simp); have d1 := hg1.cell c1 (by simp); have H1 := Lib.hid hg1; clear hg1 c0 c1)
      | (go_at_call 35; refine (HH.out.2.1 _ H1.out).mono ?_; rintro e w2 ⟨v, rfl, ho2, hg2⟩; have hcv := own_str ho2 HH.out.2.2.2; have H2 := Lib.hid hg2; clear hg2 ho2))
    go_ret
    exact ⟨rfl, HH.out.2.2.1.trans (H1.out.trans H2.out)⟩
  · rw [if_neg hc] at hT
    obtain ⟨C, hC⟩ : ∃ C, C = Cn.check f := ⟨_, rfl⟩
    rw [← hC] at hch hc
    have e1 : (C != 0) = true := by simp [hc]
    have HH := Lib.hid (And.intro hch hg0)
    have HT := Lib.hid hT
    clear hch hg0 hT hc hC
    go_enter Tryd.func21, Tryd.ntmps21
    go_wp2_with (rw [← hW0]; go_at_call 10; refine HH.out.1.mono ?_; rintro e w1 ⟨rfl, hg1⟩; have H1 := Lib.hid hg1; clear hg1)
    go_ret
    exact ⟨by rw [HT.out]; rfl, HH.out.2.trans H1.out⟩

abbrev exN : List Cn.Gt := [⟨2, 0, 0⟩, ⟨2, 0, 0⟩, ⟨3, 0, 2⟩]
abbrev exF : Cn.Fm := ⟨3, [[-3, 1], [-3, 2], [3, -1, -2], [3]]⟩
theorem ex_of : ofV exN [4] = (0, exF) := by rfl
theorem ex_check : Cn.check exF = 0 := by decide +kernel
theorem ex_text : ∃ r, Cn.textOf exF = [112, 32, 99, 110, 102, 32, 51, 32, 52, 10] ++ r := by
  unfold Cn.textOf
  rw [if_pos ex_check]
  unfold Cn.txt Cn.headT
  have h3 : itoa exF.vars = [51] := by decide +kernel
  have h4 : itoa (exF.cl.length : Int) = [52] := by decide +kernel
  rw [h3, h4]
  exact ⟨Cn.clsT exF.cl, rfl⟩
theorem ex_holds : Cn.holds exF [false, true, true, true] = true := by decide +kernel
end Go.Proofs.YtdhgopcfjomjaaaDoor
