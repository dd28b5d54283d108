/- Texts joined: CuJ, CuK. -/
import Derived.Test.YthcejnfnamhpfaaGreatCuI
import Derived.Test.YthcejnfnamhpfaaGreatJnD
import Derived.OpenShut
import Derived.Deep.Slices
import Derived.Deep.Strs
import Derived.Carry
import Derived.ChangeOld
/- Stage 19: metronomeref19.Check is the chapter's. -/
namespace Go.Proofs.YthcejnfnamhpfaaGreat
open Go.RowKit Go.Maps Go.WideMaps

theorem rcheck_any (w : World) (c : Cd.Code) (ka : Option Addr) (kc : Nat) (ia : Option Addr) (ic : Nat) (ba : Option Addr) (bc : Nat) (hc : CodeAt w c ka ia ba) (hs : I64s c) :
    Calls Tryz.prog 11 #[.agg (codeV c ka kc ia ic ba bc)] w fun e w' => e = .returned (.int .i64 (Cd.check c)) ∧ w.grownBy w' none := by
  by_cases hl : 60000 < c.body.length ∨ 8000 < c.kinds.length ∨ 64 < c.stack
  · exact rcheck_long w c ka kc ia ic ba bc ⟨hs.2.2.2.2.2.2.2.1, hs.2.2.2.2.2.2.2.2.2⟩ hl
  · by_cases hcn : Cnt c
    · exact rcheck_main w c ka kc ia ic ba bc hl hcn hc
    · exact rcheck_counts w c ka kc ia ic ba bc hl hcn
end Go.Proofs.YthcejnfnamhpfaaGreat

/- Stage 19: code that came in. -/
namespace Go.Proofs.YthcejnfnamhpfaaGreat
open Go.ChangeShapes Go.WideShapes Go.ChangeAt Go.RowKit Go.Deep

theorem addr_pl (b off i : Nat) : (⟨b, off, none⟩ : Addr).add i = ⟨b, off + i, none⟩ := by unfold Addr.add; split <;> simp_all
theorem co_int : Tryz.prog.cellsOf 3 = 1 := by kernel_rfl
theorem co_ints : Tryz.prog.cellsOf 22 = 1 := by kernel_rfl
theorem co_ins : Tryz.prog.cellsOf 56 = 3 := by kernel_rfl
theorem co_inss : Tryz.prog.cellsOf 23 = 1 := by kernel_rfl
theorem co_code : Tryz.prog.cellsOf 25 = 7 := by kernel_rfl
theorem i64_of {n : Int} (h : (Lit.int .i64 n).wf = true) : Cd.I64 n := bounds_i64 h
section
variable {H : Type} {enc : TypeId × Value → H} {W : World} {base : Nat} {sp : Nat → Bool} {held : Bool} {fuel : Nat} {cs : List Value} {x : DataW H × List MemPlace}
theorem nums_of (hf : DataW.trod enc Tryz.prog W base sp held fuel 22 cs = some x) :
    ∃ (a : Option Addr) (c : Nat) (l : List Int), cs = [.slice a l.length c] ∧ l.length ≤ c ∧ l.length ≤ maxLen ∧ NumsAt W a l ∧ ∀ y ∈ l, Cd.I64 y := by
  rcases open_ints Tryz.underlying22 Tryz.underlying3 co_int hf with ⟨hcs, _⟩ | ⟨ad, n, c', zs, hcs, _, hl, hm, hz, _, hcell, hwf⟩
  · exact ⟨none, 0, [], by simpa using hcs, Nat.le_refl _, Nat.zero_le _, NumsAt.nil _ _, by simp⟩
  · have hlm : n ≤ zs.length := by rw [hz]; split <;> omega
    have htl : (zs.take n).length = n := by simp; omega
    refine ⟨some ad, c', zs.take n, by rw [htl]; exact hcs, by rw [htl]; exact hl, by rw [htl]; omega, fun i y hy => ?_, fun y hy => i64_of (hwf y (List.mem_of_mem_take hy))⟩
    have hi : i < n := by
      have := (List.getElem?_eq_some_iff.1 hy).1
      rwa [htl] at this
    rw [List.getElem?_take, if_pos hi] at hy
    obtain ⟨b, off, spot⟩ := ad
    have hc0 := hcell i (by omega)
    have hc00 := hcell 0 (by omega)
    have hspot : spot = none := by simpa [Addr.add] using World.cell?_spot hc00
    subst hspot
    rw [addr_pl] at hc0
    exact ⟨b, off, rfl, by rw [hc0, List.getD_eq_getElem?_getD, hy]; rfl⟩
set_option maxRecDepth 100000 in
theorem inss_of (hf : DataW.trod enc Tryz.prog W base sp held fuel 23 cs = some x) :
    ∃ (a : Option Addr) (c : Nat) (l : List Cd.Ins), cs = [.slice a l.length c] ∧ l.length ≤ c ∧ l.length ≤ maxLen ∧ InssAt W a l ∧ ∀ y ∈ l, Cd.I64 y.op ∧ Cd.I64 y.n ∧ Cd.I64 y.k := by
  rcases open_slice Tryz.underlying23 hf with ⟨hcs, _⟩ | ⟨ad, n, c', m, f, D, Pl, hcs, hb, hl, hm, hmm, _, hx⟩
  · exact ⟨none, 0, [], by simpa using hcs, Nat.le_refl _, Nat.zero_le _, fun i x h => by simp at h, by simp⟩
  · have hlm : n ≤ m := by rw [hmm]; split <;> omega
    have each : ∀ i, i < m → ∃ q : Cd.Ins, W.cell? (ad.add (i * 3)) = some (.int .i64 q.op) ∧ W.cell? (ad.add (i * 3 + 1)) = some (.int .i64 q.n) ∧ W.cell? (ad.add (i * 3 + 2)) = some (.int .i64 q.k) ∧ Cd.I64 q.op ∧ Cd.I64 q.n ∧ Cd.I64 q.k := by
      intro i hi
      obtain ⟨cs', h1, h2⟩ := hx i hi
      rw [co_ins] at h1
      obtain ⟨_, hlen, hcell⟩ := World.cells?_some h1
      obtain ⟨y0, y1, y2, k, _, _, g0, g1, g2⟩ := trod_struct3 Tryz.underlying56 h2
      match cs', hlen with
      | [v0, v1, v2], _ =>
        simp [co_int] at g0 g1 g2
        obtain ⟨n0, e0, _, w0⟩ := DataW.trod_int Tryz.underlying3 g0
        obtain ⟨n1, e1, _, w1⟩ := DataW.trod_int Tryz.underlying3 g1
        obtain ⟨n2, e2, _, w2⟩ := DataW.trod_int Tryz.underlying3 g2
        simp at e0 e1 e2
        subst e0 e1 e2
        have c0 := hcell 0 (by omega)
        have c1 := hcell 1 (by omega)
        have c2 := hcell 2 (by omega)
        rw [add_add] at c0 c1 c2
        exact ⟨⟨n0, n1, n2⟩, by simpa using c0, by simpa using c1, by simpa using c2, i64_of w0, i64_of w1, i64_of w2⟩
    haveI : Inhabited Cd.Ins := ⟨⟨0, 0, 0⟩⟩
    obtain ⟨q, hq⟩ := choose_lt each
    have htl : ((List.range n).map q).length = n := by simp
    refine ⟨some ad, c', (List.range n).map q, by rw [htl]; exact hcs, by rw [htl]; exact hl, by rw [htl]; omega, fun i y hy => ?_, fun y hy => ?_⟩
    · have hi : i < n := by
        have := (List.getElem?_eq_some_iff.1 hy).1
        rwa [htl] at this
      simp [hi] at hy
      subst hy
      obtain ⟨b, off, spot⟩ := ad
      obtain ⟨d0, d1, d2, _⟩ := hq i (by omega)
      have hc00 := (hq 0 (by omega)).1
      have hspot : spot = none := by simpa [Addr.add] using World.cell?_spot hc00
      subst hspot
      rw [addr_pl] at d0 d1 d2
      exact ⟨b, off, rfl, d0, by rw [Nat.add_assoc]; exact d1, by rw [Nat.add_assoc]; exact d2⟩
    · rw [List.mem_map] at hy
      obtain ⟨i, hi, rfl⟩ := hy
      exact (hq i (by have := List.mem_range.1 hi; omega)).2.2.2
set_option maxRecDepth 100000 in
set_option maxHeartbeats 1000000 in
theorem code_of {cells : Array Value} {d : DataW H} {p : List MemPlace} (h : DataW.Trod enc Tryz.prog W base sp held 25 (.agg cells) d p) :
    ∃ (c : Cd.Code) (ka : Option Addr) (kc : Nat) (ia : Option Addr) (ic : Nat) (ba : Option Addr) (bc : Nat), cells = codeV c ka kc ia ic ba bc ∧ CodeAt W c ka ia ba ∧ I64s c ∧ c.kinds.length ≤ kc := by
  obtain ⟨fuel, hf⟩ := h
  obtain ⟨xs, k, _, _, hlen, hxl, hg⟩ := DataW.trod_struct Tryz.underlying25 hf
  rw [co_code] at hlen
  simp only [Value.cells] at hlen hg
  have g0 := hg 0 _ rfl
  have g1 := hg 1 _ rfl
  have g2 := hg 2 _ rfl
  have g3 := hg 3 _ rfl
  have g4 := hg 4 _ rfl
  have g5 := hg 5 _ rfl
  have g6 := hg 6 _ rfl
  clear hg hf
  obtain ⟨l⟩ := cells
  match l, hlen, xs, hxl with
  | [v0, v1, v2, v3, v4, v5, v6], _, [y0, y1, y2, y3, y4, y5, y6], _ =>
    simp [co_int, co_ints, co_inss] at g0 g1 g2 g3 g4 g5 g6
    obtain ⟨ka, kc, ks, e0, k1, k2, k3, k4⟩ := nums_of g0
    obtain ⟨n1, e1, _, w1⟩ := DataW.trod_int Tryz.underlying3 g1
    obtain ⟨n2, e2, _, w2⟩ := DataW.trod_int Tryz.underlying3 g2
    obtain ⟨n3, e3, _, w3⟩ := DataW.trod_int Tryz.underlying3 g3
    obtain ⟨n4, e4, _, w4⟩ := DataW.trod_int Tryz.underlying3 g4
    obtain ⟨ia, ic, is, e5, i1, i2, i3, i4⟩ := nums_of g5
    obtain ⟨ba, bc, bs, e6, b1, b2, b3, b4⟩ := inss_of g6
    simp at e0 e1 e2 e3 e4 e5 e6
    subst e0 e1 e2 e3 e4 e5 e6
    exact ⟨⟨ks, n1, n2, n3, is, n4, bs⟩, ka, kc, ia, ic, ba, bc, rfl, ⟨k3, i3, b3⟩, ⟨i64_of w1, i64_of w2, i64_of w3, i64_of w4, k4, i4, b4, k2, i2, b2⟩, k1⟩
end
end Go.Proofs.YthcejnfnamhpfaaGreat
