/- Formulas, nets, bools that came in, none beyond the form's reach. -/
import Derived.Test.YtdhgopcfjomjaaaDoorCnX
import Derived.OpenShut
import Derived.Deep.Slices
import Derived.Deep.Strs
import Derived.Deep.Grids
import Derived.Carry
import Derived.ChangeOld
import Derived.ChangeSame
import Derived.SizedLaws
namespace Go.Proofs.YtdhgopcfjomjaaaDoor
open Go.ChangeShapes Go.WideShapes Go.ChangeAt Go.RowKit Go.Deep Go.Maps Go.WideMaps
open Cn (I64)

theorem addr_pl (b off i : Nat) : (⟨b, off, none⟩ : Addr).add i = ⟨b, off + i, none⟩ := by unfold Addr.add; split <;> simp_all
theorem co_int : Tryd.prog.cellsOf 3 = 1 := by kernel_rfl
theorem co_row : Tryd.prog.cellsOf 36 = 1 := by kernel_rfl
theorem co_rows : Tryd.prog.cellsOf 22 = 1 := by kernel_rfl
theorem co_gate : Tryd.prog.cellsOf 48 = 3 := by kernel_rfl
theorem co_gates : Tryd.prog.cellsOf 33 = 1 := by kernel_rfl
theorem co_bool : Tryd.prog.cellsOf 4 = 1 := by kernel_rfl
theorem int_bytes : Tryd.prog.bytesOf 3 = 8 := by kernel_rfl
theorem row_bytes : Tryd.prog.bytesOf 36 = 24 := by kernel_rfl
theorem gate_bytes : Tryd.prog.bytesOf 48 = 24 := by kernel_rfl
theorem bool_bytes : Tryd.prog.bytesOf 4 = 1 := by kernel_rfl
theorem i64_of {n : Int} (h : (Lit.int .i64 n).wf = true) : I64 n := bounds_i64 h
theorem add_add (a : Addr) (i j : Nat) : (a.add i).add j = a.add (i + j) := by
  by_cases h1 : i = 0
  · subst h1; simp [Addr.add]
  · by_cases h2 : j = 0
    · subst h2; simp [Addr.add]
    · unfold Addr.add; simp [h1, h2, Nat.add_assoc]
theorem weights_all {H : Type} {P : Program} {e : TypeId} {d : DataW H} {k : Nat} (hk : k ∈ d.weights P e) : ∀ {l : List (DataW H)}, d ∈ l → k ∈ DataW.weightsAll P e l
  | [], h => by cases h
  | x :: r, h => by
    simp only [DataW.weightsAll, List.mem_append]
    rcases List.mem_cons.1 h with rfl | h
    · exact .inl hk
    · exact .inr (weights_all hk h)
section
variable {H : Type} {enc : TypeId × Value → H} {W : World} {base : Nat} {held : Bool} {fuel : Nat} {cs : List Value} {x : DataW H × List MemPlace}
theorem nums_of (hf : DataW.trod enc Tryd.prog W base (fun _ => true) held fuel 36 cs = some x) :
    ∃ (a : Option Addr) (c : Nat) (l : List Int), cs = [.slice a l.length c] ∧ l.length ≤ c ∧ l.length ≤ maxLen ∧ NumsAt W a l ∧ ∀ y ∈ l, I64 y := by
  rcases open_ints Tryd.underlying36 Tryd.underlying3 co_int hf with ⟨hcs, _⟩ | ⟨ad, n, c', zs, hcs, _, hl, hm, hz, _, hcell, hwf⟩
  · exact ⟨none, 0, [], by simpa using hcs, Nat.le_refl _, Nat.zero_le _, NumsAt.nil _ _, by simp⟩
  · have hlm : n ≤ zs.length := by rw [hz]; split <;> omega
    have htl : (zs.take n).length = n := by simp; omega
    refine ⟨some ad, c', zs.take n, by rw [htl]; exact hcs, by rw [htl]; exact hl, by rw [htl]; omega, fun i y hy => ?_, fun y hy => i64_of (hwf y (List.mem_of_mem_take hy))⟩
    have hi : i < n := by
      have := (List.getElem?_eq_some_iff.1 hy).1
      rwa [htl] at this
    rw [List.getElem?_take, if_pos hi] at hy
    obtain ⟨b, off, spot⟩ := ad
    have hc0 := hcell i (by omega)
    have hc00 := hcell 0 (by omega)
    have hspot : spot = none := by simpa [Addr.add] using World.cell?_spot hc00
    subst hspot
    rw [addr_pl] at hc0
    exact ⟨b, off, rfl, by rw [hc0, List.getD_eq_getElem?_getD, hy]; rfl⟩
theorem row_weight {ra : Option Addr} {n rc : Nat} {d : DataW H} {p : List MemPlace}
    (h : DataW.trod enc Tryd.prog W base (fun _ => true) held fuel 36 [.slice ra n rc] = some (d, p)) (hw : ∀ k ∈ d.weights Tryd.prog 36, k ≤ reachBytes) : n ≤ 140737488351232 := by
  rcases open_slice Tryd.underlying36 h with ⟨hcs, _⟩ | ⟨ad, n', c', m, f', D, Pl, hcs, _, _, _, _, hx, _⟩
  · simp at hcs
    rw [hcs.2.1]
    exact Nat.zero_le _
  · cases hcs
    cases hx
    have h1 := hw ((((List.range n).map D).length + ((List.range (m - n)).map fun j => D (n + j)).length) * Tryd.prog.bytesOf 3) (by simp only [DataW.weights, Tryd.underlying36]; exact List.mem_cons_self ..)
    rw [int_bytes] at h1
    simp [reachBytes] at h1
    omega
set_option maxRecDepth 100000 in
theorem rows_of (hf : DataW.trod enc Tryd.prog W base (fun _ => true) held fuel 22 cs = some x) (hw : ∀ k ∈ x.1.weights Tryd.prog 22, k ≤ reachBytes) :
    ∃ (a : Option Addr) (c : Nat) (L : List (List Int)), cs = [.slice a L.length c] ∧ L.length ≤ c ∧ L.length ≤ 140737488351232 ∧ RowsAt W a L := by
  rcases open_slice Tryd.underlying22 hf with ⟨hcs, _⟩ | ⟨ad, n, c', m, f, D, Pl, hcs, hb, hl, hm, hmm, hxe, hx⟩
  · exact ⟨none, 0, [], by simpa using hcs, Nat.le_refl _, Nat.zero_le _, fun i x h => by simp at h⟩
  · have hlm : n ≤ m := by rw [hmm]; split <;> omega
    subst hxe
    simp only [DataW.weights, Tryd.underlying22] at hw
    have hn := hw _ (List.mem_cons_self ..)
    rw [row_bytes] at hn
    simp [reachBytes] at hn
    have each : ∀ i, i < m → ∃ q : Option Addr × Nat × List Int, W.cell? (ad.add i) = some (.slice q.1 q.2.2.length q.2.1) ∧ NumsAt W q.1 q.2.2 ∧ q.2.2.length ≤ q.2.1 ∧ (i < n → q.2.2.length ≤ 140737488351232) ∧ ∀ y ∈ q.2.2, I64 y := by
      intro i hi
      obtain ⟨cs', h1, h2⟩ := hx i hi
      rw [co_row] at h1
      obtain ⟨_, hlen, hcell⟩ := World.cells?_some h1
      obtain ⟨ra, rc, l, e1, e2, e3, e4, e5⟩ := nums_of h2
      subst e1
      have c0 := hcell 0 (by decide)
      rw [Nat.mul_one] at c0
      have e0 : (ad.add i).add 0 = ad.add i := by unfold Addr.add; split <;> simp_all
      refine ⟨(ra, rc, l), ?_, e4, e2, fun hin => ?_, e5⟩
      · rw [e0] at c0
        simpa using c0
      · refine row_weight h2 (fun k hk => hw k ?_)
        exact List.mem_cons_of_mem _ (List.mem_append.2 (.inl (weights_all hk (List.mem_map.2 ⟨i, List.mem_range.2 hin, rfl⟩))))
    haveI : Inhabited (Option Addr × Nat × List Int) := ⟨(none, 0, [])⟩
    obtain ⟨q, hq⟩ := choose_lt each
    have htl : ((List.range n).map fun i => (q i).2.2).length = n := by simp
    refine ⟨some ad, c', (List.range n).map fun i => (q i).2.2, by rw [htl]; exact hcs, by rw [htl]; exact hl, by rw [htl]; omega, fun i l hil => ?_⟩
    have hi : i < n := by
      have := (List.getElem?_eq_some_iff.1 hil).1
      rwa [htl] at this
    simp [hi] at hil
    subst hil
    obtain ⟨b, off, spot⟩ := ad
    obtain ⟨d0, d1, d2, d3, d4⟩ := hq i (by omega)
    have hc00 := (hq 0 (by omega)).1
    have hspot : spot = none := by
      have e0 : (⟨b, off, spot⟩ : Addr).add 0 = ⟨b, off, spot⟩ := by unfold Addr.add; split <;> simp_all
      rw [e0] at hc00
      simpa using World.cell?_spot hc00
    subst hspot
    rw [addr_pl] at d0
    exact ⟨b, off, _, _, rfl, d0, d1, d2, d3 hi, d4⟩
set_option maxRecDepth 100000 in
theorem formula_of {cells : Array Value} {d : DataW H} {p : List MemPlace} (h : DataW.Trod enc Tryd.prog W base (fun _ => true) held 24 (.agg cells) d p) (hw : ∀ k ∈ d.weights Tryd.prog 24, k ≤ reachBytes) :
    ∃ (f : Cn.Fm) (a : Option Addr) (c : Nat), cells = #[.int .i64 f.vars, .slice a f.cl.length c] ∧ RowsAt W a f.cl ∧ f.cl.length ≤ 140737488351232 ∧ I64 f.vars := by
  obtain ⟨fuel, hf⟩ := h
  obtain ⟨y0, y1, k, hx, hlen, g0, g1⟩ := trod_struct2 Tryd.underlying24 hf
  cases hx
  simp only [DataW.weights, Tryd.underlying24, DataW.weightsEach, List.map_cons, List.map_nil, List.append_nil, List.mem_append] at hw
  obtain ⟨l⟩ := cells
  simp only [Value.cells] at hlen g0 g1
  have hl2 : l.length = 2 := by have e : Tryd.prog.cellsOf 24 = 2 := by kernel_rfl
                                rw [e] at hlen; exact hlen
  match l, hl2 with
  | [v0, v1], _ =>
    simp [co_int, co_rows] at g0 g1
    obtain ⟨n0, e0, _, w0⟩ := DataW.trod_int Tryd.underlying3 g0
    obtain ⟨a, c, L, e1, h1, h2, h3⟩ := rows_of g1 (fun k hk => hw k (.inr hk))
    simp at e0 e1
    subst e0 e1
    exact ⟨⟨n0, L⟩, a, c, rfl, h3, h2, i64_of w0⟩
theorem bools_of {a : Option Addr} {n c : Nat} {d : DataW H} {p : List MemPlace} (h : DataW.Trod enc Tryd.prog W base (fun _ => true) held 25 (.slice a n c) d p) : ∃ l : List Bool, n = l.length ∧ l.length ≤ 9223372036854775807 ∧ BoolsAt W a l := by
  obtain ⟨fuel, hf⟩ := h
  rcases open_bools Tryd.underlying25 Tryd.underlying4 co_bool hf with ⟨hcs, _⟩ | ⟨ad, len, cap, Bf, hcs, _, hl, hm, _, hcell⟩
  · simp [Value.cells] at hcs
    exact ⟨[], by rw [hcs.2.1]; rfl, Nat.zero_le _, fun i n h => by simp at h⟩
  · simp [Value.cells] at hcs
    obtain ⟨rfl, rfl, rfl⟩ := hcs
    refine ⟨(List.range n).map Bf, by simp, by simp [maxLen] at hm ⊢; omega, fun i y hy => ?_⟩
    have hi : i < n := by
      have := (List.getElem?_eq_some_iff.1 hy).1
      simpa using this
    simp [hi] at hy
    subst hy
    obtain ⟨b, off, spot⟩ := ad
    have hc0 := hcell i (by omega)
    have hc00 := hcell 0 (by omega)
    have hspot : spot = none := by simpa [Addr.add] using World.cell?_spot hc00
    subst hspot
    rw [addr_pl] at hc0
    exact ⟨b, off, rfl, hc0⟩
theorem numsI_of {a : Option Addr} {n c : Nat} {d : DataW H} {p : List MemPlace} (h : DataW.Trod enc Tryd.prog W base (fun _ => true) held 36 (.slice a n c) d p) : ∃ l : List Int, n = l.length ∧ l.length ≤ 9223372036854775807 ∧ NumsAt W a l ∧ ∀ y ∈ l, I64 y := by
  obtain ⟨fuel, hf⟩ := h
  obtain ⟨a', c', l, e, h1, h2, h3, h4⟩ := nums_of hf
  simp [Value.cells] at e
  obtain ⟨rfl, rfl, rfl⟩ := e
  exact ⟨l, rfl, by simpa [maxLen] using h2, h3, h4⟩
set_option maxRecDepth 100000 in
theorem gates_of (hf : DataW.trod enc Tryd.prog W base (fun _ => true) held fuel 33 cs = some x) (hw : ∀ k ∈ x.1.weights Tryd.prog 33, k ≤ reachBytes) :
    ∃ (a : Option Addr) (c : Nat) (l : List Cn.Gt), cs = [.slice a l.length c] ∧ l.length ≤ 140737488351232 ∧ GatesAt W a l := by
  rcases open_slice Tryd.underlying33 hf with ⟨hcs, _⟩ | ⟨ad, n, c', m, f, D, Pl, hcs, hb, hl, hm, hmm, hxe, hx⟩
  · exact ⟨none, 0, [], by simpa using hcs, Nat.zero_le _, fun i x h => by simp at h⟩
  · have hlm : n ≤ m := by rw [hmm]; split <;> omega
    subst hxe
    simp only [DataW.weights, Tryd.underlying33] at hw
    have hn := hw _ (List.mem_cons_self ..)
    rw [gate_bytes] at hn
    simp [reachBytes] at hn
    have each : ∀ i, i < m → ∃ q : Cn.Gt, W.cell? (ad.add (i * 3)) = some (.int .i64 q.op) ∧ W.cell? (ad.add (i * 3 + 1)) = some (.int .i64 q.a) ∧ W.cell? (ad.add (i * 3 + 2)) = some (.int .i64 q.b) ∧ Cn.G64 q := by
      intro i hi
      obtain ⟨cs', h1, h2⟩ := hx i hi
      rw [co_gate] at h1
      obtain ⟨_, hlen, hcell⟩ := World.cells?_some h1
      obtain ⟨y0, y1, y2, k, _, _, g0, g1, g2⟩ := trod_struct3 Tryd.underlying48 h2
      match cs', hlen with
      | [v0, v1, v2], _ =>
        simp [co_int] at g0 g1 g2
        obtain ⟨n0, e0, _, w0⟩ := DataW.trod_int Tryd.underlying3 g0
        obtain ⟨n1, e1, _, w1⟩ := DataW.trod_int Tryd.underlying3 g1
        obtain ⟨n2, e2, _, w2⟩ := DataW.trod_int Tryd.underlying3 g2
        simp at e0 e1 e2
        subst e0 e1 e2
        have c0 := hcell 0 (by omega)
        have c1 := hcell 1 (by omega)
        have c2 := hcell 2 (by omega)
        rw [add_add] at c0 c1 c2
        exact ⟨⟨n0, n1, n2⟩, by simpa using c0, by simpa using c1, by simpa using c2, i64_of w0, i64_of w1, i64_of w2⟩
    haveI : Inhabited Cn.Gt := ⟨⟨0, 0, 0⟩⟩
    obtain ⟨q, hq⟩ := choose_lt each
    have htl : ((List.range n).map q).length = n := by simp
    refine ⟨some ad, c', (List.range n).map q, by rw [htl]; exact hcs, by rw [htl]; omega, fun i y hy => ?_⟩
    have hi : i < n := by
      have := (List.getElem?_eq_some_iff.1 hy).1
      rwa [htl] at this
    simp [hi] at hy
    subst hy
    obtain ⟨b, off, spot⟩ := ad
    obtain ⟨d0, d1, d2, d3⟩ := hq i (by omega)
    have hc00 := (hq 0 (by omega)).1
    have hspot : spot = none := by simpa [Addr.add] using World.cell?_spot hc00
    subst hspot
    rw [addr_pl] at d0 d1 d2
    exact ⟨b, off, rfl, d0, by rw [Nat.add_assoc]; exact d1, by rw [Nat.add_assoc]; exact d2, d3⟩
set_option maxRecDepth 100000 in
theorem net_of {cells : Array Value} {d : DataW H} {p : List MemPlace} (h : DataW.Trod enc Tryd.prog W base (fun _ => true) held 35 (.agg cells) d p) (hw : ∀ k ∈ d.weights Tryd.prog 35, k ≤ reachBytes) :
    ∃ (n : List Cn.Gt) (a : Option Addr) (c : Nat), cells = #[.slice a n.length c] ∧ GatesAt W a n ∧ n.length ≤ 140737488351232 := by
  obtain ⟨fuel, hf⟩ := h
  obtain ⟨y0, k, hx, hlen, g0⟩ := trod_struct1 Tryd.underlying35 hf
  cases hx
  simp only [DataW.weights, Tryd.underlying35, DataW.weightsEach, List.map_cons, List.map_nil, List.append_nil] at hw
  obtain ⟨l⟩ := cells
  simp only [Value.cells] at hlen g0
  have hl1 : l.length = 1 := by have e : Tryd.prog.cellsOf 35 = 1 := by kernel_rfl
                                rw [e] at hlen; exact hlen
  match l, hl1 with
  | [v0], _ =>
    simp [co_gates] at g0
    obtain ⟨a, c, L, e1, h2, h3⟩ := gates_of g0 hw
    simp at e1
    subst e1
    exact ⟨L, a, c, rfl, h3, h2⟩
end
end Go.Proofs.YtdhgopcfjomjaaaDoor
