/- Stage 21: rows of numbers that came in; what is too much. -/
import Derived.Test.YthcejnfnamhpfaaGreatExK
import Derived.Deep.OwnRows
import Derived.Test.YthcejnfnamhpfaaGreatExI
namespace Go.Proofs.YthcejnfnamhpfaaGreat
open Go.RowKit Go.Maps Go.WideMaps Go.Deep

/-- a list of rows of numbers from an address on -/
def RowsAt (w : World) (a : Option Addr) (L : List (List Int)) : Prop := ∀ i l, L[i]? = some l → ∃ b o ra rc, a = some ⟨b, o, none⟩ ∧ w.cell? ⟨b, o + i, none⟩ = some (.slice ra l.length rc) ∧ NumsAt w ra l ∧ l.length ≤ rc ∧ l.length ≤ maxLen ∧ ∀ y ∈ l, Bv.I64 y
theorem RowsAt.on {w w' : World} {a : Option Addr} {L : List (List Int)} (h : RowsAt w a L) (hg : w.grownBy w' none) : RowsAt w' a L := fun i l hi => by
  obtain ⟨b, o, ra, rc, e, h1, h2, h3⟩ := h i l hi
  exact ⟨b, o, ra, rc, e, hg.cell h1 (by simp), h2.on hg, h3⟩
theorem co_row : Tryz.prog.cellsOf 22 = 1 := by kernel_rfl
section
variable {H : Type} {enc : TypeId × Value → H} {W : World} {base : Nat} {sp : Nat → Bool} {held : Bool} {fuel : Nat} {cs : List Value} {x : DataW H × List MemPlace}
set_option maxRecDepth 100000 in
theorem rows_of (hf : DataW.trod enc Tryz.prog W base sp held fuel 26 cs = some x) :
    ∃ (a : Option Addr) (c : Nat) (L : List (List Int)), cs = [.slice a L.length c] ∧ L.length ≤ c ∧ L.length ≤ maxLen ∧ RowsAt W a L := by
  rcases open_slice Tryz.underlying26 hf with ⟨hcs, _⟩ | ⟨ad, n, c', m, f, D, Pl, hcs, hb, hl, hm, hmm, _, hx⟩
  · exact ⟨none, 0, [], by simpa using hcs, Nat.le_refl _, Nat.zero_le _, fun i x h => by simp at h⟩
  · have hlm : n ≤ m := by rw [hmm]; split <;> omega
    have each : ∀ i, i < m → ∃ q : Option Addr × Nat × List Int, W.cell? (ad.add i) = some (.slice q.1 q.2.2.length q.2.1) ∧ NumsAt W q.1 q.2.2 ∧ q.2.2.length ≤ q.2.1 ∧ q.2.2.length ≤ maxLen ∧ ∀ y ∈ q.2.2, Cd.I64 y := by
      intro i hi
      obtain ⟨cs', h1, h2⟩ := hx i hi
      rw [co_row] at h1
      obtain ⟨_, hlen, hcell⟩ := World.cells?_some h1
      obtain ⟨ra, rc, l, e1, e2, e3, e4, e5⟩ := nums_of h2
      subst e1
      have c0 := hcell 0 (by decide)
      rw [Nat.mul_one] at c0
      have e0 : (ad.add i).add 0 = ad.add i := by unfold Addr.add; split <;> simp_all
      refine ⟨(ra, rc, l), ?_, e4, e2, e3, e5⟩
      rw [e0] at c0
      simpa using c0
    haveI : Inhabited (Option Addr × Nat × List Int) := ⟨(none, 0, [])⟩
    obtain ⟨q, hq⟩ := choose_lt each
    have htl : ((List.range n).map fun i => (q i).2.2).length = n := by simp
    refine ⟨some ad, c', (List.range n).map fun i => (q i).2.2, by rw [htl]; exact hcs, by rw [htl]; exact hl, by rw [htl]; omega, fun i l hil => ?_⟩
    have hi : i < n := by
      have := (List.getElem?_eq_some_iff.1 hil).1
      rwa [htl] at this
    simp [hi] at hil
    subst hil
    obtain ⟨b, off, spot⟩ := ad
    obtain ⟨d0, d1, d2, d3, d4⟩ := hq i (by omega)
    have hc00 := (hq 0 (by omega)).1
    have hspot : spot = none := by
      have e0 : (⟨b, off, spot⟩ : Addr).add 0 = ⟨b, off, spot⟩ := by unfold Addr.add; split <;> simp_all
      rw [e0] at hc00
      simpa using World.cell?_spot hc00
    subst hspot
    rw [addr_at] at d0
    exact ⟨b, off, _, _, rfl, d0, d1, d2, d3, d4⟩
end

theorem xdT {p : Prop} [Decidable p] (h : p) : decide p = true := decide_eq_true h
theorem xdF {p : Prop} [Decidable p] (h : ¬ p) : decide p = false := decide_eq_false h
def bigB21 (c : Cd.Code) : Bool := decide (3000 < c.body.length) || decide (500 < c.kinds.length) || decide (500 < c.init.length)
set_option maxHeartbeats 1000000 in
theorem xbig19_any (w : World) (c : Cd.Code) (ka : Option Addr) (kc : Nat) (ia : Option Addr) (ic : Nat) (ba : Option Addr) (bc : Nat) (hs : c.kinds.length ≤ maxLen ∧ c.init.length ≤ maxLen ∧ c.body.length ≤ maxLen) :
    Calls Tryz.prog 8 #[.agg (codeV c ka kc ia ic ba bc)] w fun e w' => e = .returned (.bool (bigB21 c)) ∧ w.grownBy w' none := by
  obtain ⟨h1, h2, h3⟩ := hs
  have n1 : c.kinds.length ≤ 9223372036854775807 := by simpa [maxLen] using h1
  have n2 : c.init.length ≤ 9223372036854775807 := by simpa [maxLen] using h2
  have n3 : c.body.length ≤ 9223372036854775807 := by simpa [maxLen] using h3
  clear h1 h2 h3
  obtain ⟨R, hR⟩ : ∃ R, R = bigB21 c := ⟨_, rfl⟩
  rw [← hR]
  unfold bigB21 at hR
  unfold codeV
  generalize c.kinds.length = nk at *
  generalize c.init.length = ni at *
  generalize c.body.length = nb at *
  generalize c.ins = x1
  generalize c.outs = x2
  generalize c.cells = x3
  generalize c.stack = x4
  by_cases l1 : 3000 < nb
  · have e1 : decide ((3000 : Int) < (nb : Int)) = true := xdT (by omega)
    have HR : Hid (R = true) := Lib.hid (by rw [hR, xdT l1]; rfl)
    clear hR l1
    go_enter Tryz.func8, Tryz.ntmps8
    go_wp2
    go_ret
    exact ⟨(by rw [HR.out]; rfl), World.grownBy_alloc _ _ _⟩
  have e1 : decide ((3000 : Int) < (nb : Int)) = false := xdF (by omega)
  by_cases l2 : 500 < nk
  · have e2 : decide ((500 : Int) < (nk : Int)) = true := xdT (by omega)
    have HR : Hid (R = true) := Lib.hid (by rw [hR, xdT l2, xdF l1]; rfl)
    clear hR l1 l2
    go_enter Tryz.func8, Tryz.ntmps8
    go_wp2
    go_ret
    exact ⟨(by rw [HR.out]; rfl), World.grownBy_alloc _ _ _⟩
  have e2 : decide ((500 : Int) < (nk : Int)) = false := xdF (by omega)
  have e3 : decide ((500 : Int) < (ni : Int)) = decide (500 < ni) := by rw [decide_eq_decide]; omega
  have HR : Hid (R = decide (500 < ni)) := Lib.hid (by rw [hR, xdF l1, xdF l2]; rfl)
  clear hR l1 l2
  cases h : decide (500 < ni) with
  | true =>
    rw [h] at e3 HR
    clear h
    go_enter Tryz.func8, Tryz.ntmps8
    go_wp2
    go_ret
    exact ⟨(by rw [HR.out]; rfl), World.grownBy_alloc _ _ _⟩
  | false =>
    rw [h] at e3 HR
    clear h
    go_enter Tryz.func8, Tryz.ntmps8
    go_wp2
    go_ret
    exact ⟨(by rw [HR.out]; rfl), World.grownBy_alloc _ _ _⟩

/-- what Big counts, as it counts -/
def bg : List (List Int) → Int → Int
  | [], z => z
  | l :: r, z => if z ≤ 2000 then bg r (wrap64 (wrap64 (z + 1) + l.length)) else z
theorem bg_over {L : List (List Int)} {z : Int} (h : ¬ z ≤ 2000) : bg L z = z := by
  cases L with
  | nil => rfl
  | cons l r => rw [bg, if_neg h]
theorem bg_step {L : List (List Int)} {t : Nat} {l : List Int} {z : Int} (hl : L[t]? = some l) (h : z ≤ 2000) : bg (L.drop t) z = bg (L.drop (t + 1)) (wrap64 (wrap64 (z + 1) + l.length)) := by
  have ht := (List.getElem?_eq_some_iff.1 hl)
  rw [List.drop_eq_getElem_cons ht.1, ht.2, bg, if_pos h]
/-- are ticks too much -/
def bigR (L : List (List Int)) : Bool := decide (2000 < bg L 0)
set_option maxHeartbeats 1000000 in
theorem big11_any (w : World) (a : Option Addr) (L : List (List Int)) (cap : Nat) (h : RowsAt w a L) (hm : L.length ≤ maxLen) :
    Calls Tryz.prog 9 #[.slice a L.length cap] w fun e w' => e = .returned (.bool (bigR L)) ∧ w' = w := by
  have HL := Lib.hid h
  have hm63 : L.length ≤ 9223372036854775807 := by simpa [maxLen] using hm
  obtain ⟨N, hN⟩ : ∃ N, N = L.length := ⟨_, rfl⟩
  rw [← hN] at hm63 ⊢
  have HN := Lib.hid hN
  obtain ⟨R, hR⟩ : ∃ R, R = bigR L := ⟨_, rfl⟩
  rw [← hR]
  have HR := Lib.hid hR
  clear hN h hm hR
  go_enter Tryz.func9, Tryz.ntmps9
  go_wp2
  go_loopw [3, 4] (fun nv iv wr => ∃ (t : Nat) (z : Int), t ≤ N ∧ nv = .int .i64 z ∧ iv = .int .i64 (t : Int) ∧ wr = w ∧ Hid (bg (L.drop t) z = bg L 0)) (fun _ iv _ => N - (intOf iv).toNat)
  case atStart => exact ⟨0, 0, Nat.zero_le _, rfl, rfl, rfl, Lib.hid rfl⟩
  case round =>
    obtain ⟨t, z, ht, rfl, rfl, hwr, HB⟩ := hrel
    obtain rfl := hwr.symm
    by_cases hlt : t < N
    · obtain ⟨l, hx⟩ : ∃ l, L[t]? = some l := ⟨_, List.getElem?_eq_getElem (by rw [← HN.out]; exact hlt)⟩
      obtain ⟨b, o, ra, rc, rfl, p1, _, _, p2, _⟩ := HL.out t l hx
      have p3 : l.length ≤ 9223372036854775807 := by simpa [maxLen] using p2
      by_cases hz : z ≤ 2000
      · have HS := Lib.hid (bg_step hx hz)
        generalize l.length = ll at *
        clear hx p2
        go_wp2
        exact ⟨⟨t + 1, _, by omega, rfl, by go_num, by first | rfl | trivial, Lib.hid (by rw [← HS.out]; exact HB.out)⟩, by simp [intOf]; omega⟩
      · have hz2 : decide (2000 < z) = true := by simp; omega
        have HF : Hid (R = true) := Lib.hid (by rw [HR.out]; unfold bigR; rw [← HB.out, bg_over hz]; simp; omega)
        clear hx p1 p2
        go_wp2
        go_ret
        exact ⟨by rw [HF.out]; rfl, by first | rfl | trivial⟩
    · obtain rfl : t = N := by omega
      have HF : Hid (R = decide (2000 < z)) := Lib.hid (by
        rw [HR.out]
        unfold bigR
        rw [← HB.out, HN.out, List.drop_length]
        rfl)
      go_wp2
      go_ret
      exact ⟨by rw [HF.out]; rfl, by first | rfl | trivial⟩
/-- append([]api.Ins(nil), l...) -/
theorem app_inss (w : World) (B : Nat) (hB : B ≤ w.heap.size) (la : Option Addr) (lc : Nat) (l : List Cd.Ins) (h : InssAt w la l) (hn : l.length ≤ 1000000) (ty : TypeId) :
    ∃ v w', (Builtin.append_ #[23, 23] ty #[.slice none 0 0, .slice la l.length lc]).run Tryz.prog w = .ok v w' ∧ w'.ownsRow B 56 3 v l.length (insC l) ∧ w.grownBy w' none := by
  obtain ⟨it, hit, hz, hsz, hby⟩ := info_parts info_x
  cases la with
  | none =>
    have hl := h.is_nil
    subst hl
    refine ⟨.slice none 0 0, w, ?_, World.ownsRow_nil _ _ _ _, World.grownBy.refl _ _⟩
    simp [Builtin.append_, run_underlying Tryz.underlying23, sizeOf, typeInfo, hit, Builtin.lenOf, Builtin.firstCells]
  | some ad =>
    obtain ⟨v', w', q1, q2, q3, _⟩ := run_append_own (P := Tryz.prog) w B 23 ty 56 it _ 3 24 Tryz.underlying23 hit hz hsz hby rfl (by decide) (.slice none 0 0) 0 [] (World.ownsRow_nil _ _ _ _) ad l.length lc (insC l) (insC_len l) h.adds (insC_one l) (by unfold maxLen; omega) (by omega) hB
    rw [Nat.zero_add, List.nil_append] at q2
    exact ⟨v', w', q1, q2, q3⟩
theorem wp_app_inss {o : Oper} {a : Act} {K : Act → World → Prop} {Q : Exit → Act → World → Prop} (w : World) (x : Operand)
    (ho : o.op = .call { callee := .builtin .append, args := #[.const (.slice none 0 0), x], argTypes := #[23, 23] }) (B : Nat) (hB : B ≤ w.heap.size)
    (la : Option Addr) (lc : Nat) (l : List Cd.Ins) (hx : a.eval x = .slice la l.length lc) (hl : InssAt w la l) (hn : l.length ≤ 1000000)
    (h : ∀ v' w', w'.ownsRow B 56 3 v' l.length (insC l) → w.grownBy w' none → K (a.put o.dst v') w') : o.wp Tryz.prog a w K Q := by
  obtain ⟨v', w', hr, h2, h3⟩ := app_inss w B hB la lc l hl hn o.type
  have hs : a.eval (.const (.slice none 0 0)) = .slice none 0 0 := rfl
  unfold Oper.wp execOp
  simp only [ho, resolve, invoke, builtin, Sem.run_bind, Sem.run_pure, Result.andThen_ok, List.map_toArray, List.map_cons, List.map_nil, hs, hx, hr]
  exact h v' w' h2 h3
section
variable {B : Nat} {w w' : World} {m : Nat} {c : Cd.Code} {cells : List Int} {iv nv kv bv : Value} {X : List Nat}
/-- apart from the blocks X -/
def Apx (X : List Nat) (v : Value) : Prop := ∀ k, v.ownBlock = some k → k ∉ X
theorem MachR.kp (h : MachR B w m c cells iv nv kv bv) (hk : Kp X w w') (hm : m ∉ X) (h1 : Apx X iv) (h2 : Apx X nv) (h3 : Apx X kv) (h4 : Apx X bv) : MachR B w' m c cells iv nv kv bv :=
  ⟨(hk.block m (gl h.row) hm).trans h.row, h.mb, owns_on h.init (fun k e => hk.block k (h.init.lt k e).2 (h1 k e)), owns_on h.now (fun k e => hk.block k (h.now.lt k e).2 (h2 k e)), owns_on h.kinds (fun k e => hk.block k (h.kinds.lt k e).2 (h3 k e)), owns_on h.body (fun k e => hk.block k (h.body.lt k e).2 (h4 k e)), h.ni, h.nn, h.nk, h.nb, h.cl, h.ci⟩
theorem RMachR.kp {W : World} {ka ia ba : Option Addr} {kc ic bc : Nat} {cv : Value} (h : RMachR W B w m c cells ka kc ia ic ba bc cv) (hk : Kp X w w') (hm : m ∉ X) (h2 : Apx X cv) (hX : ∀ k ∈ X, W.heap.size ≤ k) : RMachR W B w' m c cells ka kc ia ic ba bc cv :=
  ⟨Kp.grown h.hW hk hX, h.cd, (hk.block m (gl h.row) hm).trans h.row, h.mb, owns_on h.now (fun k e => hk.block k (h.now.lt k e).2 (h2 k e)), h.nn, h.cl, h.ci⟩
theorem Apx.below {T : TypeId} {z n : Nat} {v : Value} {xs : List Value} (h : w.ownsRow B T z v n xs) (hX : ∀ k ∈ X, k < B ∨ w.heap.size ≤ k) : Apx X v := fun k e hk => by
  have h1 := h.lt k e
  rcases hX k hk with h2 | h2 <;> omega
theorem Apx.next {v v' : Value} (h : Apx X v) (hX : ∀ k ∈ X, k < w.heap.size) (hn : v' = v ∨ ∀ k, v'.ownBlock = some k → w.heap.size ≤ k) : Apx X v' := by
  rcases hn with rfl | hn
  · exact h
  · exact fun k e hk => by have h1 := hn k e; have h2 := hX k hk; omega
end
end Go.Proofs.YthcejnfnamhpfaaGreat
