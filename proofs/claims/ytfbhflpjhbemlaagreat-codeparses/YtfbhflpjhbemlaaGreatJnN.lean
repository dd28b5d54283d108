/- Texts joined: CuJ, CuM, CuN, CuO, CuP, CuQ, CeR. -/
import Derived.Test.YtfbhflpjhbemlaaGreatCuI
import Derived.Test.YtfbhflpjhbemlaaGreatJnG
import Derived.Test.YtfbhflpjhbemlaaGreatJnH
/- Stage 19: metronomeref19.Check is the chapter's. -/
namespace Go.Proofs.YtfbhflpjhbemlaaGreat
open Go.RowKit Go.Maps Go.WideMaps

theorem rcheck_any (w : World) (c : Cd.Code) (ka : Option Addr) (kc : Nat) (ia : Option Addr) (ic : Nat) (ba : Option Addr) (bc : Nat) (hc : CodeAt w c ka ia ba) (hs : I64s c) :
    Calls Tryz.prog 27 #[.agg (codeV c ka kc ia ic ba bc)] w fun e w' => e = .returned (.int .i64 (Cd.check c)) ∧ w.grownBy w' none := by
  by_cases hl : 60000 < c.body.length ∨ 8000 < c.kinds.length ∨ 64 < c.stack
  · exact rcheck_long w c ka kc ia ic ba bc ⟨hs.2.2.2.2.2.2.2.1, hs.2.2.2.2.2.2.2.2.2⟩ hl
  · by_cases hcn : Cnt c
    · exact rcheck_main w c ka kc ia ic ba bc hl hcn hc
    · exact rcheck_counts w c ka kc ia ic ba bc hl hcn
end Go.Proofs.YtfbhflpjhbemlaaGreat

/- Stage 19: bytes appended to bytes of one's own (for metronomeref19.Write). -/
namespace Go.Proofs.YtfbhflpjhbemlaaGreat
open Go.RowKit Go.Maps Go.WideMaps

theorem Ow.on {w w' : World} {B : Nat} {v : Value} {p : List UInt8} (h : Ow w B v p) (hg : w.grownBy w' none) : Ow w' B v p := by
  rcases h with h | ⟨g, h0, h1, h2, h3⟩
  · exact .inl (h.kept hg (by cases hv : v.ownBlock <;> simp))
  · refine .inr ⟨g, h0, h1, Nat.lt_of_lt_of_le h2 hg.size, fun i b hb => ?_⟩
    obtain ⟨g', o', e, hc⟩ := h3 i b hb
    exact ⟨g', o', e, hg.cell hc (by simp)⟩
theorem An.on {W0 w w' : World} {na : Option Addr} {l : List Int} {v : Value} {p : List UInt8} (h : An W0 w na l v p) (hg : w.grownBy w' none) : An W0 w' na l v p := ⟨h.grown.trans hg, h.own.on hg, h.nums.on hg, h.ne⟩
theorem byteC_one (q : List UInt8) : ∀ u ∈ byteC q, u.oneCell' = true := fun u hu => by
  unfold byteC at hu
  obtain ⟨b, -, rfl⟩ := List.mem_map.1 hu
  rfl
theorem byteC_app (p q : List UInt8) : byteC p ++ byteC q = byteC (p ++ q) := by unfold byteC; simp
/-- q, which was made behind w, behind p -/
theorem run_append_bytes {W0 w w1 : World} {na : Option Addr} {l : List Int} {v u : Value} {p q : List UInt8} (h : An W0 w na l v p) (hg1 : w.grownBy w1 none) (hq : q ≠ []) (hu : w1.ownsRow w.heap.size 5 1 u q.length (byteC q)) (hl : p.length + q.length ≤ 1000000000) (ty : TypeId) :
    ∃ v' w3, (Builtin.append_ #[22, 22] ty #[v, u]).run Tryz.prog w1 = .ok v' w3 ∧ An W0 w3 na l v' (p ++ q) ∧ w3.ownsRow W0.heap.size 5 1 v' (p ++ q).length (byteC (p ++ q)) ∧ w1.grownBy w3 v.ownBlock ∧ (v'.ownBlock = v.ownBlock ∨ ∃ k, v'.ownBlock = some k ∧ w1.heap.size ≤ k) := by
  obtain ⟨i0, hi, hz0, hzs, hzb⟩ := info_parts info_u8
  have hW1 : W0.heap.size ≤ w1.heap.size := Nat.le_trans h.grown.size hg1.size
  have h1 := h.on hg1
  -- where q lies
  rcases hu.2 with ⟨_, h0⟩ | ⟨g, cap, cur, rfl, hB, hh, c1, c2, c3, c4⟩
  · exact absurd (List.eq_nil_of_length_eq_zero h0) hq
  have hnews : ∀ j x, (byteC q)[j]? = some x → w1.cell? ((⟨g, 0, none⟩ : Addr).add j) = some x := hu.cells (g := g) rfl
  have hlq : (byteC q).length = q.length * 1 := by unfold byteC; simp
  -- the append
  have key : ∃ v' w3, (Builtin.append_ #[22, 22] ty #[v, .slice (some ⟨g, 0, none⟩) q.length cap]).run Tryz.prog w1 = .ok v' w3 ∧ w3.ownsRow W0.heap.size 5 1 v' (p.length + q.length) (byteC p ++ byteC q) ∧ w1.grownBy w3 v.ownBlock ∧ (v'.ownBlock = v.ownBlock ∨ ∃ k, v'.ownBlock = some k ∧ w1.heap.size ≤ k) := by
    rcases h1.own with ho | ⟨g', rfl, k1, k2, k3⟩
    · obtain ⟨v', w3, r1, r2, r3, _, r5⟩ := run_append_own_at (P := Tryz.prog) w1 W0.heap.size 22 ty 5 i0 _ 1 1 Tryz.underlying22 hi hz0 hzs hzb rfl (by decide) v p.length (byteC p) ho ⟨g, 0, none⟩ q.length cap (byteC q) hlq hnews (byteC_one q) (by unfold maxLen; omega) (by omega) hW1
      refine ⟨v', w3, r1, r2, r3, ?_⟩
      rcases r5 with r5 | r5
      · exact .inl r5
      · exact .inr ⟨_, r5, Nat.le_refl _⟩
    · have hqp : 0 < q.length := Nat.pos_of_ne_zero (fun e => hq (List.eq_nil_of_length_eq_zero e))
      obtain ⟨v', w3, r1, r2, r3⟩ := run_append_arg_grows (P := Tryz.prog) w1 22 ty 5 i0 _ 1 1 Tryz.underlying22 hi hz0 hzs hzb rfl (by decide) ⟨g', 0, none⟩ p.length p.length (byteC p) (by unfold byteC; simp) (bytes_at_byteC k3) ⟨g, 0, none⟩ q.length cap (byteC q) hlq hnews (by omega) (by unfold maxLen; omega) (by omega)
      refine ⟨v', w3, r1, owns_base r2 hW1, ⟨r3.os, r3.tape, r3.output, r3.size, fun k hk _ => r3.block k hk (by simp)⟩, .inr ?_⟩
      rcases r2.2 with ⟨_, h0⟩ | ⟨g2, cap2, cur2, rfl, h5, _⟩
      · omega
      · exact ⟨g2, rfl, h5⟩
  obtain ⟨v', w3, r1, r2, r3, r4⟩ := key
  rw [byteC_app, ← List.length_append] at r2
  refine ⟨v', w3, r1, ⟨grown_over h1.grown r3 (fun k e => (h1.own.lt k e).1), .inl r2, fun i n hi' => ?_, fun b o' e hl' => ?_⟩, r2, r3, r4⟩
  · obtain ⟨b, o', e, hc⟩ := h1.nums i n hi'
    have hne := h1.ne b o' e (fun e2 => by rw [e2] at hi'; simp at hi')
    exact ⟨b, o', e, r3.cell hc (fun e2 => hne e2.symm)⟩
  · rcases r4 with e2 | ⟨k, e2, hk⟩
    · rw [e2]; exact h1.ne b o' e hl'
    · rw [e2]
      cases l with
      | nil => exact absurd rfl hl'
      | cons a l =>
        obtain ⟨b2, o2, e3, hc⟩ := h1.nums 0 a rfl
        rw [e] at e3
        cases e3
        have := lt_of_cell? hc
        intro e4
        have := Option.some.inj e4
        omega
theorem wp_append_bytes {W0 w w1 : World} {na : Option Addr} {l : List Int} {v u : Value} {p q : List UInt8} {o : Oper} {a : Act} {K : Act → World → Prop} {Q : Exit → Act → World → Prop} (s x : Operand)
    (ho : o.op = .call { callee := .builtin .append, args := #[s, x], argTypes := #[22, 22] }) (h : An W0 w na l v p) (hg1 : w.grownBy w1 none) (hq : q ≠ []) (hu : w1.ownsRow w.heap.size 5 1 u q.length (byteC q)) (hl : p.length + q.length ≤ 1000000000) (hs : a.eval s = v) (hx : a.eval x = u)
    (hK : ∀ v' w3, An W0 w3 na l v' (p ++ q) → w3.ownsRow W0.heap.size 5 1 v' (p ++ q).length (byteC (p ++ q)) → w1.grownBy w3 v.ownBlock → (v'.ownBlock = v.ownBlock ∨ ∃ k, v'.ownBlock = some k ∧ w1.heap.size ≤ k) → K (a.put o.dst v') w3) : o.wp Tryz.prog a w1 K Q := by
  obtain ⟨v', w3, hr, h2, h3, h4, h5⟩ := run_append_bytes h hg1 hq hu hl o.type
  unfold Oper.wp execOp
  simp only [ho, resolve, invoke, builtin, Sem.run_bind, Sem.run_pure, Result.andThen_ok, List.map_toArray, List.map_cons, List.map_nil, hs, hx, hr]
  exact hK v' w3 h2 h3 h4 h5
theorem wpList_append_bytes {W0 w w1 : World} {na : Option Addr} {l : List Int} {v u : Value} {p q : List UInt8} {ops : Array Oper} {rest : List Oper} {o : Oper} {a : Act} {Q : Exit → Act → World → Prop} (hgd : o.guard = none) (s x : Operand)
    (ho : o.op = .call { callee := .builtin .append, args := #[s, x], argTypes := #[22, 22] }) (h : An W0 w na l v p) (hg1 : w.grownBy w1 none) (hq : q ≠ []) (hu : w1.ownsRow w.heap.size 5 1 u q.length (byteC q)) (hl : p.length + q.length ≤ 1000000000) (hs : a.eval s = v) (hx : a.eval x = u)
    (hK : ∀ v' w3, An W0 w3 na l v' (p ++ q) → w3.ownsRow W0.heap.size 5 1 v' (p ++ q).length (byteC (p ++ q)) → wpList Tryz.prog ops Q rest (a.put o.dst v') w3) : wpList Tryz.prog ops Q (o :: rest) a w1 :=
  wpList_plain hgd fun _ hK' => wp_append_bytes s x ho h hg1 hq hu hl hs hx fun v' w3 h2 h3 _ _ => hK' _ _ (hK v' w3 h2 h3)
end Go.Proofs.YtfbhflpjhbemlaaGreat

/- Stage 19: numbers appended to numbers of one's own; three appends in a region that draws its order (for metronomeref19.Write). -/
namespace Go.Proofs.YtfbhflpjhbemlaaGreat
open Go.RowKit Go.Maps Go.WideMaps

theorem run_app_ints {B : Nat} {w : World} {v : Value} {l q : List Int} {la : Option Addr} {lc : Nat} (hown : w.ownsRow B 3 1 v l.length (l.map (Value.int .i64))) (hq : NumsAt w la q) (hl : l.length + q.length ≤ 1000000) (hB : B ≤ w.heap.size) (ty : TypeId) :
    ∃ v' w', (Builtin.append_ #[24, 24] ty #[v, .slice la q.length lc]).run Tryz.prog w = .ok v' w' ∧ w'.ownsRow B 3 1 v' (l ++ q).length ((l ++ q).map (Value.int .i64)) ∧ w.grownBy w' v.ownBlock ∧ (v'.ownBlock = v.ownBlock ∨ v'.ownBlock = some w.heap.size) := by
  obtain ⟨it, hit, hz, hsz, hby⟩ := info_parts info_i
  cases la with
  | none =>
    have hq0 : q = [] := by
      cases q with
      | nil => rfl
      | cons x r => obtain ⟨g, o, e, _⟩ := hq 0 x (by simp); cases e
    subst hq0
    refine ⟨v, w, ?_, by simpa using hown, World.grownBy.refl _ _, .inl rfl⟩
    rcases hown.2 with ⟨rfl, h0⟩ | ⟨g, cap, cur, rfl, _, _, hnc, _⟩
    · simp [Builtin.append_, run_underlying Tryz.underlying24, sizeOf, typeInfo, hit, Builtin.lenOf, Builtin.firstCells]
    · simp [Builtin.append_, run_underlying Tryz.underlying24, sizeOf, typeInfo, hit, Builtin.lenOf, Builtin.firstCells, hnc, storeCells]
  | some ad =>
    obtain ⟨v', w', q1, q2, q3, _, q5⟩ := run_append_own_at (P := Tryz.prog) w B 24 ty 3 it _ 1 8 Tryz.underlying24 hit hz hsz hby rfl (by decide) v l.length (l.map (Value.int .i64)) hown ad q.length lc (q.map (Value.int .i64)) (by simp) hq.adds (numC_one q) (by unfold maxLen; omega) (by omega) hB
    exact ⟨v', w', q1, by simpa using q2, q3, q5⟩
theorem wp_app_ints {B : Nat} {w : World} {v : Value} {l q : List Int} {la : Option Addr} {lc : Nat} {o : Oper} {a : Act} {K : Act → World → Prop} {Q : Exit → Act → World → Prop} (s x : Operand)
    (ho : o.op = .call { callee := .builtin .append, args := #[s, x], argTypes := #[24, 24] }) (hown : w.ownsRow B 3 1 v l.length (l.map (Value.int .i64))) (hq : NumsAt w la q) (hl : l.length + q.length ≤ 1000000) (hB : B ≤ w.heap.size) (hs : a.eval s = v) (hx : a.eval x = .slice la q.length lc)
    (h : ∀ v' w', w'.ownsRow B 3 1 v' (l ++ q).length ((l ++ q).map (Value.int .i64)) → w.grownBy w' v.ownBlock → (v'.ownBlock = v.ownBlock ∨ v'.ownBlock = some w.heap.size) → K (a.put o.dst v') w') : o.wp Tryz.prog a w K Q := by
  obtain ⟨v', w', hr, h2, h3, h4⟩ := run_app_ints (lc := lc) hown hq hl hB o.type
  unfold Oper.wp execOp
  simp only [ho, resolve, invoke, builtin, Sem.run_bind, Sem.run_pure, Result.andThen_ok, List.map_toArray, List.map_cons, List.map_nil, hs, hx, hr]
  exact h v' w' h2 h3 h4
/-- numbers that lie below B stay -/
def Lo (B : Nat) (w : World) (a : Option Addr) (l : List Int) : Prop := NumsAt w a l ∧ ∀ b o, a = some ⟨b, o, none⟩ → l ≠ [] → b < B
theorem Lo.on {B : Nat} {w w' : World} {a : Option Addr} {l : List Int} (h : Lo B w a l) (hb : Below B w w') : Lo B w' a l := ⟨fun i n hi => by
  obtain ⟨b, o, e, hc⟩ := h.1 i n hi
  exact ⟨b, o, e, (hb.cell (h.2 b o e (fun e2 => by rw [e2] at hi; simp at hi))).trans hc⟩, h.2⟩
theorem Below.none {B : Nat} {w w' : World} (h : w.grownBy w' none) (hB : B ≤ w.heap.size) : Below B w w' := (Below.refl B w).grown h hB (fun k e => by cases e)
theorem Below.own {B : Nat} {w w' : World} {T : TypeId} {z n : Nat} {v : Value} {xs : List Value} (h : w.grownBy w' v.ownBlock) (ho : w.ownsRow B T z v n xs) (hB : B ≤ w.heap.size) : Below B w w' := (Below.refl B w).grown h hB (fun k e => (ho.lt k e).1)

section
variable {ops : Array Oper} {Q : Exit → Act → World → Prop} {md : Region.Mode} {S : World → Prop} {Z : List Nat}
/-- append(append(append(v, q1...), q2...), n): the row of n comes anywhere ahead of the last -/
theorem wpL_app3 {i j k m d1 d2 d3 d4 : Nat} {f : Nat} {l : Array Bool} {a : Act} {w : World} {sv x1 x2 : Operand} {oi oj ok om : Oper} {a1 a2 : Option Addr} {c1 c2 : Nat} {L q1 q2 : List Int} {n : Int} {v : Value} {B : Nat}
    (hra : Region.ready md ops l = [i, k] := by kernel_rfl) (hri : Region.ready md ops (l.setIfInBounds i true) = [j, k] := by kernel_rfl) (hrk : Region.ready md ops (l.setIfInBounds k true) = [i] := by kernel_rfl)
    (hrij : Region.ready md ops ((l.setIfInBounds i true).setIfInBounds j true) = [k] := by kernel_rfl) (hrik : Region.ready md ops ((l.setIfInBounds i true).setIfInBounds k true) = [j] := by kernel_rfl) (hrall : Region.ready md ops (((l.setIfInBounds i true).setIfInBounds j true).setIfInBounds k true) = [m] := by kernel_rfl)
    (hi : ops[i]? = some oi := by exact rfl) (hj : ops[j]? = some oj := by exact rfl) (hk : ops[k]? = some ok := by exact rfl) (hm : ops[m]? = some om := by exact rfl) (hne : i ≠ k ∧ j ≠ k ∧ d1 ≠ d3 ∧ d2 ≠ d3 := by decide)
    (hg : (oi.guard.isNone && oj.guard.isNone && ok.guard.isNone && om.guard.isNone && (oi.dst == some d1) && (oj.dst == some d2) && (ok.dst == some d3) && (om.dst == some d4)) = true := by kernel_rfl)
    (ho1 : oi.op = .call { callee := .builtin .append, args := #[sv, x1], argTypes := #[24, 24] } := by exact rfl) (ho2 : oj.op = .call { callee := .builtin .append, args := #[.tmp d1, x2], argTypes := #[24, 24] } := by exact rfl)
    (ho4 : om.op = .call { callee := .builtin .append, args := #[.tmp d2, .tmp d3], argTypes := #[24, 24] } := by exact rfl)
    (hx1 : a.eval sv = v ∧ a.eval x1 = .slice a1 q1.length c1) (hx1k : ∀ u, (a.put (some d3) u).eval sv = v ∧ (a.put (some d3) u).eval x1 = .slice a1 q1.length c1)
    (hx2 : ∀ v1, (a.put (some d1) v1).eval (.tmp d1) = v1 ∧ (a.put (some d1) v1).eval x2 = .slice a2 q2.length c2) (hx2k : ∀ v1 u, ((a.put (some d1) v1).put (some d3) u).eval (.tmp d1) = v1 ∧ ((a.put (some d1) v1).put (some d3) u).eval x2 = .slice a2 q2.length c2)
    (hb0 : ∀ W, (execOp a.eval ok).run Tryz.prog W = .ok (.value (.slice (some ⟨W.heap.size, 0, none⟩) 1 1)) (W.alloc (.cells #[.int .i64 n] 3)))
    (hb1 : ∀ v1 W, (execOp (a.put (some d1) v1).eval ok).run Tryz.prog W = .ok (.value (.slice (some ⟨W.heap.size, 0, none⟩) 1 1)) (W.alloc (.cells #[.int .i64 n] 3)))
    (hb2 : ∀ v1 v2 W, (execOp ((a.put (some d1) v1).put (some d2) v2).eval ok).run Tryz.prog W = .ok (.value (.slice (some ⟨W.heap.size, 0, none⟩) 1 1)) (W.alloc (.cells #[.int .i64 n] 3)))
    (he : ∀ v1 v2 u, (((a.put (some d1) v1).put (some d2) v2).put (some d3) u).eval (.tmp d2) = v2 ∧ (((a.put (some d1) v1).put (some d2) v2).put (some d3) u).eval (.tmp d3) = u)
    (hown : w.ownsRow B 3 1 v L.length (L.map (Value.int .i64))) (hq1 : Lo B w a1 q1) (hq2 : Lo B w a2 q2) (hn : L.length + q1.length + q2.length + 1 ≤ 1000000) (hB : B ≤ w.heap.size) (hS : ∀ w', Below B w w' → S w')
    (h : ∀ v1 v2 v3 v4 w', Below B w w' → w'.ownsRow B 3 1 v4 (L ++ q1 ++ q2 ++ [n]).length ((L ++ q1 ++ q2 ++ [n]).map (Value.int .i64)) → wpL Tryz.prog md ops Q S Z f ((((l.setIfInBounds i true).setIfInBounds j true).setIfInBounds k true).setIfInBounds m true) ((((a.put (some d1) v1).put (some d2) v2).put (some d3) v3).put (some d4) v4) w') :
    wpL Tryz.prog md ops Q S Z (f + 1 + 1 + 1 + 1) l a w := by
  simp only [Bool.and_eq_true, beq_iff_eq, Option.isNone_iff_eq_none] at hg
  obtain ⟨⟨⟨⟨⟨⟨⟨g1, g2⟩, g3⟩, g4⟩, e1⟩, e2⟩, e3⟩, e4⟩ := hg
  obtain ⟨n1, n2, n3, n4⟩ := hne
  have wt : ∀ (o : Oper) (y : Array Value), o.guard = none → Region.wanted o (yielded ops y) = true := fun o y hg => by simp [Region.wanted, hg]
  have fin : ∀ v1 v2 A X, Below B w X → X.ownsRow B 3 1 v2 (L ++ q1 ++ q2).length ((L ++ q1 ++ q2).map (Value.int .i64)) → X.cell? ⟨A, 0, none⟩ = some (.int .i64 n) →
      wpL Tryz.prog md ops Q S Z (f + 1) (((l.setIfInBounds i true).setIfInBounds j true).setIfInBounds k true) (((a.put (some d1) v1).put (some d2) v2).put (some d3) (.slice (some ⟨A, 0, none⟩) 1 1)) X := fun v1 v2 A X hX ho hA => by
    refine wpL_one hrall (wpOp_now hm (wt _ _ g4) (fun K' hK => ?_))
    have hBX := Nat.le_trans hB hX.size
    refine wp_app_one X _ _ ho4 B hBX v2 (L ++ q1 ++ q2) (he _ _ _).1 ho A n (he _ _ _).2 hA (by simp; omega) (fun v4 X4 ho4' hg4 => ?_)
    have h4 := hX.trans (Below.own hg4 ho hBX)
    refine hK _ _ ⟨fun _ => hS _ h4, ?_⟩
    rw [e4]
    exact h v1 v2 _ v4 X4 h4 ho4'
  have rowOf : ∀ X : World, (X.alloc (.cells #[.int .i64 n] 3)).cell? ⟨X.heap.size, 0, none⟩ = some (.int .i64 n) := fun X => by rw [cell_of_row _ _ 0 _ _ _ (heap_alloc_new X _)]; rfl
  -- behind the first append, the row not made yet
  have mid : ∀ v1 X, Below B w X → X.ownsRow B 3 1 v1 (L ++ q1).length ((L ++ q1).map (Value.int .i64)) → wpL Tryz.prog md ops Q S Z (f + 1 + 1 + 1) (l.setIfInBounds i true) (a.put (some d1) v1) X := fun v1 X hX ho => by
    have hBX := Nat.le_trans hB hX.size
    refine wpL_both hri ?_ ?_
    · refine wpOp_now hj (wt _ _ g2) (fun K' hK => ?_)
      refine wp_app_ints _ _ ho2 ho (hq2.on hX).1 (by simp; omega) hBX (hx2 _).1 (hx2 _).2 (fun v2 X2 ho2' hg2 _ => ?_)
      have h2 := hX.trans (Below.own hg2 ho hBX)
      refine hK _ _ ⟨fun _ => hS _ h2, ?_⟩
      rw [e2]
      have hB2 := Nat.le_trans hB h2.size
      have h3 := h2.trans (Below.none (World.grownBy_alloc X2 (.cells #[.int .i64 n] 3) none) hB2)
      refine wpL_val hrij hk e3 (wt _ _ g3) (hb2 _ _ X2) (hS _ h3) ?_
      exact fin v1 v2 X2.heap.size _ h3 (ho2'.kept (World.grownBy_alloc X2 (.cells #[.int .i64 n] 3) none) (by cases hv : v2.ownBlock <;> simp)) (rowOf X2)
    · have h3 := hX.trans (Below.none (World.grownBy_alloc X (.cells #[.int .i64 n] 3) none) hBX)
      refine wpOp_val hk e3 (wt _ _ g3) (hb1 _ X) ⟨fun _ => hS _ h3, ?_⟩
      have hlt : X.heap.size < (X.alloc (.cells #[.int .i64 n] 3)).heap.size := by rw [World.size_alloc]; exact Nat.lt_succ_self _
      have hox := ho.kept (World.grownBy_alloc X (.cells #[.int .i64 n] 3) none) (by cases hv : v1.ownBlock <;> simp)
      refine wpL_one hrik (wpOp_now hj (wt _ _ g2) (fun K' hK => ?_))
      refine wp_app_ints _ _ ho2 hox (hq2.on h3).1 (by simp; omega) (Nat.le_trans hB h3.size) (hx2k _ _).1 (hx2k _ _).2 (fun v2 X2 ho2' hg2 _ => ?_)
      have h2 := h3.trans (Below.own hg2 hox (Nat.le_trans hB h3.size))
      refine hK _ _ ⟨fun _ => hS _ h2, ?_⟩
      rw [e2]
      have hcm : ((a.put (some d1) v1).put (some d3) (.slice (some ⟨X.heap.size, 0, none⟩) 1 1)).put (some d2) v2 = ((a.put (some d1) v1).put (some d2) v2).put (some d3) (.slice (some ⟨X.heap.size, 0, none⟩) 1 1) := by
        simp only [Act.put]
        rw [Array.setIfInBounds_comm _ _ n4]
      rw [hcm, Array.setIfInBounds_comm _ _ (Ne.symm n2)]
      have hne : v1.ownBlock ≠ some X.heap.size := fun e => by have := (ho.lt _ e).2; omega
      exact fin v1 v2 X.heap.size X2 h2 ho2' (hg2.cell (rowOf X) (fun e => hne e.symm))
  refine wpL_both hra ?_ ?_
  · refine wpOp_now hi (wt _ _ g1) (fun K' hK => ?_)
    refine wp_app_ints _ _ ho1 hown hq1.1 (by omega) hB hx1.1 hx1.2 (fun v1 X ho hg _ => ?_)
    have hX := Below.own hg hown hB
    refine hK _ _ ⟨fun _ => hS _ hX, ?_⟩
    rw [e1]
    exact mid v1 X hX ho
  · have h0 := Below.none (World.grownBy_alloc w (.cells #[.int .i64 n] 3) none) hB
    refine wpOp_val hk e3 (wt _ _ g3) (hb0 w) ⟨fun _ => hS _ h0, ?_⟩
    have hox := hown.kept (World.grownBy_alloc w (.cells #[.int .i64 n] 3) none) (by cases hv : v.ownBlock <;> simp)
    refine wpL_one hrk (wpOp_now hi (wt _ _ g1) (fun K' hK => ?_))
    refine wp_app_ints _ _ ho1 hox (hq1.on h0).1 (by omega) (Nat.le_trans hB h0.size) (hx1k _).1 (hx1k _).2 (fun v1 X ho hg hat => ?_)
    have hX := h0.trans (Below.own hg hox (Nat.le_trans hB h0.size))
    refine hK _ _ ⟨fun _ => hS _ hX, ?_⟩
    rw [e1]
    have hne : v.ownBlock ≠ some w.heap.size := fun e => by have := (hown.lt _ e).2; omega
    have hrow := hg.cell (rowOf w) (fun e => hne e.symm)
    have hwX : w.heap.size < X.heap.size := by have := hg.size; rw [World.size_alloc] at this; omega
    have hcm : (a.put (some d3) (.slice (some ⟨w.heap.size, 0, none⟩) 1 1)).put (some d1) v1 = (a.put (some d1) v1).put (some d3) (.slice (some ⟨w.heap.size, 0, none⟩) 1 1) := by
      simp only [Act.put]
      rw [Array.setIfInBounds_comm _ _ n3]
    rw [hcm, Array.setIfInBounds_comm _ _ (Ne.symm n1)]
    -- the row lies apart from the list
    have hv1 : v1.ownBlock ≠ some w.heap.size := by
      rcases hat with e | e
      · rw [e]; exact hne
      · rw [e, World.size_alloc]; intro e2; have := Option.some.inj e2; omega
    have hri2 : Region.ready md ops ((l.setIfInBounds i true).setIfInBounds k true) = [j] := hrik
    have hBX := Nat.le_trans hB hX.size
    refine wpL_one hri2 (wpOp_now hj (wt _ _ g2) (fun K' hK => ?_))
    refine wp_app_ints _ _ ho2 ho (hq2.on hX).1 (by simp; omega) hBX (hx2k _ _).1 (hx2k _ _).2 (fun v2 X2 ho2' hg2 _ => ?_)
    have h2 := hX.trans (Below.own hg2 ho hBX)
    refine hK _ _ ⟨fun _ => hS _ h2, ?_⟩
    rw [e2]
    have hcm2 : ((a.put (some d1) v1).put (some d3) (.slice (some ⟨w.heap.size, 0, none⟩) 1 1)).put (some d2) v2 = ((a.put (some d1) v1).put (some d2) v2).put (some d3) (.slice (some ⟨w.heap.size, 0, none⟩) 1 1) := by
      simp only [Act.put]
      rw [Array.setIfInBounds_comm _ _ n4]
    rw [hcm2, Array.setIfInBounds_comm _ _ (Ne.symm n2)]
    exact fin v1 v2 w.heap.size X2 h2 ho2' (hg2.cell hrow (fun e => hv1 e.symm))
end
end Go.Proofs.YtfbhflpjhbemlaaGreat

/- Stage 19: metronomeref19.Write of code that Check takes. -/
namespace Go.Proofs.YtfbhflpjhbemlaaGreat
open Go.RowKit Go.Maps Go.WideMaps

theorem Lo.of {w W : World} {a : Option Addr} {l : List Int} {B : Nat} (h : NumsAt w a l) (hg : w.grownBy W none) (hB : w.heap.size ≤ B) : Lo B W a l := ⟨h.on hg, fun b o e hl => by
  cases l with
  | nil => exact absurd rfl hl
  | cons x r =>
    obtain ⟨b2, o2, e2, hc⟩ := h 0 x rfl
    rw [e] at e2
    cases e2
    have := lt_of_cell? hc
    omega⟩
theorem grown_below {w W V : World} {B : Nat} (hg : w.grownBy W none) (hb : Below B W V) (hB : w.heap.size ≤ B) : w.grownBy V none := ⟨hb.os.trans hg.os, hb.tape.trans hg.tape, hb.output.trans hg.output, Nat.le_trans hg.size hb.size, fun k hk _ => (hb.block k (by omega)).trans (hg.block k hk (by simp))⟩
theorem magic_at {w : World} : BytesAt (w.alloc (.cells #[.int .u8 77, .int .u8 84, .int .u8 82, .int .u8 49] 5 (4, 5))) (some ⟨w.heap.size, 0, none⟩) Cd.magic := fun i b hb => ⟨_, _, rfl, by
  have hr := heap_alloc_new w (.cells #[.int .u8 77, .int .u8 84, .int .u8 82, .int .u8 49] 5 (4, 5))
  unfold World.cell?
  rw [hr]
  have hi : i < 4 := (List.getElem?_eq_some_iff.1 hb).1
  rcases (show i = 0 ∨ i = 1 ∨ i = 2 ∨ i = 3 by omega) with rfl | rfl | rfl | rfl <;> (cases hb; rfl)⟩
theorem BytesAt.below {w w' : World} {g B : Nat} {l : List UInt8} (h : BytesAt w (some ⟨g, 0, none⟩) l) (hb : Below B w w') (hg : g < B) : BytesAt w' (some ⟨g, 0, none⟩) l := fun i b hi => by
  obtain ⟨g', o, e, hc⟩ := h i b hi
  cases e
  exact ⟨g, 0, rfl, (hb.cell hg).trans hc⟩
theorem own_lit {w : World} {g B : Nat} {l : List Int} (h : w.heap[g]? = some (.cells (l.map (Value.int .i64)).toArray 3 (0, 0))) (hB : B ≤ g) (hl : l.length ≤ maxLen) : w.ownsRow B 3 1 (.slice (some ⟨g, 0, none⟩) l.length l.length) l.length (l.map (Value.int .i64)) := by
  refine ⟨by simp, .inr ⟨g, l.length, _, rfl, hB, h, Nat.le_refl _, hl, by simp, ?_⟩⟩
  rw [List.take_of_length_le (by simp)]
theorem nums_take {l : List Int} {t : Nat} {x : Int} (h : l[t]? = some x) : Cd.nums (l.take (t + 1)) = Cd.nums (l.take t) ++ Cd.num x := by
  rw [List.take_add_one, h, Option.toList_some, Cd.nums_append]
  congr 1
  simp [Cd.nums]
theorem num_ne (n : Int) : Cd.num n ≠ [] := Cd.bytes_ne _
theorem insL_take {b : List Cd.Ins} {t : Nat} {x : Cd.Ins} (h : b[t]? = some x) : Cd.nums (Cd.insL (b.take (t + 1))) = Cd.nums (Cd.insL (b.take t)) ++ Cd.num x.op ++ Cd.num x.n ++ Cd.num x.k := by
  rw [List.take_add_one, h, Option.toList_some]
  have : Cd.insL (b.take t ++ [x]) = Cd.insL (b.take t) ++ [x.op, x.n, x.k] := by simp [Cd.insL]
  rw [this, Cd.nums_append]
  have : Cd.nums [x.op, x.n, x.k] = Cd.num x.op ++ Cd.num x.n ++ Cd.num x.k := by simp [Cd.nums]
  rw [this]
  simp [List.append_assoc]
end Go.Proofs.YtfbhflpjhbemlaaGreat

/- Stage 19: metronomeref19.Write of code that Check takes: the walk (written by mkcup.py). -/
namespace Go.Proofs.YtfbhflpjhbemlaaGreat
open Go.RowKit Go.Maps Go.WideMaps

set_option maxHeartbeats 8000000 in
set_option maxRecDepth 100000 in
theorem rwrite_good (w : World) (c : Cd.Code) (ka : Option Addr) (kc : Nat) (ia : Option Addr) (ic : Nat) (ba : Option Addr) (bc : Nat) (hc : CodeAt w c ka ia ba) (h64 : I64s c) (hz : Cd.check c = 0) :
    Calls Tryz.prog 15 #[.agg (codeV c ka kc ia ic ba bc)] w fun e w' => ∃ v, e = .returned (.tuple #[v, .int .i64 0]) ∧ w.grownBy w' none ∧ w'.ownsRow w.heap.size 5 1 v (Cd.write c).length (byteC (Cd.write c)) := by
  have hrk := fun V (hg : w.grownBy V none) => rcheck_any V c ka kc ia ic ba bc (hc.on hg) h64
  simp only [hz] at hrk
  obtain ⟨m1, m2, m3⟩ := check_lens hz
  have hg0 := World.grownBy_alloc w (.cells (codeV c ka kc ia ic ba bc) 27) none
  have hr0 := heap_alloc_new w (.cells (codeV c ka kc ia ic ba bc) 27)
  have H0 : Cb w w (codeV c ka kc ia ic ba bc) (w.alloc (.cells (codeV c ka kc ia ic ba bc) 27)) := ⟨hg0, hr0⟩
  replace H0 := Lib.hid H0
  have HW : Hid (Cd.write c = Cd.magic ++ Cd.nums ([(c.kinds.length : Int), c.ins, c.outs, c.cells, c.stack] ++ c.kinds ++ c.init ++ [(c.body.length : Int)]) ++ Cd.nums (Cd.insL c.body)) := Lib.hid (by
    unfold Cd.write Cd.allL Cd.heads
    rw [List.append_assoc, ← Cd.nums_append]
    simp [List.append_assoc])
  have H64 : Hid (∀ x ∈ [(c.kinds.length : Int), c.ins, c.outs, c.cells, c.stack] ++ c.kinds ++ c.init ++ [(c.body.length : Int)], Cd.I64 x) := Lib.hid (fun x hx => by
    simp only [List.mem_append, List.mem_cons, List.not_mem_nil, or_false] at hx
    rcases hx with ((( rfl | rfl | rfl | rfl | rfl) | hx) | hx) | rfl
    · unfold Cd.I64; omega
    · exact h64.1
    · exact h64.2.1
    · exact h64.2.2.1
    · exact h64.2.2.2.1
    · exact h64.2.2.2.2.1 x hx
    · exact h64.2.2.2.2.2.1 x hx
    · unfold Cd.I64; omega)
  have HB64 := Lib.hid h64.2.2.2.2.2.2.1
  have HCK : Hid (NumsAt w ka c.kinds ∧ NumsAt w ia c.init ∧ InssAt w ba c.body) := Lib.hid ⟨hc.kinds, hc.init, hc.body⟩
  clear hc h64 hg0 hr0 hz
  obtain ⟨P, hP⟩ : ∃ P, P = Cd.write c := ⟨_, rfl⟩
  rw [← hP] at HW ⊢
  clear hP
  unfold codeV at *
  generalize c.kinds = ks at *
  generalize c.init = is at *
  generalize c.body = bs at *
  generalize c.ins = x1 at *
  generalize c.outs = x2 at *
  generalize c.cells = x3 at *
  generalize c.stack = x4 at *
  have HRK := Lib.hid hrk
  have HM : Hid (ks.length ≤ 8000 ∧ is.length ≤ 8000 ∧ bs.length ≤ 60000) := Lib.hid ⟨m1, m2, m3⟩
  have q1 : ks.length ≤ 9223372036854775807 := by omega
  have q2 : is.length ≤ 9223372036854775807 := by omega
  have q3 : bs.length ≤ 9223372036854775807 := by omega
  clear hrk m1 m2 m3
  go_enter Tryz.func15, Tryz.ntmps15
  go_upto_region 6 with (go_at_call 27; refine (HRK.out _ H0.out.1).mono ?_; rintro e w1 ⟨rfl, hg1⟩; have H1 := Lib.hid (H0.out.on hg1); clear hg1; have hcvt := Lib.run_convert_bytes_const (P := Tryz.prog) w1 22 5 #[.int .u8 77, .int .u8 84, .int .u8 82, .int .u8 49] 4 4 Tryz.underlying22 Tryz.underlying5; have hbx := row_alloc H1.out.2 (.cells #[.int .u8 77, .int .u8 84, .int .u8 82, .int .u8 49] 5 (4, 5)); have u0 := cell_of_row (w1.alloc (.cells #[.int .u8 77, .int .u8 84, .int .u8 82, .int .u8 49] 5 (4, 5))) _ 0 _ _ _ hbx; have u1 := cell_of_row (w1.alloc (.cells #[.int .u8 77, .int .u8 84, .int .u8 82, .int .u8 49] 5 (4, 5))) _ 1 _ _ _ hbx; have u2 := cell_of_row (w1.alloc (.cells #[.int .u8 77, .int .u8 84, .int .u8 82, .int .u8 49] 5 (4, 5))) _ 2 _ _ _ hbx; have u3 := cell_of_row (w1.alloc (.cells #[.int .u8 77, .int .u8 84, .int .u8 82, .int .u8 49] 5 (4, 5))) _ 3 _ _ _ hbx; have u4 := cell_of_row (w1.alloc (.cells #[.int .u8 77, .int .u8 84, .int .u8 82, .int .u8 49] 5 (4, 5))) _ 4 _ _ _ hbx; have u5 := cell_of_row (w1.alloc (.cells #[.int .u8 77, .int .u8 84, .int .u8 82, .int .u8 49] 5 (4, 5))) _ 5 _ _ _ hbx; have u6 := cell_of_row (w1.alloc (.cells #[.int .u8 77, .int .u8 84, .int .u8 82, .int .u8 49] 5 (4, 5))) _ 6 _ _ _ hbx)
  refine wp_as fun W hW => ?_
  have hgA := World.grownBy_alloc w1 (.cells #[.int .u8 77, .int .u8 84, .int .u8 82, .int .u8 49] 5 (4, 5)) none
  have hgW : w1.grownBy W none := by rw [hW]; exact hgA.trans (World.grownBy_alloc _ _ none)
  have hrow : W.heap[w1.heap.size + 1]? = some (.cells (([(ks.length : Int), x1, x2, x3, x4] : List Int).map (Value.int .i64)).toArray 3 (0, 0)) := by
    rw [hW]
    have := heap_alloc_new (w1.alloc (.cells #[.int .u8 77, .int .u8 84, .int .u8 82, .int .u8 49] 5 (4, 5))) (.cells #[.int .i64 (ks.length : Int), .int .i64 x1, .int .i64 x2, .int .i64 x3, .int .i64 x4] 3)
    rw [World.size_alloc] at this
    exact this
  have hmag : BytesAt W (some ⟨w1.heap.size, 0, none⟩) Cd.magic := by
    rw [hW]
    intro i b hi
    obtain ⟨g, o, e, hc⟩ := magic_at (w := w1) i b hi
    exact ⟨g, o, e, (World.grownBy_alloc _ _ none).cell hc (by simp)⟩
  have hszW : W.heap.size = w1.heap.size + 1 + 1 := by rw [hW, World.size_alloc, World.size_alloc]
  have hbxW := (hgW.block _ (gl H1.out.2) (by simp)).trans H1.out.2
  clear hW u0 u1 u2 u3 u4 u5 u6 hcvt hbx hgA
  obtain ⟨B1, hB1⟩ : ∃ B1, B1 = w1.heap.size := ⟨_, rfl⟩
  obtain ⟨hs, hhs⟩ : ∃ hs : List Int, hs = [(ks.length : Int), x1, x2, x3, x4] := ⟨_, rfl⟩
  have hown := own_lit hrow (Nat.le_refl _) (by simp [maxLen])
  have hl5 : ([(ks.length : Int), x1, x2, x3, x4] : List Int).length = 5 := rfl
  rw [hl5] at hown
  rw [← hhs] at hown HW H64
  have HHS : Hid (hs.length = 5) := Lib.hid (by rw [hhs]; rfl)
  try rw [← hB1] at hown
  try rw [← hB1] at hmag
  try rw [← hB1] at hszW
  try rw [← hB1]
  have hwB : w.heap.size < B1 := by rw [hB1]; exact gl H1.out.2
  have HB1 := Lib.hid hB1
  have HG := Lib.hid (And.intro hgW (And.intro hmag (And.intro hszW (And.intro hbxW (And.intro hown hwB)))))
  clear hgW hrow hmag hszW hbxW hown hwB hhs hl5 hB1
  refine wp_region_L (S := fun V => Below (B1 + 1) W V) (Z := []) (by kernel_rfl) ?_
  have hS : Below (B1 + 1) W W.drew := (Below.refl _ W).drew
  (try simp only [Act.put, sA, sB, sC])
  refine t1 0 29 (.slice (some ⟨B1 + 1, 0, none⟩) 5 5) hS ?_
  (try simp only [Act.put, sA, sB, sC])
  refine t1 1 30 (.pointer (some ⟨w.heap.size, 0, none⟩)) hS ?_
  (try simp only [Act.put, sA, sB, sC])
  refine t2 2 31 (.slice ka ks.length kc) (fun w' hw' => ?_) hS ?_
  · have z := (hw'.cell (Nat.lt_succ_of_lt HG.out.2.2.2.2.2)).trans ((cell_of_row W _ 0 _ _ _ HG.out.2.2.2.1).trans rfl); clear hw' hS; go_simp
  (try simp only [Act.put, sA, sB, sC])
  refine t1 4 33 (.pointer (some ⟨w.heap.size, 5, none⟩)) hS ?_
  (try simp only [Act.put, sA, sB, sC])
  refine t2 5 34 (.slice ia is.length ic) (fun w' hw' => ?_) hS ?_
  · have z := (hw'.cell (Nat.lt_succ_of_lt HG.out.2.2.2.2.2)).trans ((cell_of_row W _ 5 _ _ _ HG.out.2.2.2.1).trans rfl); clear hw' hS; go_simp
  (try simp only [Act.put, sA, sB, sC])
  refine t1 7 36 (.pointer (some ⟨w.heap.size, 6, none⟩)) hS ?_
  (try simp only [Act.put, sA, sB, sC])
  refine t2 8 37 (.slice ba bs.length bc) (fun w' hw' => ?_) hS ?_
  · have z := (hw'.cell (Nat.lt_succ_of_lt HG.out.2.2.2.2.2)).trans ((cell_of_row W _ 6 _ _ _ HG.out.2.2.2.1).trans rfl); clear hw' hS; go_simp
  (try simp only [Act.put, sA, sB, sC])
  refine t2 9 38 (.int .i64 (bs.length : Int)) (fun w' hw' => ?_) hS ?_
  · clear hw' hS; go_simp
  (try simp only [Act.put, sA, sB, sC])
  have hLk : Lo (B1 + 1) W.drew ka ks := (Lo.of HCK.out.1 (H1.out.1.trans HG.out.1) (by have := HG.out.2.2.2.2.2; omega)).on hS
  have hLi : Lo (B1 + 1) W.drew ia is := (Lo.of HCK.out.2.1 (H1.out.1.trans HG.out.1) (by have := HG.out.2.2.2.2.2; omega)).on hS
  have hownD : W.drew.ownsRow (B1 + 1) 3 1 (.slice (some ⟨B1 + 1, 0, none⟩) 5 5) hs.length (hs.map (Value.int .i64)) := by rw [HHS.out]; exact HG.out.2.2.2.2.1.kept (row := none) (w' := W.drew) ⟨rfl, rfl, rfl, Nat.le_refl _, fun _ _ _ => rfl⟩ (.inr (fun e => by cases e))
  refine wpL_app3 (i := 3) (j := 6) (k := 10) (m := 11) (d1 := 32) (d2 := 35) (d3 := 39) (d4 := 40) (sv := .tmp 29) (x1 := .tmp 31) (x2 := .tmp 34) (a1 := ka) (c1 := kc) (a2 := ia) (c2 := ic) (L := hs) (q1 := ks) (q2 := is) (n := (bs.length : Int)) (v := .slice (some ⟨B1 + 1, 0, none⟩) 5 5) (B := B1 + 1) (hx1 := ⟨rfl, rfl⟩) (hx1k := fun _ => ⟨rfl, rfl⟩) (hx2 := fun _ => ⟨rfl, rfl⟩) (hx2k := fun _ _ => ⟨rfl, rfl⟩) (hb0 := fun _ => by kernel_rfl) (hb1 := fun _ _ => by kernel_rfl) (hb2 := fun _ _ _ => by kernel_rfl) (he := fun _ _ _ => ⟨rfl, rfl⟩) (hown := hownD) (hq1 := hLk) (hq2 := hLi) (hn := by have := HM.out; have := HHS.out; omega) (hB := by have := HG.out.2.2.1; show B1 + 1 ≤ W.heap.size; omega) (hS := fun w' h => hS.trans h) (h := fun v1 v2 v3 v4 V hBV hown4 => ?_)
  have hS2 : Below (B1 + 1) W V := hS.trans hBV
  clear hS hBV hLk hLi hownD
  (try simp only [Act.put, sA, sB, sC])
  refine t1 12 6 v4 hS2 ?_
  (try simp only [Act.put, sA, sB, sC])
  refine wpL_done (by kernel_rfl) ?_ _
  obtain ⟨la, lcap, rfl, hnl, hcl⟩ := own_nums hown4
  obtain ⟨LL, hLL⟩ : ∃ LL, LL = hs ++ ks ++ is ++ [(bs.length : Int)] := ⟨_, rfl⟩
  rw [← hLL] at hown4 hnl hcl HW H64
  rw [← hLL]
  have HLL : Hid (LL.length ≤ 16006 ∧ 0 < LL.length) := Lib.hid (by have := HM.out; have := HHS.out; rw [hLL]; simp; omega)
  clear hLL
  have HA0 : Hid (An w1 V la LL (.slice (some ⟨B1, 0, none⟩) 4 4) Cd.magic) := Lib.hid ⟨grown_below HG.out.1 hS2 (by have := HB1.out; omega), .inr ⟨B1, rfl, by have := HB1.out; omega, by have h1 := hS2.size; have h2 := HG.out.2.2.1; omega, HG.out.2.1.below hS2 (Nat.lt_succ_self _)⟩, hnl, fun b o e hl h2 => by subst e; have h3 := (hown4.lt b rfl).1; have h4 : B1 = b := Option.some.inj h2; omega⟩
  have n6 : LL.length ≤ 9223372036854775807 := by have := HLL.out; omega
  clear hnl hcl hS2 hown4 HHS
  go_wp2
  go_loopw [5, 7] (fun bv iv wr => ∃ t : Nat, t ≤ LL.length ∧ iv = .int .i64 (t : Int) ∧ Hid (An w1 wr la LL bv (Cd.magic ++ Cd.nums (LL.take t)) ∧ (0 < t → wr.ownsRow w1.heap.size 5 1 bv (Cd.magic ++ Cd.nums (LL.take t)).length (byteC (Cd.magic ++ Cd.nums (LL.take t)))))) (fun _ iv _ => LL.length - (intOf iv).toNat)
  case atStart => exact ⟨0, Nat.zero_le _, rfl, Lib.hid ⟨by simpa [Cd.nums] using HA0.out, fun h => absurd h (Nat.lt_irrefl 0)⟩⟩
  case round =>
    obtain ⟨t, ht, rfl, HT⟩ := hrel
    obtain ⟨p, hp⟩ : ∃ p, p = Cd.magic ++ Cd.nums (LL.take t) := ⟨_, rfl⟩
    rw [← hp] at HT
    have HPE := Lib.hid hp
    clear hp
    obtain ⟨a5, c5, rfl⟩ := HT.out.1.own.slice
    by_cases hlt : t < LL.length
    · obtain ⟨x, hx⟩ : ∃ x, LL[t]? = some x := ⟨_, List.getElem?_eq_getElem hlt⟩
      obtain ⟨lb, lo, rfl, hcx⟩ := HT.out.1.nums t x hx
      have hnum := rnumber_any wr x (H64.out x (List.mem_iff_getElem?.2 ⟨_, hx⟩))
      have HX := Lib.hid hx
      have HBD : Hid (p.length + (Cd.num x).length ≤ 1000000000) := Lib.hid (by
        rw [HPE.out]
        have h1 := nums_len (LL.take t) (fun y hy => H64.out y (List.mem_of_mem_take hy))
        have h2 : (LL.take t).length ≤ LL.length := by simp; omega
        have h3 := HLL.out.1
        have h4 : (Cd.num x).length ≤ 10 := Cd.num_len (H64.out x (List.mem_iff_getElem?.2 ⟨_, hx⟩))
        have h5 : Cd.magic.length = 4 := rfl
        rw [List.length_append]
        omega)
      clear hx
      go_wp2_with (first | (go_at_call 28; refine hnum.mono ?_; clear hnum; rintro e V2 ⟨hg2, u, rfl, hu⟩; have HU := Lib.hid (And.intro hg2 hu); clear hg2 hu) | (at_builtin; refine Hid.out ?_))
      refine Lib.hid ?_
      refine wpList_append_bytes rfl _ _ rfl HT.out.1 HU.out.1 (num_ne x) HU.out.2 HBD.out rfl rfl ?_
      intro v' w3 hA3 hrow3
      obtain ⟨p2, hp2⟩ : ∃ p2, p2 = p ++ Cd.num x := ⟨_, rfl⟩
      rw [← hp2] at hA3 hrow3
      have HP2 := Lib.hid hp2
      clear hp2
      obtain ⟨a6, c6, rfl⟩ := hA3.own.slice
      have HP := Lib.hid (And.intro hA3 hrow3)
      clear hA3 hrow3 hcx
      go_wp2
      go_roundw
      case measure => simp [intOf]; omega
      refine ⟨t + 1, by omega, by go_num, Lib.hid ?_⟩
      rw [nums_take HX.out, ← List.append_assoc, ← HPE.out, ← HP2.out]
      exact ⟨HP.out.1, fun _ => HP.out.2⟩
    · obtain rfl : LL.length = t := by omega
      have hA := HT.out.1
      have hR := HT.out.2 HLL.out.2
      have HPL : Hid (p = Cd.magic ++ Cd.nums LL) := Lib.hid (by rw [HPE.out, List.take_length])
      have HA := Lib.hid (And.intro hA hR)
      have hbx := (hA.grown.block _ (gl H1.out.2) (by simp)).trans H1.out.2
      have u6 := cell_of_row wr _ 6 _ _ _ hbx
      clear hA hR HT
      go_wp2
      clear u6 hbx hlt ht
      obtain ⟨w2, hw2⟩ : ∃ w2, w2 = wr := ⟨_, rfl⟩
      rw [← hw2] at HA ⊢
      clear hw2
      go_loopw [5, 8] (fun bv iv wr => ∃ t : Nat, t ≤ bs.length ∧ iv = .int .i64 (t : Int) ∧ Hid (An w1 wr la LL bv (Cd.magic ++ Cd.nums LL ++ Cd.nums (Cd.insL (bs.take t))) ∧ wr.ownsRow w1.heap.size 5 1 bv (Cd.magic ++ Cd.nums LL ++ Cd.nums (Cd.insL (bs.take t))).length (byteC (Cd.magic ++ Cd.nums LL ++ Cd.nums (Cd.insL (bs.take t)))))) (fun _ iv _ => bs.length - (intOf iv).toNat)
      case atStart => exact ⟨0, Nat.zero_le _, rfl, Lib.hid (by rw [← HPL.out]; simpa [Cd.nums, Cd.insL] using HA.out)⟩
      case round =>
        obtain ⟨t, ht, rfl, HT⟩ := hrel
        obtain ⟨r, hr⟩ : ∃ r, r = Cd.magic ++ Cd.nums LL ++ Cd.nums (Cd.insL (bs.take t)) := ⟨_, rfl⟩
        rw [← hr] at HT
        have HRE := Lib.hid hr
        clear hr
        obtain ⟨a5, c5, rfl⟩ := HT.out.1.own.slice
        have hbx := (HT.out.1.grown.block _ (gl H1.out.2) (by simp)).trans H1.out.2
        have u6 := cell_of_row wr _ 6 _ _ _ hbx
        by_cases hlt : t < bs.length
        · obtain ⟨x, hx⟩ : ∃ x, bs[t]? = some x := ⟨_, List.getElem?_eq_getElem hlt⟩
          obtain ⟨b1, o1, rfl, hc1, hc2, hc3⟩ := HCK.out.2.2 t x hx
          have hgw := H1.out.1.trans HT.out.1.grown
          have p1 := hgw.cell hc1 (by simp)
          have p2 := hgw.cell hc2 (by simp)
          have p3 := hgw.cell hc3 (by simp)
          have HX := Lib.hid hx
          have HX64 := Lib.hid (HB64.out x (List.mem_iff_getElem?.2 ⟨_, hx⟩))
          clear hx hc1 hc2 hc3 hgw hbx
          obtain ⟨xo, xn, xk⟩ := x
          simp only at p1 p2 p3 HX64
          have HBD : Hid (∀ q1 q2 q3 : List UInt8, q1.length ≤ 10 → q2.length ≤ 10 → q3.length ≤ 10 → (r ++ q1 ++ q2).length + q3.length ≤ 1000000000) := Lib.hid (fun q1 q2 q3 k1 k2 k3 => by
            rw [HRE.out]
            have h1 := nums_len LL H64.out
            have h2 := nums_len (Cd.insL (bs.take t)) (insL_64 (fun y hy => HB64.out y (List.mem_of_mem_take hy)))
            rw [Cd.insL_len] at h2
            have h3 : (bs.take t).length ≤ bs.length := by simp; omega
            have h4 := HLL.out.1
            have h5 := HM.out.2.2
            have h6 : Cd.magic.length = 4 := rfl
            simp only [List.length_append]
            omega)
          go_upto_region 15 with fail
          refine wp_as fun W2 hW2 => ?_
          have hg2 : wr.grownBy W2 none := by rw [hW2]; exact World.grownBy_alloc _ _ _
          have hr2 : W2.heap[wr.heap.size]? = some (.cells #[.int .i64 xo, .int .i64 xn, .int .i64 xk] 32 (0, 0)) := by rw [hW2]; exact heap_alloc_new wr _
          have hvb : ∀ k, (Value.slice a5 r.length c5).ownBlock = some k → k < wr.heap.size := fun k e => (HT.out.1.own.lt k e).2
          have hA2 := HT.out.1.on hg2
          clear hW2 u6 p1 p2 p3
          refine wp_region_L (S := (fun V : World => V.cell? ⟨wr.heap.size, 0, none⟩ = some (.int .i64 xo) ∧ V.cell? ⟨wr.heap.size, 1, none⟩ = some (.int .i64 xn) ∧ V.cell? ⟨wr.heap.size, 2, none⟩ = some (.int .i64 xk))) (Z := []) (by kernel_rfl) ?_
          have hS : (fun V : World => V.cell? ⟨wr.heap.size, 0, none⟩ = some (.int .i64 xo) ∧ V.cell? ⟨wr.heap.size, 1, none⟩ = some (.int .i64 xn) ∧ V.cell? ⟨wr.heap.size, 2, none⟩ = some (.int .i64 xk)) W2.drew := ⟨(cell_of_row W2 _ 0 _ _ _ hr2).trans rfl, (cell_of_row W2 _ 1 _ _ _ hr2).trans rfl, (cell_of_row W2 _ 2 _ _ _ hr2).trans rfl⟩
          have hA2 : An w1 W2.drew la LL (.slice a5 r.length c5) _ := hA2.on ⟨rfl, rfl, rfl, Nat.le_refl _, fun _ _ _ => rfl⟩
          have hXW : wr.heap.size < W2.drew.heap.size := gl hr2
          (try simp only [Act.put, sA, sB, sC])
          refine t1 0 66 (.slice a5 r.length c5) hS ?_
          (try simp only [Act.put, sA, sB, sC])
          refine t1 1 67 (.pointer (some ⟨wr.heap.size, 0, none⟩)) hS ?_
          (try simp only [Act.put, sA, sB, sC])
          refine t2 2 68 (.int .i64 xo) (fun w' hw' => ?_) hS ?_
          · have z := hw'.1; clear hw' hS; go_simp
          (try simp only [Act.put, sA, sB, sC])
          refine t1 5 71 (.pointer (some ⟨wr.heap.size, 1, none⟩)) hS ?_
          (try simp only [Act.put, sA, sB, sC])
          refine t2 6 72 (.int .i64 xn) (fun w' hw' => ?_) hS ?_
          · have z := hw'.2.1; clear hw' hS; go_simp
          (try simp only [Act.put, sA, sB, sC])
          refine t1 9 75 (.pointer (some ⟨wr.heap.size, 2, none⟩)) hS ?_
          (try simp only [Act.put, sA, sB, sC])
          refine t2 10 76 (.int .i64 xk) (fun w' hw' => ?_) hS ?_
          · have z := hw'.2.2; clear hw' hS; go_simp
          (try simp only [Act.put, sA, sB, sC])
          refine wpL_call (i := 3) (d := 69) (g := 28) (args := #[.int .i64 xo]) (R := fun u V => W2.drew.grownBy V none ∧ V.ownsRow W2.drew.heap.size 5 1 u (Cd.num xo).length (byteC (Cd.num xo))) (by kernel_rfl) rfl rfl (by kernel_rfl) (by kernel_rfl) ((rnumber_any _ xo HX64.out.1).mono (by rintro e w' ⟨hg, u, rfl, hu⟩; exact ⟨u, rfl, hg, hu⟩)) (fun u V h => ⟨h.1.cell hS.1 (by simp), h.1.cell hS.2.1 (by simp), h.1.cell hS.2.2 (by simp)⟩) (fun u0 V0 hV0 => ?_)
          have hS0 : (fun V : World => V.cell? ⟨wr.heap.size, 0, none⟩ = some (.int .i64 xo) ∧ V.cell? ⟨wr.heap.size, 1, none⟩ = some (.int .i64 xn) ∧ V.cell? ⟨wr.heap.size, 2, none⟩ = some (.int .i64 xk)) V0 := ⟨hV0.1.cell hS.1 (by simp), hV0.1.cell hS.2.1 (by simp), hV0.1.cell hS.2.2 (by simp)⟩
          clear hS
          (try simp only [Act.put, sA, sB, sC])
          refine wpL_one (i := 4) (by kernel_rfl) (wpOp_now rfl (by kernel_rfl) (fun K' hK => ?_))
          refine wp_append_bytes _ _ rfl hA2 hV0.1 (num_ne _) hV0.2 (by have := HBD.out [] [] (Cd.num xo) (by simp) (by simp) (Cd.num_len HX64.out.1); simpa using this) rfl rfl (fun v3 Y0 hA3 hr3 hg3 hat3 => ?_)
          have hne0 : (.slice a5 r.length c5 : Value).ownBlock ≠ some wr.heap.size := (fun e => Nat.lt_irrefl _ (hvb _ e))
          have hS : (fun V : World => V.cell? ⟨wr.heap.size, 0, none⟩ = some (.int .i64 xo) ∧ V.cell? ⟨wr.heap.size, 1, none⟩ = some (.int .i64 xn) ∧ V.cell? ⟨wr.heap.size, 2, none⟩ = some (.int .i64 xk)) Y0 := ⟨hg3.cell hS0.1 (fun e => hne0 e.symm), hg3.cell hS0.2.1 (fun e => hne0 e.symm), hg3.cell hS0.2.2 (fun e => hne0 e.symm)⟩
          have hXV0 : wr.heap.size < V0.heap.size := Nat.lt_of_lt_of_le hXW hV0.1.size
          have hXW : wr.heap.size < Y0.heap.size := Nat.lt_of_lt_of_le hXV0 hg3.size
          refine hK _ _ ⟨fun _ => hS, ?_⟩
          (try simp only [Act.put, sA])
          refine wpL_call (i := 7) (d := 73) (g := 28) (args := #[.int .i64 xn]) (R := fun u V => Y0.grownBy V none ∧ V.ownsRow Y0.heap.size 5 1 u (Cd.num xn).length (byteC (Cd.num xn))) (by kernel_rfl) rfl rfl (by kernel_rfl) (by kernel_rfl) ((rnumber_any _ xn HX64.out.2.1).mono (by rintro e w' ⟨hg, u, rfl, hu⟩; exact ⟨u, rfl, hg, hu⟩)) (fun u V h => ⟨h.1.cell hS.1 (by simp), h.1.cell hS.2.1 (by simp), h.1.cell hS.2.2 (by simp)⟩) (fun u1 V1 hV1 => ?_)
          have hS1 : (fun V : World => V.cell? ⟨wr.heap.size, 0, none⟩ = some (.int .i64 xo) ∧ V.cell? ⟨wr.heap.size, 1, none⟩ = some (.int .i64 xn) ∧ V.cell? ⟨wr.heap.size, 2, none⟩ = some (.int .i64 xk)) V1 := ⟨hV1.1.cell hS.1 (by simp), hV1.1.cell hS.2.1 (by simp), hV1.1.cell hS.2.2 (by simp)⟩
          clear hS
          (try simp only [Act.put])
          refine wpL_one (i := 8) (by kernel_rfl) (wpOp_now rfl (by kernel_rfl) (fun K' hK => ?_))
          refine wp_append_bytes _ _ rfl hA3 hV1.1 (num_ne _) hV1.2 (by have := HBD.out (Cd.num xo) [] (Cd.num xn) (Cd.num_len HX64.out.1) (by simp) (Cd.num_len HX64.out.2.1); simpa using this) rfl rfl (fun v4 Y1 hA4 hr4 hg4 hat4 => ?_)
          have hne1 : (v3 : Value).ownBlock ≠ some wr.heap.size := (by rcases hat3 with e | ⟨k, e, hk⟩; (· rw [e]; exact hne0); (· rw [e]; intro e2; have := Option.some.inj e2; omega))
          have hS : (fun V : World => V.cell? ⟨wr.heap.size, 0, none⟩ = some (.int .i64 xo) ∧ V.cell? ⟨wr.heap.size, 1, none⟩ = some (.int .i64 xn) ∧ V.cell? ⟨wr.heap.size, 2, none⟩ = some (.int .i64 xk)) Y1 := ⟨hg4.cell hS1.1 (fun e => hne1 e.symm), hg4.cell hS1.2.1 (fun e => hne1 e.symm), hg4.cell hS1.2.2 (fun e => hne1 e.symm)⟩
          have hXV1 : wr.heap.size < V1.heap.size := Nat.lt_of_lt_of_le hXW hV1.1.size
          have hXW : wr.heap.size < Y1.heap.size := Nat.lt_of_lt_of_le hXV1 hg4.size
          refine hK _ _ ⟨fun _ => hS, ?_⟩
          (try simp only [Act.put])
          refine wpL_call (i := 11) (d := 77) (g := 28) (args := #[.int .i64 xk]) (R := fun u V => Y1.grownBy V none ∧ V.ownsRow Y1.heap.size 5 1 u (Cd.num xk).length (byteC (Cd.num xk))) (by kernel_rfl) rfl rfl (by kernel_rfl) (by kernel_rfl) ((rnumber_any _ xk HX64.out.2.2).mono (by rintro e w' ⟨hg, u, rfl, hu⟩; exact ⟨u, rfl, hg, hu⟩)) (fun u V h => ⟨h.1.cell hS.1 (by simp), h.1.cell hS.2.1 (by simp), h.1.cell hS.2.2 (by simp)⟩) (fun u2 V2 hV2 => ?_)
          have hS2 : (fun V : World => V.cell? ⟨wr.heap.size, 0, none⟩ = some (.int .i64 xo) ∧ V.cell? ⟨wr.heap.size, 1, none⟩ = some (.int .i64 xn) ∧ V.cell? ⟨wr.heap.size, 2, none⟩ = some (.int .i64 xk)) V2 := ⟨hV2.1.cell hS.1 (by simp), hV2.1.cell hS.2.1 (by simp), hV2.1.cell hS.2.2 (by simp)⟩
          clear hS
          (try simp only [Act.put])
          refine wpL_one (i := 12) (by kernel_rfl) (wpOp_now rfl (by kernel_rfl) (fun K' hK => ?_))
          refine wp_append_bytes _ _ rfl hA4 hV2.1 (num_ne _) hV2.2 (by have := HBD.out (Cd.num xo) (Cd.num xn) (Cd.num xk) (Cd.num_len HX64.out.1) (Cd.num_len HX64.out.2.1) (Cd.num_len HX64.out.2.2); exact this) rfl rfl (fun v5 Y2 hA5 hr5 hg5 hat5 => ?_)
          have hne2 : (v4 : Value).ownBlock ≠ some wr.heap.size := (by rcases hat4 with e | ⟨k, e, hk⟩; (· rw [e]; exact hne1); (· rw [e]; intro e2; have := Option.some.inj e2; omega))
          have hS : (fun V : World => V.cell? ⟨wr.heap.size, 0, none⟩ = some (.int .i64 xo) ∧ V.cell? ⟨wr.heap.size, 1, none⟩ = some (.int .i64 xn) ∧ V.cell? ⟨wr.heap.size, 2, none⟩ = some (.int .i64 xk)) Y2 := ⟨hg5.cell hS2.1 (fun e => hne2 e.symm), hg5.cell hS2.2.1 (fun e => hne2 e.symm), hg5.cell hS2.2.2 (fun e => hne2 e.symm)⟩
          have hXV2 : wr.heap.size < V2.heap.size := Nat.lt_of_lt_of_le hXW hV2.1.size
          have hXW : wr.heap.size < Y2.heap.size := Nat.lt_of_lt_of_le hXV2 hg5.size
          refine hK _ _ ⟨fun _ => hS, ?_⟩
          (try simp only [Act.put])
          refine t1 13 5 v5 hS ?_
          (try simp only [Act.put])
          refine wpL_done (by kernel_rfl) ?_ _
          obtain ⟨r2, hr2e⟩ : ∃ r2, r2 = r ++ Cd.num xo ++ Cd.num xn ++ Cd.num xk := ⟨_, rfl⟩
          rw [← hr2e] at hA5 hr5
          have HR2 := Lib.hid hr2e
          clear hr2e
          have HP := Lib.hid (And.intro hA5 hr5)
          obtain ⟨a6, c6, rfl⟩ := hA5.own.slice
          clear hS hA3 hA4 hA5 hr3 hr4 hr5 hg3 hg4 hg5 hat3 hat4 hat5 hV0 hV1 hV2 hA2 hr2 hg2 hvb hne0 hne1 hne2 hXV0 hXV1 hXV2 hXW
          go_wp2
          go_roundw
          case measure => simp [intOf]; omega
          refine ⟨t + 1, by omega, by go_num, Lib.hid ?_⟩
          rw [insL_take HX.out, ← List.append_assoc, ← List.append_assoc, ← List.append_assoc, ← HRE.out, ← HR2.out]
          exact HP.out
        · obtain rfl : bs.length = t := by omega
          have HF := Lib.hid HT.out
          have HRL : Hid (r = P) := Lib.hid (by rw [HRE.out, List.take_length, HW.out])
          clear HT
          go_wp2
          go_ret2
          refine ⟨_, rfl, H1.out.1.trans HF.out.1.grown, ?_⟩
          rw [← HRL.out]
          exact owns_base HF.out.2 H1.out.1.size
end Go.Proofs.YtfbhflpjhbemlaaGreat

/- Stage 19: metronomeref19.Write is the chapter's. -/
namespace Go.Proofs.YtfbhflpjhbemlaaGreat
open Go.RowKit Go.Maps Go.WideMaps

set_option maxHeartbeats 4000000 in
set_option maxRecDepth 100000 in
theorem rwrite_bad (w : World) (c : Cd.Code) (ka : Option Addr) (kc : Nat) (ia : Option Addr) (ic : Nat) (ba : Option Addr) (bc : Nat) (hc : CodeAt w c ka ia ba) (h64 : I64s c) (hz : Cd.check c ≠ 0) :
    Calls Tryz.prog 15 #[.agg (codeV c ka kc ia ic ba bc)] w fun e w' => e = .returned (.tuple #[.slice none 0 0, .int .i64 (Cd.check c)]) ∧ w.grownBy w' none := by
  have hrk := fun V (hg : w.grownBy V none) => rcheck_any V c ka kc ia ic ba bc (hc.on hg) h64
  have hg0 := World.grownBy_alloc w (.cells (codeV c ka kc ia ic ba bc) 27) none
  have hr0 := heap_alloc_new w (.cells (codeV c ka kc ia ic ba bc) 27)
  have H0 : Cb w w (codeV c ka kc ia ic ba bc) (w.alloc (.cells (codeV c ka kc ia ic ba bc) 27)) := ⟨hg0, hr0⟩
  replace H0 := Lib.hid H0
  have e1 : (Cd.check c != 0) = true := by simpa using hz
  clear hc h64 hg0 hr0 hz
  generalize Cd.check c = R at *
  unfold codeV at *
  generalize c.kinds.length = nk at *
  generalize c.init.length = ni at *
  generalize c.body.length = nb at *
  generalize c.ins = x1 at *
  generalize c.outs = x2 at *
  generalize c.cells = x3 at *
  generalize c.stack = x4 at *
  have HRK := Lib.hid hrk
  clear hrk
  go_enter Tryz.func15, Tryz.ntmps15
  go_wp2_with (go_at_call 27; refine (HRK.out _ H0.out.1).mono ?_; rintro e w1 ⟨rfl, hg1⟩; have H1 := Lib.hid (H0.out.on hg1); clear hg1)
  go_ret2
  exact ⟨rfl, H1.out.1⟩
end Go.Proofs.YtfbhflpjhbemlaaGreat

/- Stage 19: metronomeref19.Same of two codes that are one. -/
namespace Go.Proofs.YtfbhflpjhbemlaaGreat
open Go.RowKit Go.Maps Go.WideMaps

theorem kept_row {wa wb : World} {b : Nat} {o : Obj} (hb : wa.heap[b]? = some o) (g : wa.grownBy wb none) : wb.heap[b]? = some o := (g.block _ (Array.getElem?_eq_some_iff.1 hb).1 (by simp)).trans hb

set_option maxHeartbeats 4000000 in
set_option maxRecDepth 100000 in
theorem rSame_eq (w : World) (c : Cd.Code) (ka kc ia ic ba bc) (ka' kc' ia' ic' ba' bc') (h1 : CodeAt w c ka ia ba) (h2 : CodeAt w c ka' ia' ba') (hs : I64s c) :
    Calls Tryz.prog 8 #[.agg (codeV c ka kc ia ic ba bc), .agg (codeV c ka' kc' ia' ic' ba' bc')] w fun e w' => e = .returned (.bool true) ∧ w.grownBy w' none := by
  obtain ⟨-, -, -, -, -, -, -, m1, m2, m3⟩ := hs
  have hm63 : c.body.length ≤ 9223372036854775807 := by simpa [maxLen] using m3
  have HC := Lib.hid (And.intro h1 h2)
  have hk := fun (W : World) (hg : w.grownBy W none) => rsame_any W c.kinds c.kinds ka ka' kc kc' (h1.kinds.on hg) (h2.kinds.on hg) m1 m1
  have hi := fun (W : World) (hg : w.grownBy W none) => rsame_any W c.init c.init ia ia' ic ic' (h1.init.on hg) (h2.init.on hg) m2 m2
  simp only [decide_true] at hk hi
  have HK := Lib.hid hk
  have HI := Lib.hid hi
  clear hk hi h1 h2 m1 m2 m3
  unfold codeV
  obtain ⟨nk, hnk⟩ : ∃ nk, nk = c.kinds.length := ⟨_, rfl⟩
  obtain ⟨ni, hni⟩ : ∃ ni, ni = c.init.length := ⟨_, rfl⟩
  obtain ⟨nb, hnb⟩ : ∃ nb, nb = c.body.length := ⟨_, rfl⟩
  rw [← hnb] at hm63
  have HNB := Lib.hid hnb
  rw [← hnk, ← hni, ← hnb]
  rw [← hnk] at HK
  rw [← hni] at HI
  clear hnk hni hnb
  generalize c.ins = x1
  generalize c.outs = x2
  generalize c.cells = x3
  generalize c.stack = x4
  have g2 : w.grownBy ((w.alloc (.cells #[.slice ka nk kc, .int .i64 x1, .int .i64 x2, .int .i64 x3, .int .i64 x4, .slice ia ni ic, .slice ba nb bc] 27)).alloc (.cells #[.slice ka' nk kc', .int .i64 x1, .int .i64 x2, .int .i64 x3, .int .i64 x4, .slice ia' ni ic', .slice ba' nb bc'] 27)) none := (World.grownBy_alloc w _ none).trans (World.grownBy_alloc _ _ none)
  have rA := alloc_row (heap_alloc_new w (.cells #[.slice ka nk kc, .int .i64 x1, .int .i64 x2, .int .i64 x3, .int .i64 x4, .slice ia ni ic, .slice ba nb bc] 27)) (.cells #[.slice ka' nk kc', .int .i64 x1, .int .i64 x2, .int .i64 x3, .int .i64 x4, .slice ia' ni ic', .slice ba' nb bc'] 27)
  have rB := heap_alloc_new (w.alloc (.cells #[.slice ka nk kc, .int .i64 x1, .int .i64 x2, .int .i64 x3, .int .i64 x4, .slice ia ni ic, .slice ba nb bc] 27)) (.cells #[.slice ka' nk kc', .int .i64 x1, .int .i64 x2, .int .i64 x3, .int .i64 x4, .slice ia' ni ic', .slice ba' nb bc'] 27)
  rw [World.size_alloc] at rB
  have H2 := Lib.hid (And.intro g2 (And.intro rA rB))
  clear g2 rA rB
  go_enter Tryz.func8, Tryz.ntmps8
  go_wp2_with (go_at_call 16; refine (HK.out _ H2.out.1).mono ?_; rintro e w3 ⟨rfl, hg3⟩; refine Hid.out ?_)
  have H3 := Lib.hid (And.intro (H2.out.1.trans hg3) (And.intro (kept_row H2.out.2.1 hg3) (kept_row H2.out.2.2 hg3)))
  clear hg3 H2
  have y5 := cell_of_row w3 _ 5 _ _ _ H3.out.2.1
  have z5 := cell_of_row w3 _ 5 _ _ _ H3.out.2.2
  refine Lib.hid ?_
  go_wp2_with (go_at_call 16; refine (HI.out _ H3.out.1).mono ?_; rintro e w4 ⟨rfl, hg4⟩; refine Hid.out ?_)
  have H4 := Lib.hid (And.intro (H3.out.1.trans hg4) (And.intro (kept_row H3.out.2.1 hg4) (kept_row H3.out.2.2 hg4)))
  clear hg4 H3 y5 z5 HK HI
  have y1 := cell_of_row w4 _ 1 _ _ _ H4.out.2.1
  have y2 := cell_of_row w4 _ 2 _ _ _ H4.out.2.1
  have y3 := cell_of_row w4 _ 3 _ _ _ H4.out.2.1
  have y4 := cell_of_row w4 _ 4 _ _ _ H4.out.2.1
  have y6 := cell_of_row w4 _ 6 _ _ _ H4.out.2.1
  have z1 := cell_of_row w4 _ 1 _ _ _ H4.out.2.2
  have z2 := cell_of_row w4 _ 2 _ _ _ H4.out.2.2
  have z3 := cell_of_row w4 _ 3 _ _ _ H4.out.2.2
  have z4 := cell_of_row w4 _ 4 _ _ _ H4.out.2.2
  have z6 := cell_of_row w4 _ 6 _ _ _ H4.out.2.2
  refine Lib.hid ?_
  go_wp2
  clear y1 y2 y3 y4 z1 z2 z3 z4
  go_loopw [7] (fun iv wr => ∃ t : Nat, t ≤ nb ∧ iv = .int .i64 (t : Int) ∧ Hid (w4.grownBy wr none)) (fun i _ => nb - (intOf i).toNat)
  case atStart => exact ⟨0, Nat.zero_le _, rfl, Lib.hid (World.grownBy.refl w4 none)⟩
  case round =>
    obtain ⟨t, ht, rfl, HT⟩ := hrel
    have p6 := HT.out.cell y6 (by simp)
    have q6 := HT.out.cell z6 (by simp)
    by_cases hlt : t < nb
    · obtain ⟨x, hx⟩ : ∃ x, c.body[t]? = some x := ⟨_, List.getElem?_eq_getElem (by rw [← HNB.out]; exact hlt)⟩
      obtain ⟨b1, o1, rfl, c1, c2, c3⟩ := HC.out.1.body t x hx
      obtain ⟨b2, o2, rfl, d1, d2, d3⟩ := HC.out.2.body t x hx
      have gg := H4.out.1.trans HT.out
      have c1 := gg.cell c1 (by simp)
      have c2 := gg.cell c2 (by simp)
      have c3 := gg.cell c3 (by simp)
      have d1 := gg.cell d1 (by simp)
      have d2 := gg.cell d2 (by simp)
      have d3 := gg.cell d3 (by simp)
      clear hx gg y6 z6
      go_wp2
      go_upto_region 8 with fail
      go_quiet (fail)
      go_wp2
      refine ⟨⟨t + 1, by omega, by go_num, Lib.hid ⟨HT.out.os, HT.out.tape, HT.out.output, HT.out.size, HT.out.block⟩⟩, by simp [intOf]; omega⟩
    · go_wp2
      go_ret
      exact ⟨rfl, H4.out.1.trans HT.out⟩

end Go.Proofs.YtfbhflpjhbemlaaGreat
