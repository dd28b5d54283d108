/- Package code: the walker's lead, next, isSlot, put. -/
import Derived.Test.YtlppifnepckpiaaCfC
namespace Go.Proofs.Ytlppifnepckpiaa
open Go.RowKit Go.Maps Go.WideMaps
open Cd (Kn)

theorem row_eqs (s t : Option (List Int)) : ∃ r : Bool, (∀ w, (binOp .eql 61 (.agg (rowC s).toArray) (.agg (rowC t).toArray)).run Try.prog w = .ok (.bool r) w) ∧ (r = true ↔ rowC s = rowC t) := by
  refine ⟨@decide (rowC s = rowC t) (Classical.propDecidable _), fun w => ?_, by simp⟩
  obtain ⟨r, h, hi⟩ := row_eq s t w
  have hr : r = @decide (rowC s = rowC t) (Classical.propDecidable _) := by
    by_cases hp : rowC s = rowC t
    · rw [hi.2 hp, @decide_eq_true _ (Classical.propDecidable _) hp]
    · rw [@decide_eq_false _ (Classical.propDecidable _) hp]
      cases r
      · rfl
      · exact absurd (hi.1 rfl) hp
  rw [h, hr]
theorem exec_load_mid {P : Program} {op : Oper} {a : Act} {w : World} (ty : TypeId) (x : Operand) (ho : op.op = .load ty x) (b o : Nat) (hx : a.eval x = .pointer (some ⟨b, o, none⟩)) (cs : List Value) (d : TypeDesc) (hc : w.rangeAt b o cs)
    (hu : P.underlying ty = some d) (hd : d.isRow = true) (hi : (P.info? ty).map (·.size) = some cs.length) : (execOp a.eval op).run P w = .ok (.value (.agg cs.toArray)) w := by
  unfold execOp
  simp only [ho, hx, Instr.loadAt, Instr.sureAddr, Sem.run_bind, Sem.run_pure, Result.andThen_ok, run_loadVar_mid w b o ty cs d hc hu hd hi]
theorem hold_ldS {P : Program} {ops : Array Oper} {rest : List Oper} {d : Option Tmp} {p : Operand} {ty : TypeId} {s : String} {af : Array Edge} {g : Option (Nat × Bool)} {a : Act} {w : World} {Q : Exit → Act → World → Prop}
    (hK : Hid (wpList P ops Q ({ dst := d, op := Op.load 61 p, type := ty, pos := s, after := af, guard := g } :: rest) a w)) :
    wpList P ops Q ({ dst := d, op := Op.load 61 p, type := ty, pos := s, after := af, guard := g } :: rest) a w := hK
theorem hold_stS {P : Program} {ops : Array Oper} {rest : List Oper} {d : Option Tmp} {p v : Operand} {ty : TypeId} {s : String} {af : Array Edge} {g : Option (Nat × Bool)} {a : Act} {w : World} {Q : Exit → Act → World → Prop}
    (hK : Hid (wpList P ops Q ({ dst := d, op := Op.store 61 p v, type := ty, pos := s, after := af, guard := g } :: rest) a w)) :
    wpList P ops Q ({ dst := d, op := Op.store 61 p v, type := ty, pos := s, after := af, guard := g } :: rest) a w := hK
theorem grown_drewN (w : World) (k : Nat) (row : Option Nat) : w.grownBy (w.drewN k) row := ⟨rfl, rfl, rfl, Nat.le_refl _, fun _ _ _ => rfl⟩

set_option maxHeartbeats 1000000 in
theorem lead_neg (b : Nat) (n : Int) (hn : n < 0) (w : World) :
    Calls Try.prog 57 #[.pointer (some ⟨b, 0, none⟩), .int .i64 n] w fun e w' => e = .returned (.bool false) ∧ w.grownBy w' none := by
  have hd : decide (n < 0) = true := by simpa using hn
  go_enter Try.func57, Try.ntmps57
  go_wp2
  go_quiet (fail)
  go_wp2
  go_ret
  exact ⟨rfl, grown_drewN _ _ _⟩

set_option maxHeartbeats 1000000 in
theorem lead_far (W : World) (b g : Nat) (cs : Array Value) (at_ : Nat) (s : Option (List Int)) (qs : Kn) (n : Int) (h0 : 0 ≤ n) (hq : qs.length ≤ 60000) (ha : at_ < qs.length) (hn : (qs.length : Int) - 1 - at_ ≤ n) (w : World) (h : Wk W w b g cs at_ s qs) :
    Calls Try.prog 57 #[.pointer (some ⟨b, 0, none⟩), .int .i64 n] w fun e w' => e = .returned (.bool false) ∧ w.grownBy w' none := by
  have hd : decide (n < 0) = false := by simpa using h0
  have c7 := h.place
  have c74 := h.ways
  have e1 : IntKind.i64.wrap ((qs.length : Int) - 1) = (qs.length : Int) - 1 := by rw [IntKind.wrap_i64]; omega
  have e2 : IntKind.i64.wrap ((qs.length : Int) - 1 - at_) = (qs.length : Int) - 1 - at_ := by rw [IntKind.wrap_i64]; omega
  have hf : decide ((qs.length : Int) - 1 - at_ ≤ n) = true := by simpa using hn
  clear h
  generalize qs.length = N at *
  go_enter Try.func57, Try.ntmps57
  go_wp2
  go_quiet (fail)
  go_wp2
  go_ret
  exact ⟨rfl, grown_drewN _ _ _⟩

theorem kp_setCells {X : List Nat} {b : Nat} (hb : b ∈ X) {w0 : World} : ∀ (vs : List Value) (o : Nat) (w : World), Kp X w0 w → Kp X w0 (w.setCells b o vs)
  | [], _, _, h => h
  | v :: r, o, _, h => kp_setCells hb r (o + 1) _ (h.set hb v)
theorem row_one (s : Option (List Int)) : (rowC s).toArray.all (·.oneCell') = true := all_oneCell_toArray (fun v hv => by
  simp only [rowC, List.mem_cons, List.mem_map] at hv
  rcases hv with rfl | rfl | ⟨_, _, rfl⟩ <;> rfl)
section
variable {W w : World} {b g : Nat} {cs : Array Value} {at_ : Nat} {s : Option (List Int)} {qs : Kn}
theorem Wk.tgi (h : Wk W w b g cs at_ s qs) {i : Nat} (hi : i < qs.length) : w.there g (i * 66) 66 := fun j hj => by
  have := h.tg (i * 66 + j) (by omega)
  rwa [Nat.zero_add] at this
theorem Wk.lay (h : Wk W w b g cs at_ s qs) {i : Nat} (hi : i < qs.length) (t : Option (List Int)) : Wk W (w.setCells g (i * 66) (rowC t)) b g cs at_ s (qs.set i t) ∧ Kp [b, g] w (w.setCells g (i * 66) (rowC t)) := by
  have hk : ∀ X, g ∈ X → Kp X w (w.setCells g (i * 66) (rowC t)) := fun X hX => kp_setCells hX _ _ _ (Kp.refl X w)
  have e1 : (w.setCells g (i * 66) (rowC t)).heap[b]? = w.heap[b]? := (hk [g] (by simp)).block b h.bl (by simp; exact h.ne)
  refine ⟨⟨Kp.grown h.grown (hk [g] (by simp)) (fun k hx => by simp at hx; subst hx; exact h.hg), h.hb, h.hg, h.ne, h.n7, rangeAt.of h.code e1, (cell_of_block e1).trans h.place, rangeAt.of h.now e1, ?_, there.of h.tb e1, fun j q hj => ?_, ?_⟩, hk _ (by simp)⟩
  · rw [List.length_set]
    exact (cell_of_block e1).trans h.ways
  · rw [List.getElem?_set] at hj
    by_cases hij : i = j
    · subst hij
      rw [if_pos rfl, if_pos hi] at hj
      obtain rfl := Option.some.inj hj
      exact World.rangeAt_setCells_same w g (i * 66) (rowC t) (by rw [rowC_len]; exact h.tgi hi)
    · rw [if_neg hij] at hj
      exact World.rangeAt_setCells_apart (h.rows j q hj) g (i * 66) (rowC t) (.inr (by rw [rowC_len, rowC_len]; omega))
  · rw [List.length_set]
    exact World.there_setCells h.tg g (i * 66) (rowC t)
theorem Wk.drewN (h : Wk W w b g cs at_ s qs) (m : Nat) : Wk W (w.drewN m) b g cs at_ s qs := ⟨⟨h.grown.os, h.grown.tape, h.grown.output, h.grown.size, h.grown.block⟩, h.hb, h.hg, h.ne, h.n7, h.code, h.place, h.now, h.ways, h.tb, h.rows, h.tg⟩
theorem Wk.drew (h : Wk W w b g cs at_ s qs) : Wk W w.drew b g cs at_ s qs := ⟨⟨h.grown.os, h.grown.tape, h.grown.output, h.grown.size, h.grown.block⟩, h.hb, h.hg, h.ne, h.n7, h.code, h.place, h.now, h.ways, h.tb, h.rows, h.tg⟩
end

def LdP (W w : World) (b g : Nat) (cs : Array Value) (at_ : Nat) (m : List Int) (qs : Kn) (n : Nat) (q : Option (List Int)) (e : Ending) (w' : World) : Prop := ∃ r : Bool, e = .returned (.bool r) ∧ (r = true ↔ rowC (some (q.getD m)) = rowC (some m)) ∧ Kp [b, g] w w' ∧ Wk W w' b g cs at_ (some m) (qs.set (at_ + 1 + n) (some (q.getD m)))
set_option maxHeartbeats 1000000 in
set_option maxRecDepth 100000 in
theorem lead_in (W : World) (b g : Nat) (cs : Array Value) (at_ : Nat) (m : List Int) (qs : Kn) (n : Nat) (hq : qs.length ≤ 60000) (ha : at_ < qs.length) (hn : at_ + 1 + n < qs.length) (q : Option (List Int)) (hqi : qs[at_ + 1 + n]? = some q) (w : World) (h : Wk W w b g cs at_ (some m) qs) :
    Calls Try.prog 57 #[.pointer (some ⟨b, 0, none⟩), .int .i64 (n : Int)] w (LdP W w b g cs at_ m qs n q) := by
  have hd : decide ((n : Int) < 0) = false := by simp
  have c7 := h.place
  have c74 := h.ways
  have e1 : IntKind.i64.wrap ((qs.length : Int) - 1) = (qs.length : Int) - 1 := by rw [IntKind.wrap_i64]; omega
  have e2 : IntKind.i64.wrap ((qs.length : Int) - 1 - at_) = (qs.length : Int) - 1 - at_ := by rw [IntKind.wrap_i64]; omega
  have e3 : IntKind.i64.wrap ((at_ : Int) + 1) = (at_ : Int) + 1 := by rw [IntKind.wrap_i64]; omega
  have e4 : IntKind.i64.wrap ((at_ : Int) + 1 + n) = (at_ : Int) + 1 + n := by rw [IntKind.wrap_i64]; omega
  have hf : decide ((qs.length : Int) - 1 - at_ ≤ n) = false := by rw [decide_eq_false_iff_not]; omega
  obtain ⟨r0, -, -⟩ := row_parts.1 (h.rows _ _ hqi)
  have HI := Lib.hid hqi
  have HL := Lib.hid hn
  have HW := Lib.hid h
  clear h hqi
  generalize hN : qs.length = N at c74 e1 e2 hf hq ha hn
  clear hN
  go_enter Try.func57, Try.ntmps57
  go_wp2
  go_quiet (fail)
  generalize nq = n1
  go_wp2
  go_quiet (fail)
  cases q with
  | none =>
    simp only [Option.isSome_none] at r0
    go_wp2_with (with_reducible refine hold_ldS ?_)
    refine Lib.hid ?_
    refine wpList_load_mid rfl 61 _ rfl b 8 rfl (rowC (some m)) _ HW.out.now Try.underlying61 rfl (by rw [rowC_len]; kernel_rfl) ?_
    go_wp2_with (with_reducible refine hold_stS ?_)
    refine Lib.hid ?_
    refine wpList_store_mid rfl 61 _ _ rfl g ((at_ + 1 + n) * 66) (rowC (some m)).toArray rfl rfl (by rw [List.size_toArray, rowC_len]; exact HW.out.tgi HL.out) (by rw [List.size_toArray, rowC_len]; kernel_rfl) (row_one _) ?_
    have HQ := Lib.hid ((HW.out.drewN (n1 + nq)).lay HL.out (some m))
    rw [List.toList_toArray]
    generalize hW2 : (w.drewN (n1 + nq)).setCells g ((at_ + 1 + n) * 66) (rowC (some m)) = W2 at HQ ⊢
    clear hW2
    go_wp2
    obtain ⟨rr, HE, HX⟩ := row_eqs (some m) (some m)
    have hS : W2.drew.rangeAt g ((at_ + 1 + n) * 66) (rowC (some m)) ∧ W2.drew.rangeAt b 8 (rowC (some m)) := ⟨HQ.out.1.rows _ _ (by rw [List.getElem?_set, if_pos rfl, if_pos HL.out]), HQ.out.1.now⟩
    refine wp_region_L (S := fun V => V.rangeAt g ((at_ + 1 + n) * 66) (rowC (some m)) ∧ V.rangeAt b 8 (rowC (some m))) (Z := []) (by kernel_rfl) ?_
    refine t1 0 46 (.pointer (some ⟨g, (at_ + 1 + n) * 66, none⟩)) hS ?_
    (try simp only [Act.put, sA, sB, sC])
    refine t1 1 47 (.pointer (some ⟨g, (at_ + 1 + n) * 66, none⟩)) hS ?_
    (try simp only [Act.put, sA, sB, sC])
    refine t2 2 48 (.agg (rowC (some m)).toArray) (fun w' hw' => ?_) hS ?_
    · exact exec_load_mid 61 _ rfl g ((at_ + 1 + n) * 66) rfl _ _ hw'.1 Try.underlying61 rfl (by rw [rowC_len]; kernel_rfl)
    (try simp only [Act.put, sA, sB, sC])
    refine t1 3 49 (.pointer (some ⟨b, 0, none⟩)) hS ?_
    (try simp only [Act.put, sA, sB, sC])
    refine t1 4 50 (.pointer (some ⟨b, 0, none⟩)) hS ?_
    (try simp only [Act.put, sA, sB, sC])
    refine t1 5 51 (.pointer (some ⟨b, 8, none⟩)) hS ?_
    (try simp only [Act.put, sA, sB, sC])
    refine t2 6 52 (.agg (rowC (some m)).toArray) (fun w' hw' => ?_) hS ?_
    · exact exec_load_mid 61 _ rfl b 8 rfl _ _ hw'.2 Try.underlying61 rfl (by rw [rowC_len]; kernel_rfl)
    (try simp only [Act.put, sA, sB, sC])
    refine t2 7 53 (.bool rr) (fun w' hw' => ?_) hS ?_
    · clear hw'
      have := HE w'
      have h3 := run_eqGuard_agg (P := Try.prog) w' .eql 61 (.tmp 48) (.tmp 52) (rowC (some m)).toArray (rowC (some m)).toArray (by kernel_rfl)
      go_simp
    (try simp only [Act.put, sA, sB, sC])
    refine t1 8 4 (.bool rr) hS ?_
    (try simp only [Act.put, sA, sB, sC])
    refine wpL_done (by kernel_rfl) ?_ _
    go_wp2
    go_ret
    exact ⟨rr, rfl, ⟨fun _ => rfl, fun _ => HX.2 trivial⟩, ⟨HQ.out.2.os, HQ.out.2.tape, HQ.out.2.output, HQ.out.2.size, HQ.out.2.block⟩, HQ.out.1.drew⟩
  | some k =>
    simp only [Option.isSome_some] at r0
    go_wp2
    obtain ⟨rr, HE, HX⟩ := row_eqs (some k) (some m)
    have hS : (w.drewN (n1 + nq)).drew.rangeAt g ((at_ + 1 + n) * 66) (rowC (some k)) ∧ (w.drewN (n1 + nq)).drew.rangeAt b 8 (rowC (some m)) := ⟨HW.out.rows _ _ HI.out, HW.out.now⟩
    refine wp_region_L (S := fun V => V.rangeAt g ((at_ + 1 + n) * 66) (rowC (some k)) ∧ V.rangeAt b 8 (rowC (some m))) (Z := []) (by kernel_rfl) ?_
    refine t1 0 46 (.pointer (some ⟨g, (at_ + 1 + n) * 66, none⟩)) hS ?_
    (try simp only [Act.put, sA, sB, sC])
    refine t1 1 47 (.pointer (some ⟨g, (at_ + 1 + n) * 66, none⟩)) hS ?_
    (try simp only [Act.put, sA, sB, sC])
    refine t2 2 48 (.agg (rowC (some k)).toArray) (fun w' hw' => ?_) hS ?_
    · exact exec_load_mid 61 _ rfl g ((at_ + 1 + n) * 66) rfl _ _ hw'.1 Try.underlying61 rfl (by rw [rowC_len]; kernel_rfl)
    (try simp only [Act.put, sA, sB, sC])
    refine t1 3 49 (.pointer (some ⟨b, 0, none⟩)) hS ?_
    (try simp only [Act.put, sA, sB, sC])
    refine t1 4 50 (.pointer (some ⟨b, 0, none⟩)) hS ?_
    (try simp only [Act.put, sA, sB, sC])
    refine t1 5 51 (.pointer (some ⟨b, 8, none⟩)) hS ?_
    (try simp only [Act.put, sA, sB, sC])
    refine t2 6 52 (.agg (rowC (some m)).toArray) (fun w' hw' => ?_) hS ?_
    · exact exec_load_mid 61 _ rfl b 8 rfl _ _ hw'.2 Try.underlying61 rfl (by rw [rowC_len]; kernel_rfl)
    (try simp only [Act.put, sA, sB, sC])
    refine t2 7 53 (.bool rr) (fun w' hw' => ?_) hS ?_
    · clear hw'
      have := HE w'
      have h3 := run_eqGuard_agg (P := Try.prog) w' .eql 61 (.tmp 48) (.tmp 52) (rowC (some k)).toArray (rowC (some m)).toArray (by kernel_rfl)
      go_simp
    (try simp only [Act.put, sA, sB, sC])
    refine t1 8 4 (.bool rr) hS ?_
    (try simp only [Act.put, sA, sB, sC])
    refine wpL_done (by kernel_rfl) ?_ _
    go_wp2
    go_ret
    exact ⟨rr, rfl, HX, (Kp.of0 (grown_drewN w (n1 + nq) none) [b, g]).drew, by
      simp only [Option.getD_some]
      rw [Cd.set_same _ _ _ HI.out]
      exact (HW.out.drewN (n1 + nq)).drew⟩

/-- what lead leaves -/
def LeP (W w : World) (b g : Nat) (cs : Array Value) (at_ : Nat) (m : List Int) (qs : Kn) (n : Int) (e : Ending) (w' : World) : Prop := e = .returned (.bool (Cd.lead m at_ n qs).isSome) ∧ Kp [b, g] w w' ∧ ∃ q', q'.length = qs.length ∧ Wk W w' b g cs at_ (some m) q' ∧ ∀ q, Cd.lead m at_ n qs = some q → q' = q
/-- the walker goes on to the place n and 1 behind -/
theorem lead_any (W : World) (b g : Nat) (cs : Array Value) (at_ : Nat) (m : List Int) (qs : Kn) (n : Int) (hm : m.length ≤ 64) (hls : ∀ l, some l ∈ qs → l.length ≤ 64) (hq : qs.length ≤ 60000) (ha : at_ < qs.length) (w : World) (h : Wk W w b g cs at_ (some m) qs) :
    Calls Try.prog 57 #[.pointer (some ⟨b, 0, none⟩), .int .i64 n] w fun e w' => LeP W w b g cs at_ m qs n e w' := by
  by_cases h0 : n < 0
  · refine (lead_neg b n h0 w).mono ?_
    rintro e w' ⟨rfl, hg⟩
    unfold LeP
    rw [Cd.lead_neg _ _ _ _ h0]
    exact ⟨rfl, Kp.of0 hg _, qs, rfl, h.on (by omega) hg, fun q hq => by cases hq⟩
  by_cases h1 : (qs.length : Int) - 1 - at_ ≤ n
  · refine (lead_far W b g cs at_ _ qs n (by omega) hq ha h1 w h).mono ?_
    rintro e w' ⟨rfl, hg⟩
    have e : Cd.lead m at_ n qs = none := by
      rw [Cd.lead, if_neg h0, List.getElem?_eq_none (by omega)]
    unfold LeP
    rw [e]
    exact ⟨rfl, Kp.of0 hg _, qs, rfl, h.on (by omega) hg, fun q hq => by cases hq⟩
  obtain ⟨k, rfl⟩ : ∃ k : Nat, n = k := ⟨n.toNat, by omega⟩
  have hlt : at_ + 1 + k < qs.length := by omega
  obtain ⟨q, hqi⟩ : ∃ q, qs[at_ + 1 + k]? = some q := ⟨_, List.getElem?_eq_getElem hlt⟩
  refine (lead_in W b g cs at_ m qs k hq ha hlt q hqi w h).mono ?_
  rintro e w' ⟨r, rfl, hr, hk, hw⟩
  cases q with
  | none =>
    have e : Cd.lead m at_ (k : Int) qs = some (qs.set (at_ + 1 + k) (some m)) := by
      rw [Cd.lead, if_neg h0, Int.toNat_natCast, hqi]
    unfold LeP
    rw [e, hr.2 rfl]
    exact ⟨rfl, hk, _, by simp, hw, fun q hq => Option.some.inj hq⟩
  | some l =>
    have hl : l.length ≤ 64 := hls l (List.mem_iff_getElem?.2 ⟨_, hqi⟩)
    simp only [Option.getD_some] at hr hw
    rw [Cd.set_same _ _ _ hqi] at hw
    by_cases hlm : l = m
    · have e : Cd.lead m at_ (k : Int) qs = some qs := by
        rw [Cd.lead, if_neg h0, Int.toNat_natCast, hqi]
        simp only
        rw [if_pos hlm]
      unfold LeP
      rw [e, hr.2 (by rw [hlm])]
      exact ⟨rfl, hk, _, rfl, hw, fun q hq => Option.some.inj hq⟩
    · have e : Cd.lead m at_ (k : Int) qs = none := by
        rw [Cd.lead, if_neg h0, Int.toNat_natCast, hqi]
        simp only
        rw [if_neg hlm]
      have hrf : r = false := by
        cases r
        · rfl
        · exact absurd (row_inj hl hm (hr.1 rfl)) hlm
      unfold LeP
      rw [e, hrf]
      exact ⟨rfl, hk, _, rfl, hw, fun q hq => by cases hq⟩
theorem next_any (W : World) (b g : Nat) (cs : Array Value) (at_ : Nat) (m : List Int) (qs : Kn) (hm : m.length ≤ 64) (hls : ∀ l, some l ∈ qs → l.length ≤ 64) (hq : qs.length ≤ 60000) (ha : at_ < qs.length) (w : World) (h : Wk W w b g cs at_ (some m) qs) :
    Calls Try.prog 53 #[.pointer (some ⟨b, 0, none⟩)] w fun e w' => LeP W w b g cs at_ m qs 0 e w' := by
  have hl := lead_any W b g cs at_ m qs 0 hm hls hq ha w h
  clear h
  go_enter Try.func53, Try.ntmps53
  go_wp2_with (go_at_call 57; refine hl.mono ?_; rintro e w' ⟨rfl, H⟩; have H := Lib.hid H)
  go_ret
  exact ⟨rfl, H.out⟩
end Go.Proofs.Ytlppifnepckpiaa
