/- Package code: an instruction is read; lists. -/
import Derived.Test.YtcjainfcndlllaaCgF
namespace Go.Proofs.Ytcjainfcndlllaa
open Go.RowKit Go.Maps Go.WideMaps

/-- what instruction leaves -/
def InP (M : Nat) (w : World) (A B : Nat) (l : List UInt8) (p : Nat) (e : Ending) (w' : World) : Prop := w.grownBy w' (some A) ∧ ∃ q, Rn M w' A B l q ∧ match Cd.rdN 3 (l.drop p) with
  | none => ∃ a b c : Int, e = .returned (.tuple #[.agg #[.int .i64 a, .int .i64 b, .int .i64 c], .bool false])
  | some (ns, r) => e = .returned (.tuple #[.agg ((ns.map (Value.int .i64)).toArray), .bool true]) ∧ l.drop q = r

theorem results_row_tmp {P : Program} {fn : Func} {p u : Tmp} {ty : TypeId} (h : fn.results = #[.cell p ty, .tmp u]) (tmps : Array Value) (w : World) (g : Nat) (t : TypeId) (cs : Array Value) (fr : Nat × Nat) (d : TypeDesc) (v : Value) (hv : tmps.getD u undef = v)
    (hp : tmps.getD p undef = .pointer (some ⟨g, 0, none⟩)) (hg : w.heap[g]? = some (.cells cs t fr))
    (hu : P.underlying ty = some d) (hd : (match d with | .struct _ | .array _ _ => true | _ => false) = true) (hi : (P.info? ty).map (·.size) = some cs.size) :
    (results fn tmps).run P w = .ok (.tuple #[.agg cs, v]) w := by
  have hp' : tmps[p]?.getD undef = .pointer (some ⟨g, 0, none⟩) := by simpa using hp
  have hv' : tmps[u]?.getD undef = v := by simpa using hv
  simp [results, h, hp', hv', asAddr, run_loadVar_row w g t ty cs fr d hg hu hd hi]
theorem set3 : ∀ (ms : List Int), ms.length ≤ 3 → ∃ a b c, setN 0 ms #[.int .i64 0, .int .i64 0, .int .i64 0] = #[.int .i64 a, .int .i64 b, .int .i64 c]
  | [], _ => ⟨0, 0, 0, rfl⟩
  | [a], _ => ⟨a, 0, 0, rfl⟩
  | [a, b], _ => ⟨a, b, 0, rfl⟩
  | [a, b, c], _ => ⟨a, b, c, rfl⟩
  | _ :: _ :: _ :: _ :: _, h => by simp at h

set_option maxHeartbeats 4000000 in
set_option maxRecDepth 100000 in
theorem instruction_any (M : Nat) (w : World) (A B : Nat) (l : List UInt8) (p : Nat) (hl : l.length ≤ 4000000) (hR : Rn M w A B l p) (hM : M ≤ w.heap.size) :
    Calls Try.prog 40 #[.agg (rdV A B)] w (InP M w A B l p) := by
  obtain ⟨w2, hw2⟩ : ∃ w2, w2 = (w.alloc (.cells (rdV A B) 75)).alloc (.cells #[.int .i64 0, .int .i64 0, .int .i64 0] 33) := ⟨_, rfl⟩
  have hz2 : w2.heap.size = w.heap.size + 1 + 1 := by rw [hw2, World.size_alloc, World.size_alloc]
  have hg2 : w.grownBy w2 none := by rw [hw2]; exact (World.grownBy_alloc w _ none).trans (World.grownBy_alloc _ _ none)
  have hx2 : w2.heap[w.heap.size + 1]? = some (.cells #[.int .i64 0, .int .i64 0, .int .i64 0] 33 (0, 0)) := by
    rw [hw2]
    have := heap_alloc_new (w.alloc (.cells (rdV A B) 75)) (.cells #[.int .i64 0, .int .i64 0, .int .i64 0] 33)
    rw [World.size_alloc] at this
    exact this
  obtain ⟨w3, hw3⟩ : ∃ w3, w3 = w2.alloc (.cells (ptrs (w.heap.size + 1) 0 3).toArray 78) := ⟨_, rfl⟩
  have hg3 : w.grownBy w3 none := by rw [hw3]; exact hg2.trans (World.grownBy_alloc w2 _ none)
  have hy3 : w3.heap[w.heap.size + 1 + 1]? = some (.cells (ptrs (w.heap.size + 1) 0 3).toArray 78 (0, 0)) := by
    rw [hw3]
    have := heap_alloc_new w2 (.cells (ptrs (w.heap.size + 1) 0 3).toArray 78)
    rw [hz2] at this
    exact this
  have hx3 : w3.heap[w.heap.size + 1]? = some (.cells #[.int .i64 0, .int .i64 0, .int .i64 0] 33 (0, 0)) := by rw [hw3]; exact row_alloc hx2 _
  have hA := gl hR.at_
  have hB : B < w.heap.size := by obtain ⟨a, c, h1, -⟩ := hR.box; exact gl h1
  have hcall := numbers_any M w3 A B (w.heap.size + 1) (w.heap.size + 1 + 1) 33 0 3 #[.int .i64 0, .int .i64 0, .int .i64 0] l p hl (by decide) (hR.on hg3) hx3 (by decide) hy3 ⟨by omega, by omega, by omega, by omega⟩ (by omega)
  have HG3 := Lib.hid (And.intro hg3 (And.intro hA hB))
  have e3 : w3 = ((w.alloc (.cells (rdV A B) 75)).alloc (.cells #[.int .i64 0, .int .i64 0, .int .i64 0] 33)).alloc (.cells (ptrs (w.heap.size + 1) 0 3).toArray 78) := by rw [hw3, hw2]
  have HMW : Hid (M ≤ w.heap.size + 1) := Lib.hid (by omega)
  clear hw3 hw2 hz2 hg2 hx2 hg3 hy3 hx3 hA hB hR hM
  have hfin : ∀ V : World, Kp [A, w.heap.size + 1] w3 V → w.grownBy V (some A) := fun V hk => by
    have h1 := HG3.out.1
    refine ⟨hk.os.trans h1.os, hk.tape.trans h1.tape, hk.output.trans h1.output, Nat.le_trans h1.size hk.size, fun k hkk hne => ?_⟩
    exact (hk.block k (Nat.lt_of_lt_of_le hkk h1.size) (by simp; exact ⟨fun e => hne (by rw [e]), by omega⟩)).trans (h1.block k hkk (by simp))
  have hgo : ∀ Wx, Wx = w3 → ∀ (f : Ending → World → Prop), (∀ e V, NsP M w3 A B (w.heap.size + 1) 33 0 3 #[.int .i64 0, .int .i64 0, .int .i64 0] l p e V → f e V) → Calls Try.prog 37 #[.agg (rdV A B), .slice (some ⟨w.heap.size + 1 + 1, 0, none⟩) 3 3] Wx f := fun Wx e f hf => by rw [e]; exact hcall.mono hf
  have HGO := hgo _ e3.symm
  clear hgo hcall
  unfold rdV at HGO ⊢
  have hend : ∀ (V : World) (q : Nat) (a b c : Int), w.grownBy V (some A) → Rn M V A B l q → V.heap[w.heap.size + 1]? = some (.cells #[.int .i64 a, .int .i64 b, .int .i64 c] 33 (0, 0)) → Hid (w.grownBy (((V.setCell ⟨w.heap.size + 1, 0, none⟩ (.int .i64 a)).setCell ⟨w.heap.size + 1, 1, none⟩ (.int .i64 b)).setCell ⟨w.heap.size + 1, 2, none⟩ (.int .i64 c)) (some A) ∧ Rn M (((V.setCell ⟨w.heap.size + 1, 0, none⟩ (.int .i64 a)).setCell ⟨w.heap.size + 1, 1, none⟩ (.int .i64 b)).setCell ⟨w.heap.size + 1, 2, none⟩ (.int .i64 c)) A B l q ∧ (((V.setCell ⟨w.heap.size + 1, 0, none⟩ (.int .i64 a)).setCell ⟨w.heap.size + 1, 1, none⟩ (.int .i64 b)).setCell ⟨w.heap.size + 1, 2, none⟩ (.int .i64 c)).heap[w.heap.size + 1]? = some (.cells #[.int .i64 a, .int .i64 b, .int .i64 c] 33 (0, 0))) := fun V q a b c hg hr hx => by
    have hk : Kp [w.heap.size + 1] V (((V.setCell ⟨w.heap.size + 1, 0, none⟩ (.int .i64 a)).setCell ⟨w.heap.size + 1, 1, none⟩ (.int .i64 b)).setCell ⟨w.heap.size + 1, 2, none⟩ (.int .i64 c)) := (((Kp.refl _ V).set (by simp) _).set (by simp) _).set (by simp) _
    refine Lib.hid ⟨⟨hk.os.trans hg.os, hk.tape.trans hg.tape, hk.output.trans hg.output, Nat.le_trans hg.size hk.size, fun k hkk hne => ?_⟩, hr.kp hk (by simp; have := HG3.out.2.1; omega) (by simp; have := HG3.out.2.2; omega) (fun x hx => by simp at hx; rw [hx]; exact HMW.out), ?_⟩
    · exact (hk.block k (Nat.lt_of_lt_of_le hkk hg.size) (by simp; omega)).trans (hg.block k hkk hne)
    · exact heap_setCell_same _ _ 2 _ _ _ (heap_setCell_same _ _ 1 _ _ _ (heap_setCell_same _ _ 0 _ _ _ hx))
  cases hrd : Cd.rdN 3 (l.drop p) with
  | none =>
    have hc := HGO (fun e V => e = .returned (.bool false) ∧ w.grownBy V (some A) ∧ ∃ q a b c, Rn M V A B l q ∧ V.heap[w.heap.size + 1]? = some (.cells #[.int .i64 a, .int .i64 b, .int .i64 c] 33 (0, 0))) (fun e V H => by
      obtain ⟨h1, q, ms, h2, h3, h4, h5⟩ := H
      rw [hrd] at h5
      obtain ⟨a, b, c, h6⟩ := set3 ms h4
      exact ⟨h5, hfin V h1, q, a, b, c, h2, by rw [h3, h6]⟩)
    clear HGO e3 hfin
    go_enter Try.func40, Try.ntmps40
    go_wp2_with (go_at_call 37; refine hc.mono ?_; rintro e V ⟨rfl, hg, q, a, b, c, hr, hx⟩; have c0 := cell_of_row V _ 0 _ _ _ hx; have c1 := cell_of_row V _ 1 _ _ _ hx; have c2 := cell_of_row V _ 2 _ _ _ hx; have f0 : V.frozen? ⟨w.heap.size + 1, 0, none⟩ = false := (by simp [World.frozen?, hx]); have f1 : V.frozen? ⟨w.heap.size + 1, 1, none⟩ = false := (by simp [World.frozen?, hx]); have f2 : V.frozen? ⟨w.heap.size + 1, 2, none⟩ = false := (by simp [World.frozen?, hx]); have HV := hend V q a b c hg hr hx; clear hg hr hx)
    exact bodyPost_ret (results_row_tmp rfl _ _ (w.heap.size + 1) 33 _ (0, 0) _ (.bool false) rfl rfl HV.out.2.2 Try.underlying33 rfl (by kernel_rfl)) rfl ⟨HV.out.1, q, HV.out.2.1, by rw [hrd]; exact ⟨_, _, _, rfl⟩⟩
  | some x =>
    obtain ⟨ns, r⟩ := x
    obtain ⟨a, b, c, rfl⟩ : ∃ a b c, ns = [a, b, c] := by
      have := rdN_len _ _ _ _ hrd
      match ns, this with
      | [a, b, c], _ => exact ⟨a, b, c, rfl⟩
    have hc := HGO (fun e V => e = .returned (.bool true) ∧ w.grownBy V (some A) ∧ ∃ q, Rn M V A B l q ∧ V.heap[w.heap.size + 1]? = some (.cells #[.int .i64 a, .int .i64 b, .int .i64 c] 33 (0, 0)) ∧ l.drop q = r) (fun e V H => by
      obtain ⟨h1, q, ms, h2, h3, h4, h5⟩ := H
      rw [hrd] at h5
      obtain ⟨h6, h7, rfl⟩ := h5
      exact ⟨h6, hfin V h1, q, h2, h3, h7⟩)
    clear HGO e3 hfin
    go_enter Try.func40, Try.ntmps40
    go_wp2_with (go_at_call 37; refine hc.mono ?_; rintro e V ⟨rfl, hg, q, hr, hx, hq⟩; have c0 := cell_of_row V _ 0 _ _ _ hx; have c1 := cell_of_row V _ 1 _ _ _ hx; have c2 := cell_of_row V _ 2 _ _ _ hx; have f0 : V.frozen? ⟨w.heap.size + 1, 0, none⟩ = false := (by simp [World.frozen?, hx]); have f1 : V.frozen? ⟨w.heap.size + 1, 1, none⟩ = false := (by simp [World.frozen?, hx]); have f2 : V.frozen? ⟨w.heap.size + 1, 2, none⟩ = false := (by simp [World.frozen?, hx]); have HV := hend V q a b c hg hr hx; clear hg hr hx)
    exact bodyPost_ret (results_row_tmp rfl _ _ (w.heap.size + 1) 33 _ (0, 0) _ (.bool true) rfl rfl HV.out.2.2 Try.underlying33 rfl (by kernel_rfl)) rfl ⟨HV.out.1, q, HV.out.2.1, by rw [hrd]; exact ⟨rfl, hq⟩⟩
end Go.Proofs.Ytcjainfcndlllaa
