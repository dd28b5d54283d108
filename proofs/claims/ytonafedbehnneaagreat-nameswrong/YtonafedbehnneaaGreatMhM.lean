/- My texts NoB NoC NoD NoE NoF NoG NoH NoI NoJ NoK, joined. -/
import Derived.Test.YtonafedbehnneaaGreatMhL
set_option linter.unusedVariables false
set_option linter.unusedSimpArgs false
set_option linter.unnecessarySimpa false
set_option linter.unusedSectionVars false
set_option maxHeartbeats 12800000
set_option maxRecDepth 20000
namespace Go.Proofs.YtonafedbehnneaaGreat
open Go.RowKit Go.Maps Go.WideMaps
open Nam (St F)
theorem eqNames_short {a : Int} {st : St} : ∀ {ns D : List (List UInt8)} {x : F × List (List UInt8)}, Nam.eqNames a st ns D = some x → (∀ s ∈ D, Nam.short s = true) → ∀ s ∈ x.2, Nam.short s = true
 | [], D, x, h, hD => by unfold Nam.eqNames at h; cases h; exact hD
 | s :: r, D, x, h, hD => by
  unfold Nam.eqNames at h
  split at h
  ·rename_i hc
   split at h
   ·split at h
    ·cases h; exact hD
    ·refine eqNames_short h (fun y hy => ?_)
     rcases List.mem_append.1 hy with h1 | h1
     ·exact hD y h1
     ·simp at h1; subst h1; exact (Bool.and_eq_true _ _ ▸ hc).1
   ·cases h; exact hD
  ·cases h
theorem dropAll_sub : ∀ {ls : List Gram.Var} {D D' : List (List UInt8)}, Nam.dropAll D ls = some D' → ∀ s ∈ D', s ∈ D
 | [], D, D', h => by unfold Nam.dropAll at h; cases h; exact fun _ h => h
 | v :: r, D, D', h => by
  unfold Nam.dropAll at h
  split at h
  ·intro s hs
   have := dropAll_sub h s hs
   unfold Nam.drop at this
   exact (List.mem_filter.1 this).1
  ·cases h
theorem state_sub {items : List Gram.Item → St → Option ((List (List UInt8) × F) × St)} (hi : ∀ its st x, items its st = some x → ∀ s ∈ x.1.1, Nam.short s = true) {O : List (List UInt8)} {s : Gram.State} {x : Nam.SS} {r : F × Nam.SS} {D : List (List UInt8)} (h : Nam.state items O s x = some r) (h0 : r.1.2 = 0) (hD : r.2.2 = some D) : ∀ s ∈ D, Nam.short s = true := by
 cases s with
 | mk n us ut ls its a =>
 unfold Nam.state at h
 obtain ⟨x1, _, _, h⟩ := ord_cons h h0
 obtain ⟨x2, _, _, h⟩ := ord_cons h h0
 obtain ⟨x3, _, _, h⟩ := ord_cons h h0
 obtain ⟨x4, _, _, h⟩ := ord_cons h h0
 obtain ⟨x5, e5, _, h⟩ := ord_cons h h0
 obtain ⟨x6, e6, _, h⟩ := ord_cons h h0
 obtain ⟨x7, e7, _, h⟩ := ord_cons h h0
 obtain ⟨x8, e8, _, h⟩ := ord_cons h h0
 unfold Nam.inOrder at h
 cases h
 have q5 : ∃ D, x5.2.2 = some D ∧ ∀ s ∈ D, Nam.short s = true := by
  unfold Nam.sItems at e5
  split at e5
  ·cases e5
  ·rename_i y hy
   cases e5; exact ⟨_, rfl, hi _ _ _ hy⟩
 have q6 : x6.2.2 = x5.2.2 := by
  unfold Nam.sMissing at e6
  split at e6
  ·cases e6
  ·cases e6; rfl
 have q7 : x7.2.2 = x6.2.2 := by
  unfold Nam.sTrans at e7
  split at e7
  ·cases e7
  ·cases e7; rfl
 obtain ⟨D1, q5, hl⟩ := q5
 rw [q6, q5] at q7
 unfold Nam.sLeave at e8
 split at e8
 ·cases e8
 ·rw [q7] at e8
  simp only at e8
  split at e8
  ·cases e8
  ·rename_i D' hD'
   cases e8
   cases hD
   exact fun s hs => hl s (dropAll_sub hD' s hs)
theorem each_short {items : List Gram.Item → St → Option ((List (List UInt8) × F) × St)} (hi : ∀ its st x, items its st = some x → ∀ s ∈ x.1.1, Nam.short s = true) {O : List (List UInt8)} : ∀ {ss : List Gram.State} {acc : List (List (List UInt8))} {st : St} {y : (List (List (List UInt8)) × F) × St}, Nam.each items O ss acc st = some y → y.1.2.2 = 0 → (∀ D ∈ acc, ∀ s ∈ D, Nam.short s = true) → ∀ D ∈ y.1.1, ∀ s ∈ D, Nam.short s = true
 | [], acc, st, y, h, h0, ha => by unfold Nam.each at h; cases h; exact ha
 | s :: r, acc, st, y, h, h0, ha => by
  unfold Nam.each at h
  split at h
  ·cases h
  ·rename_i x hx
   split at h
   ·rename_i hz
    refine each_short hi h h0 (fun D hD => ?_)
    rcases List.mem_append.1 hD with h1 | h1
    ·exact ha D h1
    ·obtain ⟨D1, e1⟩ := state_some hx hz
     have := state_sub hi hx hz e1
     rw [e1] at h1
     simp at h1
     subst h1
     exact this
   ·rename_i hz
    cases h
    exact absurd h0 hz
theorem states_short {items : List Gram.Item → St → Option ((List (List UInt8) × F) × St)} (hi : ∀ its st x, items its st = some x → ∀ s ∈ x.1.1, Nam.short s = true) {ss : List Gram.State} {st : St} {x : (List (List UInt8) × F) × St} (h : Nam.states items ss st = some x) : ∀ s ∈ x.1.1, Nam.short s = true := by
 unfold Nam.states at h
 split at h
 ·cases h
 ·split at h
  ·split at h
   ·cases h
   ·rename_i y hy
    split at h
    ·rename_i hz
     split at h
     ·cases h
     ·cases h
      have := each_short hi hy hz (by simp)
      cases hq : y.1.1 with
      | nil => simp
      | cons a l => rw [hq] at this; exact this a (by simp)
    ·cases h; simp
  ·cases h; simp
theorem item_short {items : List Gram.Item → St → Option ((List (List UInt8) × F) × St)} (hi : ∀ its st x, items its st = some x → ∀ s ∈ x.1.1, Nam.short s = true) {i : Gram.Item} {D : List (List UInt8)} {st : St} {x : (List (List UInt8) × F) × St} (h : Nam.item items i D st = some x) (hD : ∀ s ∈ D, Nam.short s = true) : ∀ s ∈ x.1.1, Nam.short s = true := by
 obtain ⟨ns, e, ss, a⟩ := i
 rw [Nam.item] at h
 split at h
 ·split at h
  ·cases h
  ·rename_i y hy
   split at h
   ·split at h
    ·cases h
    ·cases h; exact eqNames_short hy hD
   ·cases h; simp
 ·split at h
  ·cases h
  ·rename_i y hy
   split at h
   ·split at h
    ·split at h
     ·cases h; simp
     ·cases h
      intro s hs
      rcases List.mem_append.1 hs with h1 | h1
      ·exact hD s h1
      ·exact states_short hi hy s h1
    ·cases h
   ·cases h; simp
theorem listI_short {items : List Gram.Item → St → Option ((List (List UInt8) × F) × St)} (hi : ∀ its st x, items its st = some x → ∀ s ∈ x.1.1, Nam.short s = true) : ∀ {its : List Gram.Item} {D : List (List UInt8)} {st : St} {x : (List (List UInt8) × F) × St}, Nam.listI items its D st = some x → (∀ s ∈ D, Nam.short s = true) → ∀ s ∈ x.1.1, Nam.short s = true
 | [], D, st, x, h, hD => by unfold Nam.listI at h; cases h; exact hD
 | i :: r, D, st, x, h, hD => by
  unfold Nam.listI at h
  split at h
  ·cases h
  ·rename_i y hy
   split at h
   ·exact listI_short hi h (item_short hi hy hD)
   ·cases h; simp
theorem items_short : ∀ (f : Nat) (its : List Gram.Item) (st : St) (x : (List (List UInt8) × F) × St), Nam.items f its st = some x → ∀ s ∈ x.1.1, Nam.short s = true
 | 0, its, st, x, h => by unfold Nam.items at h; cases h
 | f + 1, its, st, x, h => by unfold Nam.items at h; exact listI_short (items_short f) h (by simp)
theorem len_sub {α : Type} [BEq α] [LawfulBEq α] : ∀ {L M : List α}, L.Nodup → (∀ x ∈ L, x ∈ M) → L.length ≤ M.length
 | [], M, _, _ => by simp
 | a :: l, M, hn, hs => by
  have ha := hs a (by simp)
  have hn2 := List.nodup_cons.1 hn
  have := len_sub (M := M.erase a) hn2.2 (fun x hx => (List.mem_erase_of_ne (show x ≠ a from fun e => hn2.1 (by rw [← e]; exact hx))).2 (hs x (by simp [hx])))
  rw [List.length_erase_of_mem ha] at this
  have := List.length_pos_of_mem ha
  simp; omega
theorem SetAt.as {w : World} {b n : Nat} {L M : List (List UInt8)} (h : SetAt w b n L) (hL : L.Nodup) (hM : M.Nodup) (hs : ∀ s, L.contains s = M.contains s) : SetAt w b n M := by
 obtain ⟨D, h1, h2, h3⟩ := h
 refine ⟨D, h1, fun s => (h2 s).trans (hs s), h3.trans ?_⟩
 have a1 := len_sub hL (fun x hx => by have := hs x; simp at this; exact this.1 hx)
 have a2 := len_sub hM (fun x hx => by have := hs x; simp at this; exact this.2 hx)
 omega
open Go.RowKit Go.Maps Go.WideMaps
open Nam (St F)
def AuZ (A : Adr) (w0 w : World) (lb db fb : Nat) (lo : Obj) (xa xe : Int) (o : Option Nat) (st2 : St) (D D1 : List (List UInt8)) (W : World) : Prop :=
 Kp [A.b1, A.b2] w W ∧ W.heap[fb]? = some (.cells #[.int .i64 xa, .int .i64 xe] 63 (0, 0)) ∧ W.heap[lb]? = some lo ∧ W.heap[w.heap.size]? = some fo ∧ w.heap.size < fb ∧ SetAt W db D.length D ∧ (xe = 0 → Ck w0 W A st2 ∧ ∃ k, o = some k ∧ w.heap.size < k ∧ SetAt W k D1.length D1 ∧ D1.Nodup)
theorem lAuto_any (f : Nat) (hC : CIt f) (A : Adr) (w0 w : World) (st : St) (lb db : Nat) (na ka qa : Option Addr) (nn nc kn kc qn qc : Nat) (f1 s1 tk1 tl1 n1 m1 a1 at_ : Int) (nm1 : List UInt8) (ns : List (List UInt8)) (e : Gram.Exp) (ss : List Gram.State) (D : List (List UInt8)) (h : Ck w0 w A st) (hlb : w.heap[lb]? = some (.cells #[.pointer (some ⟨A.c, 0, none⟩), .slice na nn nc, .int .i64 f1, .int .i64 s1, .string ⟨nm1.toArray⟩, .int .i64 tk1, .int .i64 tl1, .int .i64 n1, .int .i64 m1, .slice ka kn kc, .int .i64 a1, .slice qa qn qc, .int .i64 at_, .map (some db)] 115 (0, 0))) (hlA : lb ∉ [A.c, A.m, A.b0, A.b1, A.b2]) (hv : RepC w0 0 [] (.l 119 6 (statesD ss)) (.slice qa qn qc)) (hpos : 0 < ss.length) (hD : SetAt w db D.length D) (hDn : D.Nodup) (hne : lb ≠ db) (hd0 : w0.heap.size ≤ db) (hdA : db ∉ [A.c, A.m, A.b0, A.b1, A.b2]) (ra re : Int) (D' : List (List UInt8)) (r2 : St) (hr : Nam.item (Nam.items f) (.mk ns e ss at_) D st = some ((D', (ra, re)), r2)) :
  Calls Tryz.prog 80 #[.pointer (some ⟨lb, 0, none⟩)] w fun e w' => e = .returned (.agg #[.int .i64 ra, .int .i64 re]) ∧ Kp [A.b1, A.b2, db] w w' ∧ (re = 0 → Ck w0 w' A r2 ∧ SetAt w' db D'.length D' ∧ D'.Nodup) := by
 have hne0 : ss.isEmpty = false := by cases ss with
  | nil => simp at hpos
  | cons a l => rfl
 rw [Nam.item, if_neg (by rw [hne0]; decide)] at hr
 cases hxe : Nam.states (Nam.items f) ss st with
 | none => rw [hxe] at hr; cases hr
 | some xr =>
 rw [hxe] at hr
 obtain ⟨⟨D1, xa, xe⟩, st2⟩ := xr
 simp only at hr
 have hsh := states_short (items_short f) hxe
 simp only at hsh
 have hcall := fun V (hV : w.grownBy V none) => states_any f hC A w0 V st ss qa qn qc D1 xa xe st2 (h.kept hV) hv hpos hxe
 obtain ⟨W1, hW1⟩ : ∃ W1, W1 = w.alloc fo := ⟨_, rfl⟩
 have hg1 : w.grownBy W1.drew none := by rw [hW1]; exact gdrew (ga w fo none)
 have hs1 : W1.drew.heap.size = w.heap.size + 1 := by rw [hW1]; show (w.alloc fo).heap.size = _; simp
 have hs1' : W1.heap.size = w.heap.size + 1 := hs1
 have hce : W1.drew.heap[w.heap.size]? = some fo := by rw [hW1]; exact heap_alloc_new w fo
 have hll := (gl hlb)
 have hS0 : (fun W' => W'.heap[lb]? = some (.cells #[.pointer (some ⟨A.c, 0, none⟩), .slice na nn nc, .int .i64 f1, .int .i64 s1, .string ⟨nm1.toArray⟩, .int .i64 tk1, .int .i64 tl1, .int .i64 n1, .int .i64 m1, .slice ka kn kc, .int .i64 a1, .slice qa qn qc, .int .i64 at_, .map (some db)] 115 (0, 0))) W1.drew := (hg1.block _ hll (by simp)).trans hlb
 have hlt := h.lt
 have hlm := h.mm.lt
 have hb := h.base.size
 have hld := hD.lt
 simp only [List.mem_cons, List.not_mem_nil, or_false, not_or] at hlA hdA
 have HD := ld hD
 have HF := ld hW1
 have HG := ld hg1
 have HR := ld hr
 have HSH := ld hsh
 have HCA := ld hcall
 clear hW1 hlb h hr hv hxe hC hD hsh hcall hne0
 go_enter Tryz.func80, Tryz.ntmps80
 go_wp2
 rw [show (Obj.cells #[Value.int .i64 0, Value.int .i64 0] 63) = fo from rfl, ← HF.out]
 refine wp_region_L2 (S := fun W' => W'.heap[lb]? = some (.cells #[.pointer (some ⟨A.c, 0, none⟩), .slice na nn nc, .int .i64 f1, .int .i64 s1, .string ⟨nm1.toArray⟩, .int .i64 tk1, .int .i64 tl1, .int .i64 n1, .int .i64 m1, .slice ka kn kc, .int .i64 a1, .slice qa qn qc, .int .i64 at_, .map (some db)] 115 (0, 0))) (by kernel_rfl) ?_
 clear HF
 refine t1 0 7 (.pointer (some ⟨lb, 0, none⟩)) hS0 ?_
 (try simp only [Act.put, sA, sB, sC])
 refine t1 1 8 (.pointer (some ⟨lb, 0, none⟩)) hS0 ?_
 (try simp only [Act.put, sA, sB, sC])
 refine t1 2 9 (.pointer (some ⟨lb, 0, none⟩)) hS0 ?_
 (try simp only [Act.put, sA, sB, sC])
 refine t2 3 10 (.pointer (some ⟨A.c, 0, none⟩)) (fun w' hw' => ?_) hS0 ?_
 ·have hc0 := cell_of_row w' _ 0 _ _ _ (hw'); clear hw'; go_simp
 (try simp only [Act.put, sA, sB, sC])
 refine t1 4 11 (.pointer (some ⟨lb, 0, none⟩)) hS0 ?_
 (try simp only [Act.put, sA, sB, sC])
 refine t1 5 12 (.pointer (some ⟨lb, 0, none⟩)) hS0 ?_
 (try simp only [Act.put, sA, sB, sC])
 refine t1 6 13 (.pointer (some ⟨lb, 1, none⟩)) hS0 ?_
 (try simp only [Act.put, sA, sB, sC])
 refine t1 7 14 (.pointer (some ⟨lb, 11, none⟩)) hS0 ?_
 (try simp only [Act.put, sA, sB, sC])
 refine t2 8 15 (.slice qa qn qc) (fun w' hw' => ?_) hS0 ?_
 ·have hc0 := cell_of_row w' _ 11 _ _ _ (hw'); clear hw'; go_simp
 (try simp only [Act.put, sA, sB, sC])
 refine wpL_both (i := 9) (j := 13) (by kernel_rfl) ?_ ?_
 ·refine wpOp_call (d := 16) (R := fun v w' => ∃ o, v = .tuple #[.map o, .agg #[.int .i64 xa, .int .i64 xe]] ∧ itPost A w0 W1.drew ((D1, (xa, xe)), st2) o w') rfl (by kernel_rfl) (by kernel_rfl) (by kernel_rfl) ((HCA.out _ HG.out).mono fun e w' he => let ⟨o, h1, h2⟩ := he; ⟨_, h1, o, rfl, h2⟩) (fun v w2 h => ?_)
  obtain ⟨o, rfl, hip⟩ := h
  have hS2 : (fun W' => W'.heap[lb]? = some (.cells #[.pointer (some ⟨A.c, 0, none⟩), .slice na nn nc, .int .i64 f1, .int .i64 s1, .string ⟨nm1.toArray⟩, .int .i64 tk1, .int .i64 tl1, .int .i64 n1, .int .i64 m1, .slice ka kn kc, .int .i64 a1, .slice qa qn qc, .int .i64 at_, .map (some db)] 115 (0, 0))) w2 := hip.1.at hS0 (by simp; omega)
  have hce2 := hip.1.at hce (by simp; omega)
  refine ⟨fun _ => hS2, ?_⟩
  (try simp only [Act.put, sA, sB, sC])
  refine t1 10 6 (.tuple #[.map o, .agg #[.int .i64 xa, .int .i64 xe]]) hS2 ?_
  (try simp only [Act.put, sA, sB, sC])
  refine t1 11 17 (.map o) hS2 ?_
  (try simp only [Act.put, sA, sB, sC])
  refine t1 12 18 (.agg #[.int .i64 xa, .int .i64 xe]) hS2 ?_
  (try simp only [Act.put, sA, sB, sC])
  refine wpL_val (i := 13) (d := 4) (v := .pointer (some ⟨w2.heap.size, 0, none⟩)) (w' := w2.alloc fo) (by kernel_rfl) rfl (by kernel_rfl) (by kernel_rfl) (by kernel_rfl) (((ga w2 fo none).block _ (gl hS2) (by simp)).trans hS2) ?_
  (try simp only [Act.put, sA, sB, sC])
  have hS4 : (fun W' => W'.heap[lb]? = some (.cells #[.pointer (some ⟨A.c, 0, none⟩), .slice na nn nc, .int .i64 f1, .int .i64 s1, .string ⟨nm1.toArray⟩, .int .i64 tk1, .int .i64 tl1, .int .i64 n1, .int .i64 m1, .slice ka kn kc, .int .i64 a1, .slice qa qn qc, .int .i64 at_, .map (some db)] 115 (0, 0))) (w2.alloc fo) := ((ga w2 fo none).block _ (gl hS2) (by simp)).trans hS2
  have hl2 := (gl hS2)
  have hc2 := (gl hce2)
  refine t1 14 3 (.map o) hS4 ?_
  (try simp only [Act.put, sA, sB, sC])
  refine wpL_store (i := 15) w2.heap.size #[.int .i64 xa, .int .i64 xe] _ 63 63 _ _ (by kernel_rfl) rfl (by kernel_rfl) (by kernel_rfl) rfl rfl rfl (heap_alloc_new w2 fo) (by kernel_rfl) rfl (by kernel_rfl) (fun w7 hh7 hg7 => ⟨(hg7.block _ (gl hS4) (by simp; omega)).trans hS4, ?_⟩)
  (try simp only [Act.put, sA, sB, sC])
  have hg27 : w2.grownBy w7 none := (ga w2 fo none).andThen hg7 (fun j e => .inl (by cases e; exact Nat.le_refl _))
  have hz : AuZ A w0 w lb db w2.heap.size (.cells #[.pointer (some ⟨A.c, 0, none⟩), .slice na nn nc, .int .i64 f1, .int .i64 s1, .string ⟨nm1.toArray⟩, .int .i64 tk1, .int .i64 tl1, .int .i64 n1, .int .i64 m1, .slice ka kn kc, .int .i64 a1, .slice qa qn qc, .int .i64 at_, .map (some db)] 115 (0, 0)) xa xe o st2 D D1 w7 := ⟨((Kp.of0 HG.out _).trans hip.1).trans (Kp.of0 hg27 _), hh7, (hg27.block _ hl2 (by simp)).trans hS2, (hg27.block _ hc2 (by simp)).trans hce2, hc2, (((HD.out.kept HG.out).keptK hip.1 (by simp; omega)).kept hg27), fun e => let ⟨c1, k, c2, c3, c4, c5⟩ := hip.2 e; ⟨c1.kept hg27, k, c2, by omega, c4.kept hg27, c5⟩⟩
  have HZ := ld hz
  clear hz hg27 hh7 hg7 hS4 hS2 hce2 hip hl2 hc2 hS0 hce hs1 hs1'
  refine wpL_done (by kernel_rfl) ?_ _
  have hfd := found_any (xa, xe)
  simp only [fv] at hfd
  have d0 := cell_of_row w7 _ 0 _ _ _ HZ.out.2.1
  have d1 := cell_of_row w7 _ 1 _ _ _ HZ.out.2.1
  by_cases h0 : xe = 0
  ·have hb0 : (xe != 0) = false := by simp [h0]
   rw [hb0] at hfd
   clear hb0
   obtain ⟨zk, _, zl, zc, zf, zd, z0⟩ := HZ.out
   obtain ⟨zck, k, rfl, zkl, zs, zn⟩ := z0 h0
   obtain ⟨Dk, o1, p1, q1⟩ := zs
   have hks : k < w7.heap.size := o1.lt
   have hdk : db ≠ k := by omega
   have hw7 := zk.size
   have hq0 := HR.out
   rw [if_pos h0] at hq0
   have hlen0 : D.length + D1.length < 1000000 := by
    by_cases hc : D.length + D1.length < 1000000
    ·exact hc
    ·rw [if_neg (by simpa using hc)] at hq0; cases hq0
   rw [if_pos (by simpa using hlen0)] at hq0
   have HQ := ld hq0
   clear hq0
   have HX := ld (And.intro zk (And.intro zl (And.intro zc (And.intro zd (And.intro zck (And.intro p1 zn))))))
   have H0 := ld h0
   clear zk zl zc zd zck p1 q1 z0 zn h0 HZ
   go_wp2_with (first | (go_at_call 29; refine (hfd _).mono ?_; rintro e w8 ⟨rfl, hg8⟩; have o8 := o1.kept hg8 (by simp)) | (at_range; refine wpList_range_own _ rfl _ 74 rfl 9 108 kLaw Tryz.underlying74 unitElem k D1.length Dk rfl o8 ?_; intro w9 hrg0 hg9 hs9))
   (try go_frame)
   have hw8 := hg8.size
   have hg89 : w7.grownBy w9 none := hg8.trans hg9
   have HX9 := ld hg89
   clear o1 o8 d0 d1 hfd hg89
   go_loopw [24] (fun _ wr => ∃ left cnt D2, wr.ranges Tryz.prog 9 unitElem k w8.heap.size D1.length Dk left cnt ∧ Hid (Kp [db] w7 wr ∧ SetAt wr db D2.length D2 ∧ D2.Nodup ∧ (∀ s, left (.string s) = true → D1.contains s = true) ∧ (∀ s, D2.contains s = (D.contains s || (D1.contains s && !left (.string s)))) ∧ ∀ s, D1.contains s = true → left (.string s) = false → D.contains s = false)) (fun _ wr => wr.rangeLeft k w8.heap.size)
   case atStart =>
    have hk9 : Kp [db] w7 w9 := Kp.of0 HX9.out _
    refine ⟨_, _, D, hrg0, ld ⟨hk9, HX.out.2.2.2.1.kept HX9.out, hDn, fun s hs => ?_, fun s => ?_, fun s hs hf => ?_⟩⟩
    ·rw [← HX.out.2.2.2.2.2.1 s]; exact hs
    ·rw [HX.out.2.2.2.2.2.1 s]; cases D1.contains s <;> simp
    ·rw [HX.out.2.2.2.2.2.1 s, hs] at hf; cases hf
   case round =>
    obtain ⟨left, cnt, D2, hrg, HI⟩ := hrel
    have hrs := HI.out.1.size
    go_wp2_with (first | (at_next; refine wpList_next_ranges _ rfl _ rfl 9 kLaw unitElem Value.string (fun _ : Unit => Value.agg #[]) key_form (fun v y hv => ⟨(), (unitElem_inv hv).1⟩) k w8.heap.size D1.length Dk left cnt rfl hrg ?_ ?_))
    ·intro _ hl0
     have hcz := HI.out.1.at HX.out.2.2.1 (by simp; omega)
     go_wp2_with (with_reducible refine hold_st 2 ?_)
     refine ld ?_
     refine sg hcz ?_
     intro wz hhz hgz
     go_wp2
     (try simp only [Exit.inBlock, Exit.then])
     refine br hhz Tryz.underlying63 ?_
     have hany : (D1.any fun n => D.contains n) = false := by
      rw [List.any_eq_false]
      intro s hs
      rw [HI.out.2.2.2.2.2 s (by simpa using hs) (hl0 _)]
      simp
     have hq := HQ.out
     rw [hany, if_neg (by decide)] at hq
     obtain ⟨⟨e0, e1⟩, e2⟩ : (D ++ D1 = D' ∧ ((0 : Int), (0 : Int)) = (ra, re)) ∧ st2 = r2 := by have := Option.some.inj hq; simp only [Prod.mk.injEq] at this ⊢; exact this
     cases e1
     subst e0 e2
     have hnda : (D ++ D1).Nodup := List.nodup_append.2 ⟨hDn, HX.out.2.2.2.2.2.2, fun a ha b hb e => by
      have h1 := HI.out.2.2.2.2.2 b (by simpa using hb) (hl0 _)
      rw [← e] at h1
      simp [ha] at h1⟩
     have hset : SetAt wr db D2.length (D ++ D1) := HI.out.2.1.as HI.out.2.2.1 hnda (fun s => by rw [HI.out.2.2.2.2.1 s, hl0]; cases hh1 : D.contains s <;> cases hh2 : D1.contains s <;> simp_all)
     have hkz : Kp [w.heap.size] wr wz := Kp.of hgz _ (fun i e _ => by cases e; simp)
     refine ⟨rfl, ((HX.out.1.mono (fun i hi _ => by simp at hi ⊢; omega)).trans (HI.out.1.mono (fun i hi _ => by simp at hi ⊢; omega))).trans' hgz (Nat.le_refl _), fun _ => ⟨(HX.out.2.2.2.2.1.keptK HI.out.1 (by simp; omega)).keptK hkz (by simp; omega), hset.tight.keptK hkz (by simp; omega), hnda⟩⟩
    ·intro x kl y1 y2 w1 cnt1 hkx hlx hv hat hrg1 hlt hg1 hs1 hen
     obtain ⟨rfl, hsz⟩ := key_lit x kl hkx
     obtain ⟨s, hs⟩ : ∃ s, s = x.data.toList := ⟨_, rfl⟩
     have hxs : x = ⟨s.toArray⟩ := by rw [hs]
     rw [← hs] at hlx hrg1
     have hmem := HI.out.2.2.2.1 s hlx
     have hshs := HSH.out s (by simpa using hmem)
     have hk1 : Kp [db] w7 w1 := HI.out.1.trans' hg1 hw8
     have hset1 : SetAt w1 db D2.length D2 := HI.out.2.1.keptK (Kp.of hg1 [w8.heap.size] (fun i e _ => by cases e; simp)) (by simp; omega)
     have hlbw := hk1.at HX.out.2.1 (by simp; omega)
     have hcw := hk1.at HX.out.2.2.1 (by simp; omega)
     have b12 := cell_of_row w1 _ 12 _ _ _ hlbw
     have b13 := cell_of_row w1 _ 13 _ _ _ hlbw
     have hh1 := has_any (some db) D2.length D2 s hshs w1 hset1
     have HL := ld hrg
     have HJ := ld (And.intro hrg1 (And.intro hk1 (And.intro hlt (And.intro hset1 (And.intro hlx (And.intro hmem (And.intro hcw hshs)))))))
     unfold strV at hh1
     rw [← hxs] at hh1
     have HXS := ld hxs
     clear hrg hrg1 hk1 hlt hat hv hg1 hs1 hset1 hlbw hlx hmem hcw hshs hs hxs
     cases q2 : D2.contains s with
     | true =>
      rw [q2] at hh1
      have HQ2 := ld q2
      clear q2
      go_wp2_with (go_at_call 51; refine hh1.mono ?_; rintro e w2_ ⟨rfl, hg2⟩; have b12 := hg2.cell b12 (by simp); have hcz := (hg2.block _ (gl HJ.out.2.2.2.2.2.2.1) (by simp)).trans HJ.out.2.2.2.2.2.2.1; refine Hid.out ?_)
      refine ld ?_
      go_wp2_with (with_reducible refine hold_st 2 ?_)
      refine ld ?_
      refine sg hcz ?_
      intro wz hhz hgz
      go_wp2
      (try simp only [Exit.inBlock, Exit.then])
      refine br hhz Tryz.underlying63 ?_
      have hDs : D.contains s = true := by have h1 := HI.out.2.2.2.2.1 s; rw [HQ2.out, HJ.out.2.2.2.2.1] at h1; simpa using h1.symm
      have hany : (D1.any fun n => D.contains n) = true := by rw [List.any_eq_true]; exact ⟨s, by simpa using HJ.out.2.2.2.2.2.1, hDs⟩
      have hq := HQ.out
      rw [hany, if_pos rfl] at hq
      obtain ⟨⟨_, e1⟩, _⟩ : ([] = D' ∧ ((at_ : Int), (20 : Int)) = (ra, re)) ∧ st2 = r2 := by have := Option.some.inj hq; simp only [Prod.mk.injEq] at this ⊢; exact this
      cases e1
      exact ⟨rfl, (((HX.out.1.mono (fun i hi _ => by simp at hi ⊢; omega)).trans (HJ.out.2.1.mono (fun i hi _ => by simp at hi ⊢; omega))).trans (Kp.of0 hg2 _)).trans' hgz (Nat.le_refl _), fun e => by simp at e⟩
     | false =>
      rw [q2] at hh1
      have hsub := len_sub (M := D ++ D1) HI.out.2.2.1 (fun y hy => by have h1 := HI.out.2.2.2.2.1 y; rw [show D2.contains y = true by simpa using hy] at h1; cases hc1 : D.contains y <;> cases hc2 : D1.contains y <;> simp_all)
      rw [List.length_append] at hsub
      have hh3 := fun V (hV : w1.grownBy V none) => add_any db D2.length D2 s HJ.out.2.2.2.2.2.2.2 q2 (by omega) V (HJ.out.2.2.2.1.kept hV)
      unfold strV at hh3
      rw [← HXS.out] at hh3
      have HH3 := ld hh3
      have HQ2 := ld q2
      clear hh3 q2 hsub
      go_wp2_with (first | (go_at_call 51; refine hh1.mono ?_; rintro e w2_ ⟨rfl, hg2⟩; have b13 := hg2.cell b13 (by simp)) | (go_at_call 57; refine (HH3.out _ hg2).mono ?_; rintro e w3_ ⟨rfl, hset3, hg3⟩))
      have hk3 : Kp [db] w1 w3_ := (Kp.of0 hg2 _).trans (Kp.of hg3 _ (fun i e _ => by cases e; simp))
      have hrA := (HJ.out.1.kept hg2 (by simp) (by simp)).kept hg3 (by simp; omega) (by simp; omega)
      have hDs : D.contains s = false := by have h1 := HI.out.2.2.2.2.1 s; rw [HQ2.out] at h1; cases hc : D.contains s with | false => rfl | true => rw [hc] at h1; simp at h1
      have hsk : ∀ s', (Lit.string s').sameKey (.string s) = true → s' = s := fun s' h => by simpa [Lit.sameKey] using h
      have hss : (Lit.string s).sameKey (.string s) = true := by simp [Lit.sameKey]
      refine ⟨⟨_, _, D2 ++ [s], hrA, ld ⟨HJ.out.2.1.trans hk3, by rw [List.length_append]; exact hset3, List.nodup_append.2 ⟨HI.out.2.2.1, by simp, fun a ha b hb e => by (simp at hb; subst hb; subst e; have := HQ2.out; simp [ha] at this)⟩, fun s' hs' => HI.out.2.2.2.1 s' (by rw [Bool.and_eq_true] at hs'; exact hs'.1), fun s' => ?_, fun s' h1 h2 => ?_⟩⟩, ?_⟩
      ·by_cases e : s' = s
       ·subst e; rw [hss, HJ.out.2.2.2.2.2.1]; simp
       ·have hnk : (Lit.string s').sameKey (.string s) = false := by cases hc : (Lit.string s').sameKey (.string s) with | false => rfl | true => exact absurd (hsk s' hc) e
        rw [hnk, Bool.not_false, Bool.and_true, ← HI.out.2.2.2.2.1 s']
        have : ¬ s = s' := fun h => e h.symm
        simp [e]
      ·by_cases e : s' = s
       ·subst e; exact hDs
       ·refine HI.out.2.2.2.2.2 s' h1 ?_
        rw [Bool.and_eq_false_iff] at h2
        rcases h2 with h2 | h2
        ·exact h2
        ·exact absurd (hsk s' (by simpa using h2)) e
      ·rw [hrA.left_eq, HL.out.left_eq]; exact HJ.out.2.2.1
  ·have hb0 : (xe != 0) = true := by simp [h0]
   rw [hb0] at hfd
   have H0 := ld h0
   clear hb0 h0
   go_wp2_with (go_at_call 29; refine (hfd _).mono ?_; rintro e w8 ⟨rfl, hg8⟩; have x0 := hg8.cell d0 (by simp); have x1 := hg8.cell d1 (by simp); have hce8 := (hg8.block _ (gl HZ.out.2.2.2.1) (by simp)).trans HZ.out.2.2.2.1; refine Hid.out ?_)
   refine ld ?_
   go_wp2_with (with_reducible refine hold_st 2 ?_)
   refine ld ?_
   refine sg hce8 ?_
   intro w9 hh9 hg9
   go_wp2
   (try simp only [Exit.inBlock, Exit.then])
   refine br hh9 Tryz.underlying63 ?_
   have hq := HR.out
   rw [if_neg H0.out] at hq
   obtain ⟨⟨_, e1⟩, _⟩ : ([] = D' ∧ (xa, xe) = (ra, re)) ∧ st2 = r2 := by have := Option.some.inj hq; simp only [Prod.mk.injEq] at this ⊢; exact this
   cases e1
   exact ⟨rfl, ((HZ.out.1.mono (fun i hi _ => by simp at hi ⊢; omega)).trans (Kp.of0 hg8 _)).trans' hg9 (Nat.le_refl _), fun e => absurd e H0.out⟩
 ·refine wpOp_val (d := 4) (v := .pointer (some ⟨W1.heap.size, 0, none⟩)) (w' := W1.drew.alloc fo) rfl (by kernel_rfl) (by kernel_rfl) (by kernel_rfl) ⟨fun _ => ((ga W1.drew fo none).block _ (gl hS0) (by simp)).trans hS0, ?_⟩
  (try simp only [Act.put, sA, sB, sC])
  have hgA : W1.drew.grownBy (W1.drew.alloc fo) none := ga _ _ _
  have hS4 : (fun W' => W'.heap[lb]? = some (.cells #[.pointer (some ⟨A.c, 0, none⟩), .slice na nn nc, .int .i64 f1, .int .i64 s1, .string ⟨nm1.toArray⟩, .int .i64 tk1, .int .i64 tl1, .int .i64 n1, .int .i64 m1, .slice ka kn kc, .int .i64 a1, .slice qa qn qc, .int .i64 at_, .map (some db)] 115 (0, 0))) (W1.drew.alloc fo) := (hgA.block _ (gl hS0) (by simp)).trans hS0
  have hnA : (W1.drew.alloc fo).heap[W1.heap.size]? = some fo := heap_alloc_new W1.drew fo
  refine wpL_call (i := 9) (d := 16) (R := fun v w' => ∃ o, v = .tuple #[.map o, .agg #[.int .i64 xa, .int .i64 xe]] ∧ itPost A w0 (W1.drew.alloc fo) ((D1, (xa, xe)), st2) o w') (by kernel_rfl) rfl (by kernel_rfl) (by kernel_rfl) (by kernel_rfl) ((HCA.out _ (HG.out.trans hgA)).mono fun e w' he => let ⟨o, h1, h2⟩ := he; ⟨_, h1, o, rfl, h2⟩) (fun v w' h => let ⟨o, h1, h2⟩ := h; h2.1.at hS4 (by simp; omega)) (fun v w3 h => ?_)
  obtain ⟨o, rfl, hip⟩ := h
  have hS5 : (fun W' => W'.heap[lb]? = some (.cells #[.pointer (some ⟨A.c, 0, none⟩), .slice na nn nc, .int .i64 f1, .int .i64 s1, .string ⟨nm1.toArray⟩, .int .i64 tk1, .int .i64 tl1, .int .i64 n1, .int .i64 m1, .slice ka kn kc, .int .i64 a1, .slice qa qn qc, .int .i64 at_, .map (some db)] 115 (0, 0))) w3 := hip.1.at hS4 (by simp; omega)
  have hn3 := hip.1.at hnA (by simp; omega)
  have hce3 := hip.1.at ((hgA.block _ (gl hce) (by simp)).trans hce) (by simp; omega)
  (try simp only [Act.put, sA, sB, sC])
  refine t1 10 6 (.tuple #[.map o, .agg #[.int .i64 xa, .int .i64 xe]]) hS5 ?_
  (try simp only [Act.put, sA, sB, sC])
  refine t1 11 17 (.map o) hS5 ?_
  (try simp only [Act.put, sA, sB, sC])
  refine t1 12 18 (.agg #[.int .i64 xa, .int .i64 xe]) hS5 ?_
  (try simp only [Act.put, sA, sB, sC])
  refine t1 14 3 (.map o) hS5 ?_
  (try simp only [Act.put, sA, sB, sC])
  refine wpL_store (i := 15) W1.heap.size #[.int .i64 xa, .int .i64 xe] _ 63 63 _ _ (by kernel_rfl) rfl (by kernel_rfl) (by kernel_rfl) rfl rfl rfl hn3 (by kernel_rfl) rfl (by kernel_rfl) (fun w7 hh7 hg7 => ⟨(hg7.block _ (gl hS5) (by simp; omega)).trans hS5, ?_⟩)
  (try simp only [Act.put, sA, sB, sC])
  have hk7 : Kp [W1.heap.size] w3 w7 := Kp.of hg7 _ (fun k e _ => by cases e; simp)
  have hsA : (W1.drew.alloc fo).heap.size = w.heap.size + 2 := by rw [World.size_alloc, hs1]
  have hK : Kp [A.b1, A.b2] w w7 := (((Kp.of0 (HG.out.trans hgA) _).trans hip.1)).trans' hg7 (by omega)
  have hz : AuZ A w0 w lb db W1.heap.size (.cells #[.pointer (some ⟨A.c, 0, none⟩), .slice na nn nc, .int .i64 f1, .int .i64 s1, .string ⟨nm1.toArray⟩, .int .i64 tk1, .int .i64 tl1, .int .i64 n1, .int .i64 m1, .slice ka kn kc, .int .i64 a1, .slice qa qn qc, .int .i64 at_, .map (some db)] 115 (0, 0)) xa xe o st2 D D1 w7 := ⟨hK, hh7, hk7.at hS5 (by simp; omega), hk7.at hce3 (by simp; omega), by omega, ((HD.out.kept (HG.out.trans hgA)).keptK hip.1 (by simp; omega)).keptK hk7 (by simp; omega), fun e => let ⟨c1, k, c2, c3, c4, c5⟩ := hip.2 e; ⟨c1.keptK hk7 (by simp; omega), k, c2, by omega, c4.keptK hk7 (by simp; omega), c5⟩⟩
  have HZ := ld hz
  clear hz hk7 hh7 hg7 hS4 hS5 hce3 hip hn3 hnA hgA hsA hK hS0 hce hs1 hs1'
  refine wpL_done (by kernel_rfl) ?_ _
  have hfd := found_any (xa, xe)
  simp only [fv] at hfd
  have d0 := cell_of_row w7 _ 0 _ _ _ HZ.out.2.1
  have d1 := cell_of_row w7 _ 1 _ _ _ HZ.out.2.1
  by_cases h0 : xe = 0
  ·have hb0 : (xe != 0) = false := by simp [h0]
   rw [hb0] at hfd
   clear hb0
   obtain ⟨zk, _, zl, zc, zf, zd, z0⟩ := HZ.out
   obtain ⟨zck, k, rfl, zkl, zs, zn⟩ := z0 h0
   obtain ⟨Dk, o1, p1, q1⟩ := zs
   have hks : k < w7.heap.size := o1.lt
   have hdk : db ≠ k := by omega
   have hw7 := zk.size
   have hq0 := HR.out
   rw [if_pos h0] at hq0
   have hlen0 : D.length + D1.length < 1000000 := by
    by_cases hc : D.length + D1.length < 1000000
    ·exact hc
    ·rw [if_neg (by simpa using hc)] at hq0; cases hq0
   rw [if_pos (by simpa using hlen0)] at hq0
   have HQ := ld hq0
   clear hq0
   have HX := ld (And.intro zk (And.intro zl (And.intro zc (And.intro zd (And.intro zck (And.intro p1 zn))))))
   have H0 := ld h0
   clear zk zl zc zd zck p1 q1 z0 zn h0 HZ
   go_wp2_with (first | (go_at_call 29; refine (hfd _).mono ?_; rintro e w8 ⟨rfl, hg8⟩; have o8 := o1.kept hg8 (by simp)) | (at_range; refine wpList_range_own _ rfl _ 74 rfl 9 108 kLaw Tryz.underlying74 unitElem k D1.length Dk rfl o8 ?_; intro w9 hrg0 hg9 hs9))
   (try go_frame)
   have hw8 := hg8.size
   have hg89 : w7.grownBy w9 none := hg8.trans hg9
   have HX9 := ld hg89
   clear o1 o8 d0 d1 hfd hg89
   go_loopw [24] (fun _ wr => ∃ left cnt D2, wr.ranges Tryz.prog 9 unitElem k w8.heap.size D1.length Dk left cnt ∧ Hid (Kp [db] w7 wr ∧ SetAt wr db D2.length D2 ∧ D2.Nodup ∧ (∀ s, left (.string s) = true → D1.contains s = true) ∧ (∀ s, D2.contains s = (D.contains s || (D1.contains s && !left (.string s)))) ∧ ∀ s, D1.contains s = true → left (.string s) = false → D.contains s = false)) (fun _ wr => wr.rangeLeft k w8.heap.size)
   case atStart =>
    have hk9 : Kp [db] w7 w9 := Kp.of0 HX9.out _
    refine ⟨_, _, D, hrg0, ld ⟨hk9, HX.out.2.2.2.1.kept HX9.out, hDn, fun s hs => ?_, fun s => ?_, fun s hs hf => ?_⟩⟩
    ·rw [← HX.out.2.2.2.2.2.1 s]; exact hs
    ·rw [HX.out.2.2.2.2.2.1 s]; cases D1.contains s <;> simp
    ·rw [HX.out.2.2.2.2.2.1 s, hs] at hf; cases hf
   case round =>
    obtain ⟨left, cnt, D2, hrg, HI⟩ := hrel
    have hrs := HI.out.1.size
    go_wp2_with (first | (at_next; refine wpList_next_ranges _ rfl _ rfl 9 kLaw unitElem Value.string (fun _ : Unit => Value.agg #[]) key_form (fun v y hv => ⟨(), (unitElem_inv hv).1⟩) k w8.heap.size D1.length Dk left cnt rfl hrg ?_ ?_))
    ·intro _ hl0
     have hcz := HI.out.1.at HX.out.2.2.1 (by simp; omega)
     go_wp2_with (with_reducible refine hold_st 2 ?_)
     refine ld ?_
     refine sg hcz ?_
     intro wz hhz hgz
     go_wp2
     (try simp only [Exit.inBlock, Exit.then])
     refine br hhz Tryz.underlying63 ?_
     have hany : (D1.any fun n => D.contains n) = false := by
      rw [List.any_eq_false]
      intro s hs
      rw [HI.out.2.2.2.2.2 s (by simpa using hs) (hl0 _)]
      simp
     have hq := HQ.out
     rw [hany, if_neg (by decide)] at hq
     obtain ⟨⟨e0, e1⟩, e2⟩ : (D ++ D1 = D' ∧ ((0 : Int), (0 : Int)) = (ra, re)) ∧ st2 = r2 := by have := Option.some.inj hq; simp only [Prod.mk.injEq] at this ⊢; exact this
     cases e1
     subst e0 e2
     have hnda : (D ++ D1).Nodup := List.nodup_append.2 ⟨hDn, HX.out.2.2.2.2.2.2, fun a ha b hb e => by
      have h1 := HI.out.2.2.2.2.2 b (by simpa using hb) (hl0 _)
      rw [← e] at h1
      simp [ha] at h1⟩
     have hset : SetAt wr db D2.length (D ++ D1) := HI.out.2.1.as HI.out.2.2.1 hnda (fun s => by rw [HI.out.2.2.2.2.1 s, hl0]; cases hh1 : D.contains s <;> cases hh2 : D1.contains s <;> simp_all)
     have hkz : Kp [w.heap.size] wr wz := Kp.of hgz _ (fun i e _ => by cases e; simp)
     refine ⟨rfl, ((HX.out.1.mono (fun i hi _ => by simp at hi ⊢; omega)).trans (HI.out.1.mono (fun i hi _ => by simp at hi ⊢; omega))).trans' hgz (Nat.le_refl _), fun _ => ⟨(HX.out.2.2.2.2.1.keptK HI.out.1 (by simp; omega)).keptK hkz (by simp; omega), hset.tight.keptK hkz (by simp; omega), hnda⟩⟩
    ·intro x kl y1 y2 w1 cnt1 hkx hlx hv hat hrg1 hlt hg1 hs1 hen
     obtain ⟨rfl, hsz⟩ := key_lit x kl hkx
     obtain ⟨s, hs⟩ : ∃ s, s = x.data.toList := ⟨_, rfl⟩
     have hxs : x = ⟨s.toArray⟩ := by rw [hs]
     rw [← hs] at hlx hrg1
     have hmem := HI.out.2.2.2.1 s hlx
     have hshs := HSH.out s (by simpa using hmem)
     have hk1 : Kp [db] w7 w1 := HI.out.1.trans' hg1 hw8
     have hset1 : SetAt w1 db D2.length D2 := HI.out.2.1.keptK (Kp.of hg1 [w8.heap.size] (fun i e _ => by cases e; simp)) (by simp; omega)
     have hlbw := hk1.at HX.out.2.1 (by simp; omega)
     have hcw := hk1.at HX.out.2.2.1 (by simp; omega)
     have b12 := cell_of_row w1 _ 12 _ _ _ hlbw
     have b13 := cell_of_row w1 _ 13 _ _ _ hlbw
     have hh1 := has_any (some db) D2.length D2 s hshs w1 hset1
     have HL := ld hrg
     have HJ := ld (And.intro hrg1 (And.intro hk1 (And.intro hlt (And.intro hset1 (And.intro hlx (And.intro hmem (And.intro hcw hshs)))))))
     unfold strV at hh1
     rw [← hxs] at hh1
     have HXS := ld hxs
     clear hrg hrg1 hk1 hlt hat hv hg1 hs1 hset1 hlbw hlx hmem hcw hshs hs hxs
     cases q2 : D2.contains s with
     | true =>
      rw [q2] at hh1
      have HQ2 := ld q2
      clear q2
      go_wp2_with (go_at_call 51; refine hh1.mono ?_; rintro e w2_ ⟨rfl, hg2⟩; have b12 := hg2.cell b12 (by simp); have hcz := (hg2.block _ (gl HJ.out.2.2.2.2.2.2.1) (by simp)).trans HJ.out.2.2.2.2.2.2.1; refine Hid.out ?_)
      refine ld ?_
      go_wp2_with (with_reducible refine hold_st 2 ?_)
      refine ld ?_
      refine sg hcz ?_
      intro wz hhz hgz
      go_wp2
      (try simp only [Exit.inBlock, Exit.then])
      refine br hhz Tryz.underlying63 ?_
      have hDs : D.contains s = true := by have h1 := HI.out.2.2.2.2.1 s; rw [HQ2.out, HJ.out.2.2.2.2.1] at h1; simpa using h1.symm
      have hany : (D1.any fun n => D.contains n) = true := by rw [List.any_eq_true]; exact ⟨s, by simpa using HJ.out.2.2.2.2.2.1, hDs⟩
      have hq := HQ.out
      rw [hany, if_pos rfl] at hq
      obtain ⟨⟨_, e1⟩, _⟩ : ([] = D' ∧ ((at_ : Int), (20 : Int)) = (ra, re)) ∧ st2 = r2 := by have := Option.some.inj hq; simp only [Prod.mk.injEq] at this ⊢; exact this
      cases e1
      exact ⟨rfl, (((HX.out.1.mono (fun i hi _ => by simp at hi ⊢; omega)).trans (HJ.out.2.1.mono (fun i hi _ => by simp at hi ⊢; omega))).trans (Kp.of0 hg2 _)).trans' hgz (Nat.le_refl _), fun e => by simp at e⟩
     | false =>
      rw [q2] at hh1
      have hsub := len_sub (M := D ++ D1) HI.out.2.2.1 (fun y hy => by have h1 := HI.out.2.2.2.2.1 y; rw [show D2.contains y = true by simpa using hy] at h1; cases hc1 : D.contains y <;> cases hc2 : D1.contains y <;> simp_all)
      rw [List.length_append] at hsub
      have hh3 := fun V (hV : w1.grownBy V none) => add_any db D2.length D2 s HJ.out.2.2.2.2.2.2.2 q2 (by omega) V (HJ.out.2.2.2.1.kept hV)
      unfold strV at hh3
      rw [← HXS.out] at hh3
      have HH3 := ld hh3
      have HQ2 := ld q2
      clear hh3 q2 hsub
      go_wp2_with (first | (go_at_call 51; refine hh1.mono ?_; rintro e w2_ ⟨rfl, hg2⟩; have b13 := hg2.cell b13 (by simp)) | (go_at_call 57; refine (HH3.out _ hg2).mono ?_; rintro e w3_ ⟨rfl, hset3, hg3⟩))
      have hk3 : Kp [db] w1 w3_ := (Kp.of0 hg2 _).trans (Kp.of hg3 _ (fun i e _ => by cases e; simp))
      have hrA := (HJ.out.1.kept hg2 (by simp) (by simp)).kept hg3 (by simp; omega) (by simp; omega)
      have hDs : D.contains s = false := by have h1 := HI.out.2.2.2.2.1 s; rw [HQ2.out] at h1; cases hc : D.contains s with | false => rfl | true => rw [hc] at h1; simp at h1
      have hsk : ∀ s', (Lit.string s').sameKey (.string s) = true → s' = s := fun s' h => by simpa [Lit.sameKey] using h
      have hss : (Lit.string s).sameKey (.string s) = true := by simp [Lit.sameKey]
      refine ⟨⟨_, _, D2 ++ [s], hrA, ld ⟨HJ.out.2.1.trans hk3, by rw [List.length_append]; exact hset3, List.nodup_append.2 ⟨HI.out.2.2.1, by simp, fun a ha b hb e => by (simp at hb; subst hb; subst e; have := HQ2.out; simp [ha] at this)⟩, fun s' hs' => HI.out.2.2.2.1 s' (by rw [Bool.and_eq_true] at hs'; exact hs'.1), fun s' => ?_, fun s' h1 h2 => ?_⟩⟩, ?_⟩
      ·by_cases e : s' = s
       ·subst e; rw [hss, HJ.out.2.2.2.2.2.1]; simp
       ·have hnk : (Lit.string s').sameKey (.string s) = false := by cases hc : (Lit.string s').sameKey (.string s) with | false => rfl | true => exact absurd (hsk s' hc) e
        rw [hnk, Bool.not_false, Bool.and_true, ← HI.out.2.2.2.2.1 s']
        have : ¬ s = s' := fun h => e h.symm
        simp [e]
      ·by_cases e : s' = s
       ·subst e; exact hDs
       ·refine HI.out.2.2.2.2.2 s' h1 ?_
        rw [Bool.and_eq_false_iff] at h2
        rcases h2 with h2 | h2
        ·exact h2
        ·exact absurd (hsk s' (by simpa using h2)) e
      ·rw [hrA.left_eq, HL.out.left_eq]; exact HJ.out.2.2.1
  ·have hb0 : (xe != 0) = true := by simp [h0]
   rw [hb0] at hfd
   have H0 := ld h0
   clear hb0 h0
   go_wp2_with (go_at_call 29; refine (hfd _).mono ?_; rintro e w8 ⟨rfl, hg8⟩; have x0 := hg8.cell d0 (by simp); have x1 := hg8.cell d1 (by simp); have hce8 := (hg8.block _ (gl HZ.out.2.2.2.1) (by simp)).trans HZ.out.2.2.2.1; refine Hid.out ?_)
   refine ld ?_
   go_wp2_with (with_reducible refine hold_st 2 ?_)
   refine ld ?_
   refine sg hce8 ?_
   intro w9 hh9 hg9
   go_wp2
   (try simp only [Exit.inBlock, Exit.then])
   refine br hh9 Tryz.underlying63 ?_
   have hq := HR.out
   rw [if_neg H0.out] at hq
   obtain ⟨⟨_, e1⟩, _⟩ : ([] = D' ∧ (xa, xe) = (ra, re)) ∧ st2 = r2 := by have := Option.some.inj hq; simp only [Prod.mk.injEq] at this ⊢; exact this
   cases e1
   exact ⟨rfl, ((HZ.out.1.mono (fun i hi _ => by simp at hi ⊢; omega)).trans (Kp.of0 hg8 _)).trans' hg9 (Nat.le_refl _), fun e => absurd e H0.out⟩
open Go.RowKit Go.Maps Go.WideMaps
open Nam (St F)
def lK1 (at_ : Int) (st : St) (ns : List (List UInt8)) (D : List (List UInt8)) : Option (F × List (List UInt8)) := match Nam.eqNames at_ st ns D with | none => none | some x => some (x.1, x.2)
def lK2 (st : St) (e : Gram.Exp) (D : List (List UInt8)) : Option (F × List (List UInt8)) := match Nam.expression st e with | none => none | some y => some (y, D)
theorem expression_zero {st : St} {e : Gram.Exp} {y : F} (h : Nam.expression st e = some y) (h0 : y.2 = 0) : y = (0, 0) := by
 unfold Nam.expression at h
 split at h
 ·split at h
  ·cases h; simp at h0
  ·split at h
   ·cases h; simp at h0
   ·cases h; rfl
 ·cases h
theorem item_ord {f : Nat} {ns : List (List UInt8)} {e : Gram.Exp} {a : Int} {D D' : List (List UInt8)} {st r2 : St} {x : F} (h : Nam.item (Nam.items f) (.mk ns e [] a) D st = some ((D', x), r2)) :
  ∃ s', Nam.inOrder [lK1 a st ns, lK2 st e] D = some (x, s') ∧ (x.2 = 0 → s' = D' ∧ r2 = st ∧ (D.Nodup → D'.Nodup)) := by
 rw [Nam.item, if_pos (show ([] : List Gram.State).isEmpty = true from rfl)] at h
 unfold Nam.inOrder Nam.inOrder Nam.inOrder
 simp only [lK1, lK2]
 cases h1 : Nam.eqNames a st ns D with
 | none => rw [h1] at h; cases h
 | some y =>
  rw [h1] at h
  simp only at h ⊢
  by_cases z1 : y.1.2 = 0
  ·rw [if_pos z1] at h ⊢
   cases h2 : Nam.expression st e with
   | none => rw [h2] at h; cases h
   | some z =>
    rw [h2] at h
    simp only at h ⊢
    obtain ⟨⟨e0, e1⟩, e2⟩ : (y.2 = D' ∧ z = x) ∧ st = r2 := by have := Option.some.inj h; simp only [Prod.mk.injEq] at this ⊢; exact this
    subst e0 e1 e2
    by_cases z3 : z.2 = 0
    ·rw [if_pos z3]
     have := expression_zero h2 z3
     subst this
     exact ⟨_, rfl, fun _ => ⟨rfl, rfl, fun hn => eqNames_nodup h1 hn⟩⟩
    ·rw [if_neg z3]
     exact ⟨_, rfl, fun e => absurd e z3⟩
  ·rw [if_neg z1] at h ⊢
   obtain ⟨⟨e0, e1⟩, e2⟩ : ([] = D' ∧ y.1 = x) ∧ st = r2 := by have := Option.some.inj h; simp only [Prod.mk.injEq] at this ⊢; exact this
   subst e1
   exact ⟨_, rfl, fun e => absurd e z1⟩
section
variable (A : Adr) (w0 : World) (st : St) (lb db : Nat) (lo : Obj)
def LInv (D : List (List UInt8)) (W : World) : Prop := Ck w0 W A st ∧ W.heap[lb]? = some lo ∧ SetAt W db D.length D
variable {A w0 st lb db lo}
theorem LInv.keptN {D : List (List UInt8)} {a b : World} {n : Nat} (h : LInv A w0 st lb db lo D a) (hg : a.grownBy b (some n)) (h1 : w0.heap.size ≤ n ∧ n ∉ [A.c, A.m, A.b0, A.b1, A.b2]) (h2 : lb ≠ n) (h3 : db ≠ n) : LInv A w0 st lb db lo D b := by
 have hk : Kp [n] a b := Kp.of hg _ (fun k e _ => by cases e; simp)
 exact ⟨h.1.keptB hg h1, hk.at h.2.1 (by simpa using h2), h.2.2.keptK hk (by simpa using h3)⟩
end
theorem lItem_any (f : Nat) (hC : CIt f) (A : Adr) (w0 w : World) (st : St) (lb db : Nat) (na ka qa : Option Addr) (nn nc kn kc qn qc : Nat) (f1 s1 tk1 tl1 n1 m1 a1 at_ : Int) (nm1 : List UInt8) (ks1 : List Gram.Exp) (ns : List (List UInt8)) (ss : List Gram.State) (D : List (List UInt8)) (h : Ck w0 w A st) (hlb : w.heap[lb]? = some (.cells #[.pointer (some ⟨A.c, 0, none⟩), .slice na nn nc, .int .i64 f1, .int .i64 s1, .string ⟨nm1.toArray⟩, .int .i64 tk1, .int .i64 tl1, .int .i64 n1, .int .i64 m1, .slice ka kn kc, .int .i64 a1, .slice qa qn qc, .int .i64 at_, .map (some db)] 115 (0, 0))) (hlA : lb ∉ [A.c, A.m, A.b0, A.b1, A.b2]) (hl0 : w0.heap.size ≤ lb) (hn : RepC w0 0 [] (.l 9 1 (ns.map nameD)) (.slice na nn nc)) (hk : KidsX w0 0 [] ks1 (.slice ka kn kc)) (hv : RepC w0 0 [] (.l 119 6 (statesD ss)) (.slice qa qn qc)) (hD : SetAt w db D.length D) (hDn : D.Nodup) (hne : lb ≠ db) (hd0 : w0.heap.size ≤ db) (hdA : db ∉ [A.c, A.m, A.b0, A.b1, A.b2]) (ra re : Int) (D' : List (List UInt8)) (r2 : St) (hr : Nam.item (Nam.items f) (.mk ns (.mk f1 s1 nm1 tk1 tl1 n1 m1 ks1 a1) ss at_) D st = some ((D', (ra, re)), r2)) :
  Calls Tryz.prog 71 #[.pointer (some ⟨lb, 0, none⟩)] w fun e w' => e = .returned (.agg #[.int .i64 ra, .int .i64 re]) ∧ Kp [A.b1, A.b2, db] w w' ∧ (re = 0 → Ck w0 w' A r2 ∧ SetAt w' db D'.length D' ∧ D'.Nodup) := by
 have hmf := makeFunc_run
 obtain ⟨hL, hLm⟩ := statesLen hv
 unfold maxLen at hLm
 have hg1 : w.grownBy (w.alloc fo) none := ga w fo none
 have hc0 : (w.alloc fo).heap[w.heap.size]? = some fo := heap_alloc_new w fo
 have hlt := h.lt
 have hlm := h.mm.lt
 have hb := h.base.size
 have hld := hD.lt
 have hll := (gl hlb)
 have y11 := cell_of_row w _ 11 _ _ _ hlb
 have hlA' := hlA
 have hdA' := hdA
 simp only [List.mem_cons, List.not_mem_nil, or_false, not_or] at hlA' hdA'
 by_cases hs0 : ss = []
 ·subst hs0
  have hq0 : qn = 0 := hL
  subst hq0
  obtain ⟨s', ho, hfin⟩ := item_ord hr
  obtain ⟨W2, hW2⟩ : ∃ W2, W2 = (w.alloc fo).alloc (.cells (([81, 82] : List Nat).map fun f => Value.func (.func f) #[.pointer (some ⟨lb, 0, none⟩)] #[]).toArray 82 (0, 0)) := ⟨_, rfl⟩
  have hg2 : w.grownBy W2 none := by rw [hW2]; exact bs2 w _ _
  have hs2 : W2.heap.size = w.heap.size + 2 := by rw [hW2]; simp
  have hb0 : W2.heap[w.heap.size]? = some fo := by rw [hW2]; exact heap_alloc2_old w _ _
  have hb1 : W2.heap[w.heap.size + 1]? = some (.cells (([81, 82] : List Nat).map fun f => Value.func (.func f) #[.pointer (some ⟨lb, 0, none⟩)] #[]).toArray 82 (0, 0)) := by rw [hW2]; exact heap_alloc2_new w _ _
  have hI0 : LInv A w0 st lb db (.cells #[.pointer (some ⟨A.c, 0, none⟩), .slice na nn nc, .int .i64 f1, .int .i64 s1, .string ⟨nm1.toArray⟩, .int .i64 tk1, .int .i64 tl1, .int .i64 n1, .int .i64 m1, .slice ka kn kc, .int .i64 a1, .slice qa 0 qc, .int .i64 at_, .map (some db)] 115 (0, 0)) D W2 := ⟨h.kept hg2, (hg2.block _ hll (by simp)).trans hlb, hD.kept hg2⟩
  have hord := inOrder_any (LInv A w0 st lb db (.cells #[.pointer (some ⟨A.c, 0, none⟩), .slice na nn nc, .int .i64 f1, .int .i64 s1, .string ⟨nm1.toArray⟩, .int .i64 tk1, .int .i64 tl1, .int .i64 n1, .int .i64 m1, .slice ka kn kc, .int .i64 a1, .slice qa 0 qc, .int .i64 at_, .map (some db)] 115 (0, 0))) (fun _ => True) [A.b1, A.b2, db] (.pointer (some ⟨lb, 0, none⟩)) [81, 82] [lK1 at_ st ns, lK2 st (.mk f1 s1 nm1 tk1 tl1 n1 m1 ks1 a1)] (w.heap.size + 1) D W2 _ (by decide) rfl hb1 (by simp; omega) (by simp; omega)
   (by
    intro i g k hg hk'
    rcases i with _ | _ | i
    ·cases hg; cases hk'
     refine ⟨enters_of Tryz.func81 (by kernel_rfl) rfl, ?_⟩
     intro D0 V r hI hV hr0
     unfold lK1 at hr0
     split at hr0
     ·cases hr0
     ·rename_i y hy
      obtain ⟨⟨ya, ye⟩, D2⟩ := y
      cases hr0
      refine (lNames_any A w0 V st lb db na ka qa nn nc kn kc 0 qc f1 s1 tk1 tl1 n1 m1 a1 at_ nm1 ns D0 hI.1 hI.2.1 hn hI.2.2 hne hd0 hdA ya ye D2 hy).mono ?_
      rintro e w' ⟨rfl, hk2, h2⟩
      exact ⟨rfl, (hk2.mono (fun i hi _ => by simp at hi ⊢; omega)).q _, fun h0 => ⟨hI.1.keptK hk2 (by simp only [List.mem_singleton]; rintro k rfl; exact ⟨hd0, hdA⟩), hk2.at hI.2.1 (by simpa using hne), h2 h0⟩, trivial⟩
    ·cases hg; cases hk'
     refine ⟨enters_of Tryz.func82 (by kernel_rfl) rfl, ?_⟩
     intro D0 V r hI hV hr0
     unfold lK2 at hr0
     split at hr0
     ·cases hr0
     ·rename_i y hy
      obtain ⟨ya, ye⟩ := y
      cases hr0
      refine (lValue_any A w0 V st lb db na ka qa nn nc kn kc 0 qc f1 s1 tk1 tl1 n1 m1 a1 at_ nm1 ks1 hI.1 hI.2.1 hk ya ye hy).mono ?_
      rintro e w' ⟨rfl, hg3⟩
      exact ⟨rfl, (Kp.of0 hg3 _).q _, fun _ => ⟨hI.1.kept hg3, (hg3.block _ (gl hI.2.1) (by simp)).trans hI.2.1, hI.2.2.kept hg3⟩, trivial⟩
    ·simp at hk')
   (fun s a b n hs hgr hn2 => by
    have q1 := hs.1.lt
    have q2 := hs.1.mm.lt
    have q3 := (gl hs.2.1)
    have q4 := hs.2.2.lt
    have q5 := hs.1.base.size
    exact hs.keptN hgr ⟨by omega, by simp; omega⟩ (by omega) (by omega)) (fun _ _ _ _ _ _ => trivial) (fun _ _ _ => trivial) hI0 ho
  rw [show ([81, 82] : List Nat).length = 2 from rfl] at hord
  have HW := ld hW2
  have HX := ld (And.intro hg2 (And.intro hb0 hfin))
  simp only [fv] at hord
  rw [hW2] at hord
  simp only [List.map_cons, List.map_nil] at hord
  clear hW2 hg2 hs2 hb0 hb1 hI0 hr ho hfin hv hn hk hC hL hLm hlb hc0 hg1 hD
  go_enter Tryz.func71, Tryz.ntmps71
  go_wp2_with (go_at_call 34; refine hord.mono ?_; rintro e w3 ⟨rfl, hk3, hi3, _⟩; refine Hid.out ?_)
  have HK : Kp [A.b1, A.b2, db] W2 w3 := by rw [HW.out]; exact hk3
  have hce3 := HK.at HX.out.2.1 (by simp; omega)
  have HI := ld hi3
  clear hi3 hk3
  refine ld ?_
  go_wp2_with (with_reducible refine hold_st 2 ?_)
  refine ld ?_
  refine sg hce3 ?_
  intro w7 hh7 hg7
  go_wp2
  (try simp only [Exit.inBlock, Exit.then])
  refine br hh7 Tryz.underlying63 ?_
  refine ⟨rfl, ((Kp.of0 HX.out.1 _).trans HK).trans' hg7 (Nat.le_refl _), fun h0 => ?_⟩
  obtain ⟨e1, e2, e3⟩ := HX.out.2.2 h0
  have h9 := (HI.out h0).keptN hg7 ⟨by omega, by simp; omega⟩ (by omega) (by omega)
  subst e1 e2
  exact ⟨h9.1, h9.2.2, e3 hDn⟩
 ·have hpos : 0 < ss.length := List.length_pos_iff.2 hs0
  have hqp : 0 < qn := by rw [hL]; exact hpos
  have hau := lAuto_any f hC A w0 (w.alloc fo) st lb db na ka qa nn nc kn kc qn qc f1 s1 tk1 tl1 n1 m1 a1 at_ nm1 ns (.mk f1 s1 nm1 tk1 tl1 n1 m1 ks1 a1) ss D (h.kept hg1) ((hg1.block _ hll (by simp)).trans hlb) hlA hv hpos (hD.kept hg1) hDn hne hd0 hdA ra re D' r2 hr
  have HG := ld (And.intro hg1 hc0)
  clear hr hv hn hk hC hL hs0 hpos hlb hc0 hg1 hD
  have hgt : ((qn : Int) > 0) := by omega
  go_enter Tryz.func71, Tryz.ntmps71
  go_wp2_with (go_at_call 80; refine hau.mono ?_; rintro e w3 ⟨rfl, hk3, hi3⟩; refine Hid.out ?_)
  have hce3 := hk3.at HG.out.2 (by simp; omega)
  have HI := ld (And.intro hk3 hi3)
  clear hi3 hk3
  refine ld ?_
  go_wp2_with (with_reducible refine hold_st 2 ?_)
  refine ld ?_
  refine sg hce3 ?_
  intro w7 hh7 hg7
  go_wp2
  (try simp only [Exit.inBlock, Exit.then])
  refine br hh7 Tryz.underlying63 ?_
  refine ⟨rfl, ((Kp.of0 HG.out.1 _).trans HI.out.1).trans' hg7 (Nat.le_refl _), fun h0 => ?_⟩
  obtain ⟨e1, e2, e3⟩ := HI.out.2 h0
  exact ⟨e1.keptB hg7 ⟨by omega, by simp; omega⟩, e2.keptK (Kp.of hg7 [w.heap.size] (fun i e _ => by cases e; simp)) (by simp; omega), e3⟩
open Go.RowKit Go.Maps Go.WideMaps
open Nam (St F)
def setAll (C : Array Value) : Nat → List Value → Array Value
 | _, [] => C
 | o, v :: r => setAll (C.setIfInBounds o v) (o + 1) r
theorem setCell_row {w : World} {b : Nat} {C : Array Value} {t : TypeId} {fr : Nat × Nat} (h : w.heap[b]? = some (.cells C t fr)) (o : Nat) (v : Value) : (w.setCell ⟨b, o, none⟩ v).heap[b]? = some (.cells (C.setIfInBounds o v) t fr) := by
 simp [World.setCell, Array.getElem?_modify, h]
theorem grown_setCell (w : World) (b o : Nat) (v : Value) : w.grownBy (w.setCell ⟨b, o, none⟩ v) (some b) := by
 refine ⟨rfl, rfl, rfl, by simp [World.setCell], fun k _ hk => ?_⟩
 have hne : b ≠ k := fun e => hk (by rw [e])
 simp [World.setCell, Array.getElem?_modify, hne]
theorem setCells_row : ∀ (vs : List Value) (o : Nat) {w : World} {b : Nat} {C : Array Value} {t : TypeId} {fr : Nat × Nat}, w.heap[b]? = some (.cells C t fr) → (w.setCells b o vs).heap[b]? = some (.cells (setAll C o vs) t fr) ∧ w.grownBy (w.setCells b o vs) (some b)
 | [], o, w, b, C, t, fr, h => ⟨h, World.grownBy.refl _ _⟩
 | v :: r, o, w, b, C, t, fr, h => by
  obtain ⟨h1, h2⟩ := setCells_row r (o + 1) (setCell_row h o v)
  exact ⟨h1, (grown_setCell w b o v).andThen h2 (fun j e => .inr e)⟩
theorem cit_step (f : Nat) (hC : CIt f) : CIt (f + 1) := by
 intro A w0 w st its a L cap D ra re r2 h hv hr
 unfold Nam.items at hr
 have hmm := @run_makeMap Tryz.prog
 obtain ⟨hL, hLm⟩ := nLen hv
 rw [itemsD_map, List.length_map] at hL
 unfold maxLen at hLm
 have hlt := h.lt
 have hlm := h.mm.lt
 have hb := h.base.size
 have hlo := h.lo
 have HL := ld hL
 have HR := ld hr
 have HH := ld h
 clear hL hr h
 go_enter Tryz.func53, Tryz.ntmps53
 go_wp2
 go_loopw [16] (fun iv wr => ∃ (t : Nat) (st1 : St) (D1 : List (List UInt8)), t ≤ L ∧ iv = .int .i64 (t : Int) ∧ Hid (Ck w0 wr A st1 ∧ Kp [A.b1, A.b2] w wr ∧ wr.heap[w.heap.size]? = some fo ∧ (∃ v1 v2 v3 v4 v5 v6 v7 v8 v9 v10 v11 v12 : Value, wr.heap[w.heap.size + 1 + 1]? = some (.cells #[.pointer (some ⟨A.c, 0, none⟩), v1, v2, v3, v4, v5, v6, v7, v8, v9, v10, v11, v12, .map (some (w.heap.size + 1))] 115 (0, 0))) ∧ SetAt wr (w.heap.size + 1) D1.length D1 ∧ D1.Nodup ∧ Nam.listI (Nam.items f) (its.drop t) D1 st1 = some ((D, (ra, re)), r2))) (fun i _ => L - (intOf i).toNat)
 case atStart =>
  obtain ⟨W3, hW3⟩ : ∃ W3, W3 = ((w.alloc fo).alloc (.map #[] 0)).alloc (.cells #[.pointer (some ⟨A.c, 0, none⟩), .slice none 0 0, .int .i64 0, .int .i64 0, .string ⟨#[]⟩, .int .i64 0, .int .i64 0, .int .i64 0, .int .i64 0, .slice none 0 0, .int .i64 0, .slice none 0 0, .int .i64 0, .map (some (w.heap.size + 1))] 115 (0, 0)) := ⟨_, rfl⟩
  have hg3 : w.grownBy W3 none := by rw [hW3]; exact galloc (bs2 w _ _) _
  have hb0 : W3.heap[w.heap.size]? = some fo := by rw [hW3, heap_alloc_old _ _ (by simp; omega)]; exact heap_alloc2_old w _ _
  have hO1 : SetAt W3 (w.heap.size + 1) 0 [] := by
   have h1 := SetAt.new (w.alloc fo)
   rw [World.size_alloc] at h1
   rw [hW3]
   exact h1.kept (ga _ _ _)
  have hb2 : W3.heap[w.heap.size + 1 + 1]? = some (.cells #[.pointer (some ⟨A.c, 0, none⟩), .slice none 0 0, .int .i64 0, .int .i64 0, .string ⟨#[]⟩, .int .i64 0, .int .i64 0, .int .i64 0, .int .i64 0, .slice none 0 0, .int .i64 0, .slice none 0 0, .int .i64 0, .map (some (w.heap.size + 1))] 115 (0, 0)) := by
   have h1 := heap_alloc_new ((w.alloc fo).alloc (.map #[] 0)) (.cells #[.pointer (some ⟨A.c, 0, none⟩), .slice none 0 0, .int .i64 0, .int .i64 0, .string ⟨#[]⟩, .int .i64 0, .int .i64 0, .int .i64 0, .int .i64 0, .slice none 0 0, .int .i64 0, .slice none 0 0, .int .i64 0, .map (some (w.heap.size + 1))] 115 (0, 0))
   rw [World.size_alloc, World.size_alloc] at h1
   rw [hW3]
   exact h1
  have hfin : ∃ (t : Nat) (st1 : St) (D1 : List (List UInt8)), t ≤ L ∧ Value.int .i64 0 = .int .i64 (t : Int) ∧ Hid (Ck w0 W3 A st1 ∧ Kp [A.b1, A.b2] w W3 ∧ W3.heap[w.heap.size]? = some fo ∧ (∃ v1 v2 v3 v4 v5 v6 v7 v8 v9 v10 v11 v12 : Value, W3.heap[w.heap.size + 1 + 1]? = some (.cells #[.pointer (some ⟨A.c, 0, none⟩), v1, v2, v3, v4, v5, v6, v7, v8, v9, v10, v11, v12, .map (some (w.heap.size + 1))] 115 (0, 0))) ∧ SetAt W3 (w.heap.size + 1) D1.length D1 ∧ D1.Nodup ∧ Nam.listI (Nam.items f) (its.drop t) D1 st1 = some ((D, (ra, re)), r2)) := ⟨0, st, [], Nat.zero_le _, rfl, ld ⟨HH.out.kept hg3, Kp.of0 hg3 _, hb0, ⟨_, _, _, _, _, _, _, _, _, _, _, _, hb2⟩, hO1, by simp, HR.out⟩⟩
  rw [hW3] at hfin
  exact hfin
 case round =>
  obtain ⟨t, st1, D1, ht, rfl, HG⟩ := hrel
  obtain ⟨hck, hkp, hcell, ⟨v1, v2, v3, v4, v5, v6, v7, v8, v9, v10, v11, v12, hlbr⟩, hset, hnd, hm⟩ := HG.out
  clear HG HR HH
  have hsz := (gl hlbr)
  have hws := hkp.size
  by_cases hlt2 : t < L
  ·obtain ⟨x, hx⟩ : ∃ x, its[t]? = some x := ⟨_, List.getElem?_eq_getElem (by rw [← HL.out]; exact hlt2)⟩
   obtain ⟨ns, e, ss, at_⟩ := x
   obtain ⟨f1, s1, nm1, tk1, tl1, n1, m1, ks1, a1⟩ := e
   rw [drop_at hx] at hm
   unfold Nam.listI at hm
   obtain ⟨g, na, nn, nc, ka, kn, kc, qa, qn, qc, rfl, k1, k2, k3, hq⟩ := itemAt hv hx
   simp only [expCells, List.cons_append, List.nil_append] at hq
   have u0 := hck.base.cell (hq 0 _ rfl) (by simp)
   have u1 := hck.base.cell (hq 1 _ rfl) (by simp)
   have u2 := hck.base.cell (hq 2 _ rfl) (by simp)
   have u3 := hck.base.cell (hq 3 _ rfl) (by simp)
   have u4 := hck.base.cell (hq 4 _ rfl) (by simp)
   have u5 := hck.base.cell (hq 5 _ rfl) (by simp)
   have u6 := hck.base.cell (hq 6 _ rfl) (by simp)
   have u7 := hck.base.cell (hq 7 _ rfl) (by simp)
   have u8 := hck.base.cell (hq 8 _ rfl) (by simp)
   have u9 := hck.base.cell (hq 9 _ rfl) (by simp)
   have u10 := hck.base.cell (hq 10 _ rfl) (by simp)
   have u11 := hck.base.cell (hq 11 _ rfl) (by simp)
   rw [Nat.add_zero] at u0
   clear hq
   cases hxe : Nam.item (Nam.items f) (.mk ns (.mk f1 s1 nm1 tk1 tl1 n1 m1 ks1 a1) ss at_) D1 st1 with
   | none => rw [hxe] at hm; cases hm
   | some xr =>
   rw [hxe] at hm
   obtain ⟨⟨D2, xa, xe⟩, st2⟩ := xr
   simp only at hm
   obtain ⟨W1, hW1⟩ : ∃ W1, W1 = wr.alloc (.cells #[.slice na nn nc, .int .i64 f1, .int .i64 s1, .string ⟨nm1.toArray⟩, .int .i64 tk1, .int .i64 tl1, .int .i64 n1, .int .i64 m1, .slice ka kn kc, .int .i64 a1, .slice qa qn qc, .int .i64 at_] 40 (0, 0)) := ⟨_, rfl⟩
   have hg1 : wr.grownBy W1 none := by rw [hW1]; exact ga wr _ none
   have hl1 : W1.heap[w.heap.size + 1 + 1]? = some (.cells #[.pointer (some ⟨A.c, 0, none⟩), v1, v2, v3, v4, v5, v6, v7, v8, v9, v10, v11, v12, .map (some (w.heap.size + 1))] 115 (0, 0)) := (hg1.block _ hsz (by simp)).trans hlbr
   obtain ⟨r1, r2'⟩ := setCells_row [.slice na nn nc, .int .i64 f1, .int .i64 s1, .string ⟨nm1.toArray⟩, .int .i64 tk1, .int .i64 tl1, .int .i64 n1, .int .i64 m1, .slice ka kn kc, .int .i64 a1, .slice qa qn qc, .int .i64 at_] 1 hl1
   obtain ⟨W2, hW2⟩ : ∃ W2, W2 = W1.setCells (w.heap.size + 1 + 1) 1 [.slice na nn nc, .int .i64 f1, .int .i64 s1, .string ⟨nm1.toArray⟩, .int .i64 tk1, .int .i64 tl1, .int .i64 n1, .int .i64 m1, .slice ka kn kc, .int .i64 a1, .slice qa qn qc, .int .i64 at_] := ⟨_, rfl⟩
   rw [← hW2] at r1 r2'
   have hl2 : W2.heap[w.heap.size + 1 + 1]? = some (.cells #[.pointer (some ⟨A.c, 0, none⟩), .slice na nn nc, .int .i64 f1, .int .i64 s1, .string ⟨nm1.toArray⟩, .int .i64 tk1, .int .i64 tl1, .int .i64 n1, .int .i64 m1, .slice ka kn kc, .int .i64 a1, .slice qa qn qc, .int .i64 at_, .map (some (w.heap.size + 1))] 115 (0, 0)) := by rw [r1]; simp only [setAll, List.setIfInBounds_toArray, List.set_cons_zero, List.set_cons_succ]
   have hk2 : Kp [w.heap.size + 1 + 1] wr W2 := (Kp.of0 hg1 _).trans (Kp.of r2' _ (fun k e _ => by cases e; simp))
   have hth : W1.there (w.heap.size + 1 + 1) 1 12 := fun j hj => by
    have e1 : W1.cell? ⟨w.heap.size + 1 + 1, 1 + j, none⟩ = _ := cell_of_row W1 _ (1 + j) _ _ _ hl1
    refine ⟨?_, frozen_of_row W1 _ (1 + j) _ _ hl1⟩
    rw [e1]
    have : j = 0 ∨ j = 1 ∨ j = 2 ∨ j = 3 ∨ j = 4 ∨ j = 5 ∨ j = 6 ∨ j = 7 ∨ j = 8 ∨ j = 9 ∨ j = 10 ∨ j = 11 := by omega
    rcases this with rfl | rfl | rfl | rfl | rfl | rfl | rfl | rfl | rfl | rfl | rfl | rfl <;> simp
   have hck2 : Ck w0 W2 A st1 := hck.keptK hk2 (by simp; omega)
   have hset2 : SetAt W2 (w.heap.size + 1) D1.length D1 := hset.keptK hk2 (by simp)
   have hcal := lItem_any f hC A w0 W2 st1 (w.heap.size + 1 + 1) (w.heap.size + 1) na ka qa nn nc kn kc qn qc f1 s1 tk1 tl1 n1 m1 a1 at_ nm1 ks1 ns ss D1 hck2 hl2 (by simp; omega) (by omega) k1 k2 k3 hset2 hnd (by omega) (by omega) (by simp; omega) xa xe D2 st2 hxe
   have hce2 := hk2.at hcell (by simp; omega)
   have hfd := found_any (xa, xe)
   simp only [fv] at hfd
   have hK2 : Kp [A.b1, A.b2] w W2 := ⟨hk2.os.trans hkp.os, hk2.tape.trans hkp.tape, hk2.output.trans hkp.output, Nat.le_trans hkp.size hk2.size, fun i hi hx => (hk2.block i (Nat.lt_of_lt_of_le hi hkp.size) (by simp; omega)).trans (hkp.block i hi hx)⟩
   have hs2 := hk2.size
   have HX := ld (And.intro hK2 (And.intro hce2 hl2))
   have HW1 := ld hW1
   have HW2 := ld hW2
   clear hW1 hW2 hg1 hl1 r1 r2' hck2 hset2 hck hkp hcell hset hnd hxe k1 k2 k3 hl2 hk2 hK2 hce2 hlbr hx
   go_wp2_with (with_reducible refine hold_st 23 ?_)
   rw [← HW1.out]
   refine ld ?_
   refine wpList_store_mid rfl _ _ _ rfl (w.heap.size + 1 + 1) 1 #[.slice na nn nc, .int .i64 f1, .int .i64 s1, .string ⟨nm1.toArray⟩, .int .i64 tk1, .int .i64 tl1, .int .i64 n1, .int .i64 m1, .slice ka kn kc, .int .i64 a1, .slice qa qn qc, .int .i64 at_] rfl rfl hth (by kernel_rfl) (by simp [Value.oneCell']) ?_
   rw [show (W1.setCells (w.heap.size + 1 + 1) 1 (#[.slice na nn nc, .int .i64 f1, .int .i64 s1, .string ⟨nm1.toArray⟩, .int .i64 tk1, .int .i64 tl1, .int .i64 n1, .int .i64 m1, .slice ka kn kc, .int .i64 a1, .slice qa qn qc, .int .i64 at_] : Array Value).toList) = W2 from HW2.out.symm]
   clear hth u0 u1 u2 u3 u4 u5 u6 u7 u8 u9 u10 u11
   by_cases h0 : xe = 0
   ·have hb0 : (xe != 0) = false := by simp [h0]
    rw [hb0] at hfd
    rw [if_pos h0] at hm
    have H0 := ld h0
    have HM := ld hm
    clear hb0 h0 hm
    go_wp2_with (first | (go_at_call 71; refine hcal.mono ?_; rintro e w3 ⟨rfl, hk3, hi3⟩; have HJ := ld (And.intro hk3 hi3); clear hk3 hi3) | (go_at_call 29; refine (hfd _).mono ?_; rintro e w4 ⟨rfl, hg4⟩))
    obtain ⟨hk3, hi3⟩ := HJ.out
    obtain ⟨c1, c2, c3⟩ := hi3 H0.out
    have hg34 : w3.grownBy w4 none := (ga w3 _ none).trans hg4
    have hk34 : Kp [A.b1, A.b2, w.heap.size + 1] W2 w4 := hk3.trans (Kp.of0 hg34 _)
    have hkw : Kp [A.b1, A.b2] w w4 := ⟨hk34.os.trans HX.out.1.os, hk34.tape.trans HX.out.1.tape, hk34.output.trans HX.out.1.output, Nat.le_trans HX.out.1.size hk34.size, fun i hi hx => (hk34.block i (Nat.lt_of_lt_of_le hi HX.out.1.size) (by simp at hx ⊢; omega)).trans (HX.out.1.block i hi hx)⟩
    exact ⟨⟨t + 1, st2, D2, by omega, by go_num, ld ⟨c1.kept hg34, hkw, hk34.at HX.out.2.1 (by simp; omega), ⟨_, _, _, _, _, _, _, _, _, _, _, _, hk34.at HX.out.2.2 (by simp; omega)⟩, c2.kept hg34, c3, HM.out⟩⟩, by simp [intOf]; omega⟩
   ·have hb0 : (xe != 0) = true := by simp [h0]
    rw [hb0] at hfd
    rw [if_neg h0] at hm
    have H0 := ld h0
    have HM := ld hm
    clear hb0 h0 hm
    go_wp2_with (first | (go_at_call 71; refine hcal.mono ?_; rintro e w3 ⟨rfl, hk3, hi3⟩; have HJ := ld hk3; clear hk3 hi3) | (go_at_call 29; refine (hfd _).mono ?_; rintro e w4 ⟨rfl, hg4⟩; refine Hid.out ?_))
    have hg34 : w3.grownBy w4 none := (ga w3 _ none).trans hg4
    have hk34 : Kp [A.b1, A.b2, w.heap.size + 1] W2 w4 := HJ.out.trans (Kp.of0 hg34 _)
    have hkw : Kp [A.b1, A.b2] w w4 := ⟨hk34.os.trans HX.out.1.os, hk34.tape.trans HX.out.1.tape, hk34.output.trans HX.out.1.output, Nat.le_trans HX.out.1.size hk34.size, fun i hi hx => (hk34.block i (Nat.lt_of_lt_of_le hi HX.out.1.size) (by simp at hx ⊢; omega)).trans (HX.out.1.block i hi hx)⟩
    have hfb : w4.drew.heap[w3.heap.size]? = some (.cells #[.int .i64 xa, .int .i64 xe] 63 (0, 0)) := (hg4.block _ (by simp) (by simp)).trans (heap_alloc_new w3 _)
    have hc4 : w4.drew.heap[w.heap.size]? = some fo := hk34.at HX.out.2.1 (by simp; omega)
    have h3s := HJ.out.size
    have hw2s := (gl HX.out.2.2)
    have HKW := ld hkw
    clear hkw hk34 hg34 hg4
    refine ld ?_
    go_wp2
    refine wp_region_L2 (S := fun W' => W'.heap[w3.heap.size]? = some (.cells #[.int .i64 xa, .int .i64 xe] 63 (0, 0))) (by kernel_rfl) ?_
    refine t2 0 28 (.agg #[.int .i64 xa, .int .i64 xe]) (fun w' hw' => ?_) hfb ?_
    ·have hc0 := cell_of_row w' _ 0 _ _ _ (hw'); have hc1 := cell_of_row w' _ 1 _ _ _ (hw'); clear hw'; go_simp
    (try simp only [Act.put, sA, sB, sC])
    refine t1 1 4 ((Value.map none)) hfb ?_
    (try simp only [Act.put, sA, sB, sC])
    refine wpL_store (i := 2) w.heap.size #[.int .i64 xa, .int .i64 xe] _ 63 _ _ _ (by kernel_rfl) rfl (by kernel_rfl) rfl rfl rfl rfl hc4 (by kernel_rfl) rfl (by simp [Value.oneCell']) ?_
    intro w7 hh7 hg7
    refine ⟨(hg7.block _ (gl hfb) (by simp; omega)).trans hfb, ?_⟩
    (try simp only [Act.put, sA, sB, sC])
    refine wpL_done (by kernel_rfl) ?_ _
    go_wp2
    (try simp only [Exit.inBlock, Exit.then])
    refine bodyPost_ret (results_tmp_cell rfl _ _ w.heap.size 63 _ (0, 0) _ (.map none) rfl rfl hh7 Tryz.underlying63 rfl (by kernel_rfl)) rfl ?_
    obtain ⟨⟨_, e1⟩, _⟩ : ([] = D ∧ (xa, xe) = (ra, re)) ∧ st2 = r2 := by have := Option.some.inj HM.out; simp only [Prod.mk.injEq] at this ⊢; exact this
    cases e1
    exact ⟨none, rfl, (HKW.out.trans (Kp.of0 (gdrew (World.grownBy.refl _ _)) _)).trans' hg7 (Nat.le_refl _), fun e => absurd e H0.out⟩
  ·have e : t = L := by omega
   subst e
   rw [List.drop_eq_nil_of_le (by rw [← HL.out]; exact Nat.le_refl _)] at hm
   unfold Nam.listI at hm
   have HM := ld (Option.some.inj hm)
   have y13 := cell_of_row wr _ 13 _ _ _ hlbr
   have HX := ld (And.intro hck (And.intro hkp (And.intro hset hnd)))
   have hsl := hset.lt
   have hcl := hck.lt
   have hcm := hck.mm.lt
   clear hm hck hkp hset hnd hlbr
   go_wp2_with (with_reducible refine hold_st 5 ?_)
   refine ld ?_
   refine sg hcell ?_
   intro w7 hh7 hg7
   go_wp2
   (try simp only [Exit.inBlock, Exit.then])
   refine bodyPost_ret (results_tmp_cell rfl _ _ w.heap.size 63 _ (0, 0) _ (.map (some (w.heap.size + 1))) rfl rfl hh7 Tryz.underlying63 rfl (by kernel_rfl)) rfl ?_
   obtain ⟨⟨e0, e1⟩, e2⟩ : (D1 = D ∧ ((0 : Int), (0 : Int)) = (ra, re)) ∧ st1 = r2 := by have := HM.out; simp only [Prod.mk.injEq] at this ⊢; exact this
   cases e1
   subst e0 e2
   have hk7 : Kp [w.heap.size] wr w7 := Kp.of hg7 _ (fun k e _ => by cases e; simp)
   exact ⟨_, rfl, HX.out.2.1.trans' hg7 (Nat.le_refl _), fun _ => ⟨HX.out.1.keptK hk7 (by simp; omega), _, rfl, by omega, HX.out.2.2.1.keptK hk7 (by simp), HX.out.2.2.2⟩⟩
theorem cit_all : ∀ f, CIt f
 | 0 => by intro A w0 w st its a L cap D ra re r2 h hv hr; unfold Nam.items at hr; cases hr
 | f + 1 => cit_step f (cit_all f)
open Go.RowKit Go.Maps Go.WideMaps
open Nam (St F)
theorem nName_any (A : Adr) (w0 w : World) (st : St) (nb : Nat) (ua ta la ia : Option Addr) (un uc tn tc ln lc jn ic : Nat) (nm : List UInt8) (at_ : Int) (dv : Value) (hnb : w.heap[nb]? = some (.cells #[.pointer (some ⟨A.c, 0, none⟩), .string ⟨nm.toArray⟩, .slice ua un uc, .slice ta tn tc, .slice la ln lc, .slice ia jn ic, .int .i64 at_, dv] 80 (0, 0))) (h : Ck w0 w A st) (hs : Nam.short nm = true) :
  Calls Tryz.prog 35 #[.pointer (some ⟨nb, 0, none⟩)] w fun e w' => e = .returned (fv (if st.nodes.contains nm then (at_, 20) else (0, 0))) ∧ w.grownBy w' none := by
 obtain ⟨W1, hW1⟩ : ∃ W1, W1 = w.alloc fo := ⟨_, rfl⟩
 have hg1 : w.grownBy W1.drew none := by rw [hW1]; exact gdrew (ga w fo none)
 have hce : W1.drew.heap[w.heap.size]? = some fo := by rw [hW1]; exact heap_alloc_new w fo
 have hS0 : (fun W' => W'.heap[nb]? = some (.cells #[.pointer (some ⟨A.c, 0, none⟩), .string ⟨nm.toArray⟩, .slice ua un uc, .slice ta tn tc, .slice la ln lc, .slice ia jn ic, .int .i64 at_, dv] 80 (0, 0)) ∧ W'.heap[A.c]? = some (.cells #[.map (some A.m)] 77 (0, 0)) ∧ Mm W' A) W1.drew := ⟨(hg1.block _ (gl hnb) (by simp)).trans hnb, (h.kept hg1).cc, (h.kept hg1).mm⟩
 have hS2 : ∀ V, W1.drew.grownBy V none → (fun W' => W'.heap[nb]? = some (.cells #[.pointer (some ⟨A.c, 0, none⟩), .string ⟨nm.toArray⟩, .slice ua un uc, .slice ta tn tc, .slice la ln lc, .slice ia jn ic, .int .i64 at_, dv] 80 (0, 0)) ∧ W'.heap[A.c]? = some (.cells #[.map (some A.m)] 77 (0, 0)) ∧ Mm W' A) V := fun V hV => ⟨(hV.block _ (gl hS0.1) (by simp)).trans hS0.1, ((h.kept hg1).kept hV).cc, ((h.kept hg1).kept hV).mm⟩
 have hcall := has_any (some A.b0) st.cnt st.nodes nm hs W1.drew (h.kept hg1).s0
 unfold strV at hcall
 have HF := ld hW1
 have HG := ld hg1
 have HS2 := ld hS2
 clear hW1 hg1 hnb h hS2
 cases q : st.nodes.contains nm with
 | true =>
  rw [q] at hcall
  simp only [fv, if_pos, if_neg, Bool.false_eq_true, if_false]
  go_enter Tryz.func35, Tryz.ntmps35
  go_wp2
  rw [show (Obj.cells #[Value.int .i64 0, Value.int .i64 0] 63) = fo from rfl, ← HF.out]
  refine wp_region_L2 (S := fun W' => W'.heap[nb]? = some (.cells #[.pointer (some ⟨A.c, 0, none⟩), .string ⟨nm.toArray⟩, .slice ua un uc, .slice ta tn tc, .slice la ln lc, .slice ia jn ic, .int .i64 at_, dv] 80 (0, 0)) ∧ W'.heap[A.c]? = some (.cells #[.map (some A.m)] 77 (0, 0)) ∧ Mm W' A) (by kernel_rfl) ?_
  clear HF
  refine t1 0 3 (.pointer (some ⟨nb, 0, none⟩)) hS0 ?_
  (try simp only [Act.put, sA, sB, sC])
  refine t1 1 4 (.pointer (some ⟨nb, 0, none⟩)) hS0 ?_
  (try simp only [Act.put, sA, sB, sC])
  refine t1 2 5 (.pointer (some ⟨nb, 0, none⟩)) hS0 ?_
  (try simp only [Act.put, sA, sB, sC])
  refine t2 3 6 (.pointer (some ⟨A.c, 0, none⟩)) (fun w' hw' => ?_) hS0 ?_
  ·have hc0 := cell_of_row w' _ 0 _ _ _ (hw'.1); clear hw'; go_simp
  (try simp only [Act.put, sA, sB, sC])
  refine t1 4 7 (.pointer (some ⟨A.c, 0, none⟩)) hS0 ?_
  (try simp only [Act.put, sA, sB, sC])
  refine t1 5 8 (.pointer (some ⟨A.c, 0, none⟩)) hS0 ?_
  (try simp only [Act.put, sA, sB, sC])
  refine t2 6 9 (.map (some A.m)) (fun w' hw' => ?_) hS0 ?_
  ·have hc0 := cell_of_row w' _ 0 _ _ _ (hw'.2.1); clear hw'; go_simp
  (try simp only [Act.put, sA, sB, sC])
  refine t2 7 10 (.map (some A.b0)) (fun w' hw' => ?_) hS0 ?_
  ·have hl := hw'.2.2.look.1; clear hw'; go_simp
  (try simp only [Act.put, sA, sB, sC])
  refine t1 8 11 (.pointer (some ⟨nb, 0, none⟩)) hS0 ?_
  (try simp only [Act.put, sA, sB, sC])
  refine t1 9 12 (.pointer (some ⟨nb, 0, none⟩)) hS0 ?_
  (try simp only [Act.put, sA, sB, sC])
  refine t1 10 13 (.pointer (some ⟨nb, 1, none⟩)) hS0 ?_
  (try simp only [Act.put, sA, sB, sC])
  refine t1 11 14 (.pointer (some ⟨nb, 1, none⟩)) hS0 ?_
  (try simp only [Act.put, sA, sB, sC])
  refine t2 12 15 (.string ⟨nm.toArray⟩) (fun w' hw' => ?_) hS0 ?_
  ·have hc0 := cell_of_row w' _ 1 _ _ _ (hw'.1); clear hw'; go_simp
  (try simp only [Act.put, sA, sB, sC])
  refine wpL_call (i := 13) (d := 16) (R := fun v w' => v = .bool true ∧ W1.drew.grownBy w' none) (by kernel_rfl) rfl (by kernel_rfl) (by kernel_rfl) (by kernel_rfl) (hcall.mono fun e w' he => ⟨_, he.1, rfl, he.2⟩) (fun v w' h => HS2.out _ h.2) (fun v w2 h => ?_)
  rw [h.1]
  have hg2 := h.2
  clear h v
  (try simp only [Act.put, sA, sB, sC])
  refine wpL_done (by kernel_rfl) ?_ _
  have hce2 := (hg2.block _ (gl hce) (by simp)).trans hce
  have y6 := cell_of_row w2 _ 6 _ _ _ (HS2.out _ hg2).1
  have y0 := cell_of_row w2 _ 0 _ _ _ (HS2.out _ hg2).1
  clear hS0 hcall hce q
  go_wp2_with (with_reducible refine hold_st 2 ?_)
  refine ld ?_
  refine sg hce2 ?_
  intro w7 hh7 hg7
  go_wp2
  (try simp only [Exit.inBlock, Exit.then])
  refine br hh7 Tryz.underlying63 ?_
  exact ⟨rfl, (HG.out.trans hg2).andThen hg7 (fun j e => .inl (by cases e; exact Nat.le_refl _))⟩
 | false =>
  rw [q] at hcall
  simp only [fv, if_pos, if_neg, Bool.false_eq_true, if_false]
  go_enter Tryz.func35, Tryz.ntmps35
  go_wp2
  rw [show (Obj.cells #[Value.int .i64 0, Value.int .i64 0] 63) = fo from rfl, ← HF.out]
  refine wp_region_L2 (S := fun W' => W'.heap[nb]? = some (.cells #[.pointer (some ⟨A.c, 0, none⟩), .string ⟨nm.toArray⟩, .slice ua un uc, .slice ta tn tc, .slice la ln lc, .slice ia jn ic, .int .i64 at_, dv] 80 (0, 0)) ∧ W'.heap[A.c]? = some (.cells #[.map (some A.m)] 77 (0, 0)) ∧ Mm W' A) (by kernel_rfl) ?_
  clear HF
  refine t1 0 3 (.pointer (some ⟨nb, 0, none⟩)) hS0 ?_
  (try simp only [Act.put, sA, sB, sC])
  refine t1 1 4 (.pointer (some ⟨nb, 0, none⟩)) hS0 ?_
  (try simp only [Act.put, sA, sB, sC])
  refine t1 2 5 (.pointer (some ⟨nb, 0, none⟩)) hS0 ?_
  (try simp only [Act.put, sA, sB, sC])
  refine t2 3 6 (.pointer (some ⟨A.c, 0, none⟩)) (fun w' hw' => ?_) hS0 ?_
  ·have hc0 := cell_of_row w' _ 0 _ _ _ (hw'.1); clear hw'; go_simp
  (try simp only [Act.put, sA, sB, sC])
  refine t1 4 7 (.pointer (some ⟨A.c, 0, none⟩)) hS0 ?_
  (try simp only [Act.put, sA, sB, sC])
  refine t1 5 8 (.pointer (some ⟨A.c, 0, none⟩)) hS0 ?_
  (try simp only [Act.put, sA, sB, sC])
  refine t2 6 9 (.map (some A.m)) (fun w' hw' => ?_) hS0 ?_
  ·have hc0 := cell_of_row w' _ 0 _ _ _ (hw'.2.1); clear hw'; go_simp
  (try simp only [Act.put, sA, sB, sC])
  refine t2 7 10 (.map (some A.b0)) (fun w' hw' => ?_) hS0 ?_
  ·have hl := hw'.2.2.look.1; clear hw'; go_simp
  (try simp only [Act.put, sA, sB, sC])
  refine t1 8 11 (.pointer (some ⟨nb, 0, none⟩)) hS0 ?_
  (try simp only [Act.put, sA, sB, sC])
  refine t1 9 12 (.pointer (some ⟨nb, 0, none⟩)) hS0 ?_
  (try simp only [Act.put, sA, sB, sC])
  refine t1 10 13 (.pointer (some ⟨nb, 1, none⟩)) hS0 ?_
  (try simp only [Act.put, sA, sB, sC])
  refine t1 11 14 (.pointer (some ⟨nb, 1, none⟩)) hS0 ?_
  (try simp only [Act.put, sA, sB, sC])
  refine t2 12 15 (.string ⟨nm.toArray⟩) (fun w' hw' => ?_) hS0 ?_
  ·have hc0 := cell_of_row w' _ 1 _ _ _ (hw'.1); clear hw'; go_simp
  (try simp only [Act.put, sA, sB, sC])
  refine wpL_call (i := 13) (d := 16) (R := fun v w' => v = .bool false ∧ W1.drew.grownBy w' none) (by kernel_rfl) rfl (by kernel_rfl) (by kernel_rfl) (by kernel_rfl) (hcall.mono fun e w' he => ⟨_, he.1, rfl, he.2⟩) (fun v w' h => HS2.out _ h.2) (fun v w2 h => ?_)
  rw [h.1]
  have hg2 := h.2
  clear h v
  (try simp only [Act.put, sA, sB, sC])
  refine wpL_done (by kernel_rfl) ?_ _
  have hce2 := (hg2.block _ (gl hce) (by simp)).trans hce
  have y6 := cell_of_row w2 _ 6 _ _ _ (HS2.out _ hg2).1
  have y0 := cell_of_row w2 _ 0 _ _ _ (HS2.out _ hg2).1
  clear hS0 hcall hce q
  go_wp2_with (with_reducible refine hold_st 2 ?_)
  refine ld ?_
  refine sg hce2 ?_
  intro w7 hh7 hg7
  go_wp2
  (try simp only [Exit.inBlock, Exit.then])
  refine br hh7 Tryz.underlying63 ?_
  exact ⟨rfl, (HG.out.trans hg2).andThen hg7 (fun j e => .inl (by cases e; exact Nat.le_refl _))⟩
open Go.RowKit Go.Maps Go.WideMaps
open Nam (St F)
def CCl (f : Nat) : Prop := ∀ (A : Adr) (w0 w : World) (st : St) (ls : List Gram.Var) (its : List Gram.Item) (a b : Option Addr) (L cap M capb : Nat) (ra re : Int) (r2 : St), Ck w0 w A st → RepC w0 0 [] (.l 112 5 (ls.map varD)) (.slice a L cap) → RepC w0 0 [] (.l 40 12 (itemsD its)) (.slice b M capb) → Nam.clocks f ls its st = some ((ra, re), r2) →
 Calls Tryz.prog 55 #[.pointer (some ⟨A.c, 0, none⟩), .slice a L cap, .slice b M capb] w fun e w' => e = .returned (.agg #[.int .i64 ra, .int .i64 re]) ∧ Kp [A.b1, A.b2] w w' ∧ (re = 0 → Ck w0 w' A r2)
theorem ccl_step (f : Nat) (hC : CCl f) : CCl (f + 1) := by
 intro A w0 w st ls its a b L cap M capb ra re r2 h hv hi hr
 unfold Nam.clocks at hr
 cases hx : Nam.clockVars st ls with
 | none => rw [hx] at hr; cases hr
 | some xr =>
 rw [hx] at hr
 obtain ⟨xa, xe⟩ := xr
 simp only at hr
 obtain ⟨hL, hLm⟩ := nLen hv
 rw [List.length_map] at hL
 obtain ⟨hM, hMm⟩ := nLen hi
 rw [itemsD_map, List.length_map] at hM
 unfold maxLen at hLm hMm
 have hlt := h.lt
 have hlm := h.mm.lt
 have hb := h.base.size
 have hlo := h.lo
 have HL := ld (And.intro hL hM)
 have HR := ld hr
 have HX := ld hx
 have HH := ld h
 clear hL hr h hM hx
 go_enter Tryz.func55, Tryz.ntmps55
 go_wp2
 go_loopw [16] (fun iv wr => ∃ t : Nat, t ≤ L ∧ iv = .int .i64 (t : Int) ∧ Hid (w.grownBy wr none ∧ wr.heap[w.heap.size]? = some fo ∧ Nam.clockVars st (ls.drop t) = some (xa, xe))) (fun i _ => L - (intOf i).toNat)
 case atStart => exact ⟨0, Nat.zero_le _, rfl, ld ⟨ga _ _ _, heap_alloc_new w fo, HX.out⟩⟩
 case round =>
  obtain ⟨t, ht, rfl, HG⟩ := hrel
  obtain ⟨hg, hcell, hm⟩ := HG.out
  clear HG HX
  have hsz := (gl hcell)
  by_cases hlt2 : t < L
  ·obtain ⟨x, hx⟩ : ∃ x, ls[t]? = some x := ⟨_, List.getElem?_eq_getElem (by rw [← HL.out.1]; exact hlt2)⟩
   rw [drop_at hx] at hm
   unfold Nam.clockVars at hm
   obtain ⟨g, p, q, r', rfl, c0, c1, c2, c3, c4, hc⟩ := varAt hv hx
   have hgb := HH.out.base.trans hg
   have c0 := hgb.cell c0 (by simp)
   have c1 := hgb.cell c1 (by simp)
   have c2 := hgb.cell c2 (by simp)
   have c3 := hgb.cell c3 (by simp)
   have c4 := hgb.cell c4 (by simp)
   cases hq : Nam.clock st x x.clock with
   | none => rw [hq] at hm; cases hm
   | some qb =>
   have hcl := clock_any A x p q r' st w0 (wr.alloc (.cells #[.string ⟨x.name.toArray⟩, .int .i64 x.tk, .int .i64 x.tl, .slice p q r', .int .i64 x.at_] 112)) qb ((HH.out.kept hg).kept (ga wr _ none)) hc hq
   rw [hq] at hm
   clear hgb hc hx hq
   cases qb with
   | true =>
    have HM := ld hm
    clear hm
    go_wp2_with (go_at_call 72; refine hcl.mono ?_; rintro e w1 ⟨rfl, hg1⟩)
    have hg2 : wr.grownBy w1 none := (ga wr _ none).trans hg1
    exact ⟨⟨t + 1, by omega, by go_num, ld ⟨hg.trans hg2, (hg2.block _ hsz (by simp)).trans hcell, HM.out⟩⟩, by simp [intOf]; omega⟩
   | false =>
    have HM := ld (Option.some.inj hm)
    clear hm
    go_wp2_with (go_at_call 72; refine hcl.mono ?_; rintro e w1 ⟨rfl, hg1⟩; have d4 := hg1.cell (cell_of_row _ _ 4 _ _ _ (heap_alloc_new wr _)) (by simp); refine Hid.out ?_)
    have hg2 : wr.grownBy w1 none := (ga wr _ none).trans hg1
    have hce1 := (hg2.block _ hsz (by simp)).trans hcell
    refine ld ?_
    go_wp2_with (with_reducible refine hold_st 6 ?_)
    refine ld ?_
    refine sg hce1 ?_
    intro w7 hh7 hg7
    go_wp2
    (try simp only [Exit.inBlock, Exit.then])
    refine br hh7 Tryz.underlying63 ?_
    cases HM.out
    have hq := HR.out
    rw [if_neg (by decide)] at hq
    obtain ⟨e1, e2⟩ : (x.at_, (21 : Int)) = (ra, re) ∧ st = r2 := by have := Option.some.inj hq; simp only [Prod.mk.injEq] at this ⊢; exact this
    cases e1
    exact ⟨rfl, (Kp.of0 (hg.trans hg2) _).trans' hg7 (Nat.le_refl _), fun e => by simp at e⟩
  ·have e : t = L := by omega
   subst e
   rw [List.drop_eq_nil_of_le (by rw [← HL.out.1]; exact Nat.le_refl _)] at hm
   unfold Nam.clockVars at hm
   cases Option.some.inj hm
   have hq := HR.out
   rw [if_pos rfl] at hq
   have HQ := ld hq
   have HG := ld (And.intro hg hcell)
   clear hm hq HR hg hcell
   go_wp2
   go_loopw [30] (fun iv wr => ∃ (t : Nat) (st1 : St), t ≤ M ∧ iv = .int .i64 (t : Int) ∧ Hid (Ck w0 wr A st1 ∧ Kp [A.b1, A.b2] w wr ∧ wr.heap[w.heap.size]? = some fo ∧ Nam.clocksL (Nam.clocks f) (its.drop t) st1 = some ((ra, re), r2))) (fun i _ => M - (intOf i).toNat)
   case atStart => exact ⟨0, st, Nat.zero_le _, rfl, ld ⟨HH.out.kept HG.out.1, Kp.of0 HG.out.1 _, HG.out.2, HQ.out⟩⟩
   case round =>
    clear HQ HG
    obtain ⟨t2, st1, ht2, rfl, HG⟩ := hrel
    obtain ⟨hck, hkp, hcell, hm⟩ := HG.out
    clear HG
    have hsz2 := (gl hcell)
    have hws := hkp.size
    by_cases hlt3 : t2 < M
    ·obtain ⟨x, hx⟩ : ∃ x, its[t2]? = some x := ⟨_, List.getElem?_eq_getElem (by rw [← HL.out.2]; exact hlt3)⟩
     obtain ⟨ns, e, ss, at_⟩ := x
     obtain ⟨f1, s1, nm1, tk1, tl1, n1, m1, ks1, a1⟩ := e
     rw [drop_at hx] at hm
     unfold Nam.clocksL at hm
     simp only [Nam.itStates] at hm
     obtain ⟨g2, na, nn, nc, ka, kn, kc, qa, qn, qc, rfl, k1, k2, k3, hq⟩ := itemAt hi hx
     simp only [expCells, List.cons_append, List.nil_append] at hq
     have u0 := hck.base.cell (hq 0 _ rfl) (by simp)
     have u1 := hck.base.cell (hq 1 _ rfl) (by simp)
     have u2 := hck.base.cell (hq 2 _ rfl) (by simp)
     have u3 := hck.base.cell (hq 3 _ rfl) (by simp)
     have u4 := hck.base.cell (hq 4 _ rfl) (by simp)
     have u5 := hck.base.cell (hq 5 _ rfl) (by simp)
     have u6 := hck.base.cell (hq 6 _ rfl) (by simp)
     have u7 := hck.base.cell (hq 7 _ rfl) (by simp)
     have u8 := hck.base.cell (hq 8 _ rfl) (by simp)
     have u9 := hck.base.cell (hq 9 _ rfl) (by simp)
     have u10 := hck.base.cell (hq 10 _ rfl) (by simp)
     have u11 := hck.base.cell (hq 11 _ rfl) (by simp)
     rw [Nat.add_zero] at u0
     cases hy : Nam.clocksI (Nam.clocks f) ss st1 with
     | none => rw [hy] at hm; cases hm
     | some y =>
     rw [hy] at hm
     obtain ⟨⟨ya, ye⟩, sty⟩ := y
     simp only at hm
     obtain ⟨hS, hSm⟩ := statesLen k3
     unfold maxLen at hSm
     have HS := ld hS
     have HY := ld hy
     have HM := ld hm
     have HK := ld (And.intro hck (And.intro hkp (And.intro hcell k3)))
     clear hq k1 k2 k3 hy hm hS hck hkp hcell hx
     go_wp2
     go_loopw [37] (fun iv wq => ∃ (s : Nat) (st2 : St), s ≤ qn ∧ iv = .int .i64 (s : Int) ∧ Hid (Ck w0 wq A st2 ∧ Kp [A.b1, A.b2] w wq ∧ wq.heap[w.heap.size]? = some fo ∧ Nam.clocksI (Nam.clocks f) (ss.drop s) st2 = some ((ya, ye), sty))) (fun i _ => qn - (intOf i).toNat)
     case atStart => exact ⟨0, st1, Nat.zero_le _, rfl, ld ⟨HK.out.1.kept (ga _ _ _), HK.out.2.1.trans (Kp.of0 (ga _ _ _) _), ((ga _ _ none).block _ hsz2 (by simp)).trans HK.out.2.2.1, HY.out⟩⟩
     case round =>
      clear u0 u1 u2 u3 u4 u5 u6 u7 u8 u9 u10 u11 HY
      obtain ⟨s, st2, hs, rfl, HG⟩ := hrel
      obtain ⟨hck, hkp, hcell, hm⟩ := HG.out
      clear HG
      have hsz3 := (gl hcell)
      have hws3 := hkp.size
      by_cases hlt4 : s < qn
      ·obtain ⟨x, hx⟩ : ∃ x, ss[s]? = some x := ⟨_, List.getElem?_eq_getElem (by rw [← HS.out]; exact hlt4)⟩
       obtain ⟨nm, us, ut, lsx, itx, ax⟩ := x
       rw [drop_at hx] at hm
       unfold Nam.clocksI at hm
       obtain ⟨g3, ua, un, uc, ta, tn, tc, la, ln, lc, ia, jn, ic, rfl, ⟨v0, v1, v2, v3, v4, v5⟩, _, _, hlv, hiv⟩ := stateAt HK.out.2.2.2 hx
       have v0 := hck.base.cell v0 (by simp)
       have v1 := hck.base.cell v1 (by simp)
       have v2 := hck.base.cell v2 (by simp)
       have v3 := hck.base.cell v3 (by simp)
       have v4 := hck.base.cell v4 (by simp)
       have v5 := hck.base.cell v5 (by simp)
       cases hd : Nam.declare true lsx st2 with
       | none => rw [hd] at hm; cases hm
       | some xd =>
       rw [hd] at hm
       simp only at hm
       cases hc : Nam.clocks f lsx itx xd.2 with
       | none => rw [hc] at hm; cases hm
       | some y =>
       rw [hc] at hm
       obtain ⟨⟨za, ze⟩, zst⟩ := y
       simp only at hm
       have hde := fun V (hV : Ck w0 V A st2) => declare2_any A lsx la ln lc st2 w0 V xd hV hlv hd
       simp only [fv] at hde
       have HDE := ld hde
       have HCL := ld (fun V (hV : Ck w0 V A xd.2) => hC A w0 V xd.2 lsx itx la ia ln lc jn ic za ze zst hV hlv hiv hc)
       have hfd := found_any (za, ze)
       simp only [fv] at hfd
       have HX := ld (And.intro hck (And.intro hkp hcell))
       clear hde hd hc hx hiv hck hkp hcell
       by_cases h0 : ze = 0
       ·have hb0 : (ze != 0) = false := by simp [h0]
        rw [hb0] at hfd
        rw [if_pos h0] at hm
        have H0 := ld h0
        clear hb0 h0
        cases hf : Nam.forget true lsx zst with
        | none => rw [hf] at hm; cases hm
        | some st' =>
        rw [hf] at hm
        have HFO := ld (fun V (hV : Ck w0 V A zst) => forget2_any A lsx la ln lc zst w0 V st' hV hlv hf)
        have HM2 := ld hm
        clear hm hf hlv
        go_wp2_with (first | (go_at_call 52; refine (HDE.out _ (HX.out.1.kept (ga _ _ _))).mono ?_; rintro e w1 ⟨rfl, hck1, hk1⟩; have d3 := hk1.cellAt (cell_of_row _ _ 3 _ _ _ (heap_alloc_new wr (.cells #[.string ⟨nm.toArray⟩, .slice ua un uc, .slice ta tn tc, .slice la ln lc, .slice ia jn ic, .int .i64 ax] 119 (0, 0)))) (by simp; omega); have d4 := hk1.cellAt (cell_of_row _ _ 4 _ _ _ (heap_alloc_new wr (.cells #[.string ⟨nm.toArray⟩, .slice ua un uc, .slice ta tn tc, .slice la ln lc, .slice ia jn ic, .int .i64 ax] 119 (0, 0)))) (by simp; omega); have HC1 := ld (And.intro hck1 hk1); clear hck1 hk1) | (go_at_call 55; refine (HCL.out _ HC1.out.1).mono ?_; rintro e w2 ⟨rfl, hk2, hi2⟩; have d3 := hk2.cellAt d3 (by simp; omega); have HC2 := ld (And.intro hk2 (hi2 H0.out)); clear hk2 hi2) | (go_at_call 29; refine (hfd _).mono ?_; rintro e w3 ⟨rfl, hg3⟩; have d3 := hg3.cell ((ga w2 _ none).cell d3 (by simp)) (by simp)) | (go_at_call 56; refine (HFO.out _ ((HC2.out.2.kept (ga w2 _ none)).kept hg3)).mono ?_; rintro e w4 ⟨rfl, hck4, hk4⟩))
        have hg23 : w2.grownBy w3 none := (ga w2 _ none).trans hg3
        have hK : Kp [A.b1, A.b2] wr w4 := ((((Kp.of0 (ga wr _ none) _).trans HC1.out.2).trans HC2.out.1).trans (Kp.of0 hg23 _)).trans hk4
        exact ⟨⟨s + 1, st', by omega, by go_num, ld ⟨hck4, HX.out.2.1.trans hK, hK.at HX.out.2.2 (by simp; omega), HM2.out⟩⟩, by simp [intOf]; omega⟩
       ·have hb0 : (ze != 0) = true := by simp [h0]
        rw [hb0] at hfd
        rw [if_neg h0] at hm
        have H0 := ld h0
        have HM2 := ld (Option.some.inj hm)
        clear hb0 h0 hm hlv
        go_wp2_with (first | (go_at_call 52; refine (HDE.out _ (HX.out.1.kept (ga _ _ _))).mono ?_; rintro e w1 ⟨rfl, hck1, hk1⟩; have d3 := hk1.cellAt (cell_of_row _ _ 3 _ _ _ (heap_alloc_new wr (.cells #[.string ⟨nm.toArray⟩, .slice ua un uc, .slice ta tn tc, .slice la ln lc, .slice ia jn ic, .int .i64 ax] 119 (0, 0)))) (by simp; omega); have d4 := hk1.cellAt (cell_of_row _ _ 4 _ _ _ (heap_alloc_new wr (.cells #[.string ⟨nm.toArray⟩, .slice ua un uc, .slice ta tn tc, .slice la ln lc, .slice ia jn ic, .int .i64 ax] 119 (0, 0)))) (by simp; omega); have HC1 := ld (And.intro hck1 hk1); clear hck1 hk1) | (go_at_call 55; refine (HCL.out _ HC1.out.1).mono ?_; rintro e w2 ⟨rfl, hk2, hi2⟩; have HC2 := ld hk2; clear hk2 hi2 d3 d4) | (go_at_call 29; refine (hfd _).mono ?_; rintro e w3 ⟨rfl, hg3⟩; have x0 := hg3.cell (cell_of_row _ _ 0 _ _ _ (heap_alloc_new w2 _)) (by simp); have x1 := hg3.cell (cell_of_row _ _ 1 _ _ _ (heap_alloc_new w2 _)) (by simp); refine Hid.out ?_))
        have hg23 : w2.grownBy w3 none := (ga w2 _ none).trans hg3
        have hK : Kp [A.b1, A.b2] wr w3 := (((Kp.of0 (ga wr _ none) _).trans HC1.out.2).trans HC2.out).trans (Kp.of0 hg23 _)
        have hce3 := hK.at HX.out.2.2 (by simp; omega)
        have HK3 := ld hK
        clear hK hg23
        refine ld ?_
        go_wp2_with (with_reducible refine hold_st 6 ?_)
        refine ld ?_
        refine sg hce3 ?_
        intro w7 hh7 hg7
        go_wp2
        (try simp only [Exit.inBlock, Exit.then])
        refine br hh7 Tryz.underlying63 ?_
        obtain ⟨e1, e2⟩ : (za, ze) = (ya, ye) ∧ zst = sty := by have := HM2.out; simp only [Prod.mk.injEq] at this ⊢; exact this
        cases e1
        have hq2 := HM.out
        rw [if_neg H0.out] at hq2
        obtain ⟨e3, _⟩ : (ya, ye) = (ra, re) ∧ sty = r2 := by have := Option.some.inj hq2; simp only [Prod.mk.injEq] at this ⊢; exact this
        cases e3
        exact ⟨rfl, (HX.out.2.1.trans HK3.out).trans' hg7 (Nat.le_refl _), fun e => absurd e H0.out⟩
      ·have e : s = qn := by omega
       subst e
       rw [List.drop_eq_nil_of_le (by rw [← HS.out]; exact Nat.le_refl _)] at hm
       unfold Nam.clocksI at hm
       cases Option.some.inj hm
       have hq2 := HM.out
       rw [if_pos rfl] at hq2
       go_wp2
       exact ⟨⟨t2 + 1, _, by omega, by go_num, ld ⟨hck, hkp, hcell, hq2⟩⟩, by simp [intOf]; omega⟩
    ·have e : t2 = M := by omega
     subst e
     rw [List.drop_eq_nil_of_le (by rw [← HL.out.2]; exact Nat.le_refl _)] at hm
     unfold Nam.clocksL at hm
     have HM := ld (Option.some.inj hm)
     clear hm
     go_wp2_with (with_reducible refine hold_st 6 ?_)
     refine ld ?_
     refine sg hcell ?_
     intro w7 hh7 hg7
     go_wp2
     (try simp only [Exit.inBlock, Exit.then])
     refine br hh7 Tryz.underlying63 ?_
     obtain ⟨e1, e2⟩ : ((0 : Int), (0 : Int)) = (ra, re) ∧ st1 = r2 := by have := HM.out; simp only [Prod.mk.injEq] at this ⊢; exact this
     cases e1
     subst e2
     exact ⟨rfl, hkp.trans' hg7 (Nat.le_refl _), fun _ => hck.keptB hg7 ⟨by omega, by simp; omega⟩⟩
theorem ccl_all : ∀ f, CCl f
 | 0 => by intro A w0 w st ls its a b L cap M capb ra re r2 h hv hi hr; unfold Nam.clocks at hr; cases hr
 | f + 1 => ccl_step f (ccl_all f)
open Go.RowKit Go.Maps Go.WideMaps
open Nam (St F)
theorem nClocks_any (f : Nat) (A : Adr) (w0 w : World) (st : St) (nb : Nat) (ua ta la ia : Option Addr) (un uc tn tc ln lc jn ic : Nat) (nm : List UInt8) (at_ : Int) (dv : Value) (ls : List Gram.Var) (its : List Gram.Item) (hnb : w.heap[nb]? = some (.cells #[.pointer (some ⟨A.c, 0, none⟩), .string ⟨nm.toArray⟩, .slice ua un uc, .slice ta tn tc, .slice la ln lc, .slice ia jn ic, .int .i64 at_, dv] 80 (0, 0))) (hnX : nb ∉ [A.b0, A.b1, A.b2]) (h : Ck w0 w A st) (hv : RepC w0 0 [] (.l 112 5 (ls.map varD)) (.slice la ln lc)) (hi : RepC w0 0 [] (.l 40 12 (itemsD its)) (.slice ia jn ic)) (ra re : Int) (r2 : St) (hr : Nam.clocks f ls its st = some ((ra, re), r2)) :
  Calls Tryz.prog 42 #[.pointer (some ⟨nb, 0, none⟩)] w fun e w' => e = .returned (.agg #[.int .i64 ra, .int .i64 re]) ∧ Kp [A.b1, A.b2] w w' ∧ (re = 0 → Ck w0 w' A r2) := by
 obtain ⟨W1, hW1⟩ : ∃ W1, W1 = w.alloc fo := ⟨_, rfl⟩
 have hg1 : w.grownBy W1.drew none := by rw [hW1]; exact gdrew (ga w fo none)
 have hce : W1.drew.heap[w.heap.size]? = some fo := by rw [hW1]; exact heap_alloc_new w fo
 have hll := (gl hnb)
 have hlt := h.lt
 have hlm := h.mm.lt
 have hb := h.base.size
 have hS0 : (fun W' => W'.heap[nb]? = some (.cells #[.pointer (some ⟨A.c, 0, none⟩), .string ⟨nm.toArray⟩, .slice ua un uc, .slice ta tn tc, .slice la ln lc, .slice ia jn ic, .int .i64 at_, dv] 80 (0, 0))) W1.drew := (hg1.block _ hll (by simp)).trans hnb
 have hcall := ccl_all f A w0 W1.drew st ls its la ia ln lc jn ic ra re r2 (h.kept hg1) hv hi hr
 simp only [List.mem_cons, List.not_mem_nil, or_false, not_or] at hnX
 have HF := ld hW1
 have HG := ld hg1
 clear hW1 hg1 hnb h hr hv hi
 go_enter Tryz.func42, Tryz.ntmps42
 go_wp2
 rw [show (Obj.cells #[Value.int .i64 0, Value.int .i64 0] 63) = fo from rfl, ← HF.out]
 refine wp_region_L2 (S := fun W' => W'.heap[nb]? = some (.cells #[.pointer (some ⟨A.c, 0, none⟩), .string ⟨nm.toArray⟩, .slice ua un uc, .slice ta tn tc, .slice la ln lc, .slice ia jn ic, .int .i64 at_, dv] 80 (0, 0))) (by kernel_rfl) ?_
 clear HF
 refine t1 0 3 (.pointer (some ⟨nb, 0, none⟩)) hS0 ?_
 (try simp only [Act.put, sA, sB, sC])
 refine t1 1 4 (.pointer (some ⟨nb, 0, none⟩)) hS0 ?_
 (try simp only [Act.put, sA, sB, sC])
 refine t1 2 5 (.pointer (some ⟨nb, 0, none⟩)) hS0 ?_
 (try simp only [Act.put, sA, sB, sC])
 refine t2 3 6 (.pointer (some ⟨A.c, 0, none⟩)) (fun w' hw' => ?_) hS0 ?_
 ·have hc0 := cell_of_row w' _ 0 _ _ _ (hw'); clear hw'; go_simp
 (try simp only [Act.put, sA, sB, sC])
 refine t1 4 7 (.pointer (some ⟨nb, 0, none⟩)) hS0 ?_
 (try simp only [Act.put, sA, sB, sC])
 refine t1 5 8 (.pointer (some ⟨nb, 0, none⟩)) hS0 ?_
 (try simp only [Act.put, sA, sB, sC])
 refine t1 6 9 (.pointer (some ⟨nb, 1, none⟩)) hS0 ?_
 (try simp only [Act.put, sA, sB, sC])
 refine t1 7 10 (.pointer (some ⟨nb, 4, none⟩)) hS0 ?_
 (try simp only [Act.put, sA, sB, sC])
 refine t2 8 11 (.slice la ln lc) (fun w' hw' => ?_) hS0 ?_
 ·have hc0 := cell_of_row w' _ 4 _ _ _ (hw'); clear hw'; go_simp
 (try simp only [Act.put, sA, sB, sC])
 refine t1 9 12 (.pointer (some ⟨nb, 0, none⟩)) hS0 ?_
 (try simp only [Act.put, sA, sB, sC])
 refine t1 10 13 (.pointer (some ⟨nb, 0, none⟩)) hS0 ?_
 (try simp only [Act.put, sA, sB, sC])
 refine t1 11 14 (.pointer (some ⟨nb, 1, none⟩)) hS0 ?_
 (try simp only [Act.put, sA, sB, sC])
 refine t1 12 15 (.pointer (some ⟨nb, 5, none⟩)) hS0 ?_
 (try simp only [Act.put, sA, sB, sC])
 refine t2 13 16 (.slice ia jn ic) (fun w' hw' => ?_) hS0 ?_
 ·have hc0 := cell_of_row w' _ 5 _ _ _ (hw'); clear hw'; go_simp
 (try simp only [Act.put, sA, sB, sC])
 refine wpL_call (i := 14) (d := 17) (R := fun v w' => v = .agg #[.int .i64 ra, .int .i64 re] ∧ Kp [A.b1, A.b2] W1.drew w' ∧ (re = 0 → Ck w0 w' A r2)) (by kernel_rfl) rfl (by kernel_rfl) (by kernel_rfl) (by kernel_rfl) (hcall.mono fun e w' he => ⟨_, he.1, rfl, he.2⟩) (fun v w' h => h.2.1.at hS0 (by simp; omega)) (fun v w2 h => ?_)
 rw [h.1]
 have hk2 := h.2
 have hS2 := hk2.1.at hS0 (by simp; omega)
 have hce2 := hk2.1.at hce (by simp; omega)
 clear h v
 (try simp only [Act.put, sA, sB, sC])
 refine wpL_store (i := 15) w.heap.size #[.int .i64 ra, .int .i64 re] _ 63 _ _ _ (by kernel_rfl) rfl (by kernel_rfl) rfl rfl rfl rfl hce2 (by kernel_rfl) rfl (by simp [Value.oneCell']) ?_
 intro w7 hh7 hg7
 refine ⟨(hg7.block _ (gl hS2) (by simp; omega)).trans hS2, ?_⟩
 (try simp only [Act.put, sA, sB, sC])
 refine wpL_done (by kernel_rfl) ?_ _
 go_wp2
 (try simp only [Exit.inBlock, Exit.then])
 refine br hh7 Tryz.underlying63 ?_
 exact ⟨rfl, ((Kp.of0 HG.out _).trans hk2.1).trans' hg7 (Nat.le_refl _), fun e => (hk2.2 e).keptB hg7 ⟨by omega, by simp; omega⟩⟩
open Go.RowKit Go.Maps Go.WideMaps
open Nam (St F)
theorem nLeave_any (A : Adr) (w0 w : World) (st : St) (nb : Nat) (ua ta la ia : Option Addr) (un uc tn tc ln lc jn ic : Nat) (nm : List UInt8) (at_ : Int) (dv : Value) (v1 v2 v3 : List Gram.Var) (s1 s2 s3 : St) (hnb : w.heap[nb]? = some (.cells #[.pointer (some ⟨A.c, 0, none⟩), .string ⟨nm.toArray⟩, .slice ua un uc, .slice ta tn tc, .slice la ln lc, .slice ia jn ic, .int .i64 at_, dv] 80 (0, 0))) (hnX : nb ∉ [A.b0, A.b1, A.b2]) (h : Ck w0 w A st) (hv1 : RepC w0 0 [] (.l 112 5 (v1.map varD)) (.slice ua un uc)) (hv2 : RepC w0 0 [] (.l 112 5 (v2.map varD)) (.slice ta tn tc)) (hv3 : RepC w0 0 [] (.l 112 5 (v3.map varD)) (.slice la ln lc)) (hr1 : Nam.forget false v1 st = some s1) (hr2 : Nam.forget true v2 s1 = some s2) (hr3 : Nam.forget true v3 s2 = some s3) (hroom : s3.cnt < 2000000) (hs : Nam.short nm = true) (hn : s3.nodes.contains nm = false) :
  Calls Tryz.prog 43 #[.pointer (some ⟨nb, 0, none⟩)] w fun e w' => e = .returned (.agg #[.int .i64 0, .int .i64 0]) ∧ Kp [A.b0, A.b1, A.b2] w w' ∧ Ck w0 w' A (s3.addNode nm) := by
 obtain ⟨W1, hW1⟩ : ∃ W1, W1 = w.alloc fo := ⟨_, rfl⟩
 have hg1 : w.grownBy W1 none := by rw [hW1]; exact ga w fo none
 have hce1 : W1.heap[w.heap.size]? = some fo := by rw [hW1]; exact heap_alloc_new w fo
 have hll := (gl hnb)
 have hlt := h.lt
 have hlm := h.mm.lt
 have hb := h.base.size
 have hnb1 := (hg1.block _ hll (by simp)).trans hnb
 have hck1 := h.kept hg1
 simp only [List.mem_cons, List.not_mem_nil, or_false, not_or] at hnX
 have HF := ld hW1
 have HG := ld hg1
 clear hW1 hg1 hnb h
 go_enter Tryz.func43, Tryz.ntmps43
 go_wp2
 rw [show (Obj.cells #[Value.int .i64 0, Value.int .i64 0] 63) = fo from rfl, ← HF.out]
 clear HF
 have hd0 : W1.grownBy W1.drew none := gdrew (World.grownBy.refl _ _)
 have hcall := forget1_any A v1 ua un uc st w0 W1.drew s1 (hck1.kept hd0) hv1 hr1
 have hS0 : (fun W' => W'.heap[nb]? = some (.cells #[.pointer (some ⟨A.c, 0, none⟩), .string ⟨nm.toArray⟩, .slice ua un uc, .slice ta tn tc, .slice la ln lc, .slice ia jn ic, .int .i64 at_, dv] 80 (0, 0)) ∧ W'.heap[A.c]? = some (.cells #[.map (some A.m)] 77 (0, 0)) ∧ Mm W' A) W1.drew := ⟨hnb1, (hck1.kept hd0).cc, (hck1.kept hd0).mm⟩
 refine wp_region_L2 (S := fun W' => W'.heap[nb]? = some (.cells #[.pointer (some ⟨A.c, 0, none⟩), .string ⟨nm.toArray⟩, .slice ua un uc, .slice ta tn tc, .slice la ln lc, .slice ia jn ic, .int .i64 at_, dv] 80 (0, 0)) ∧ W'.heap[A.c]? = some (.cells #[.map (some A.m)] 77 (0, 0)) ∧ Mm W' A) (by kernel_rfl) ?_
 refine t1 0 3 (.pointer (some ⟨nb, 0, none⟩)) hS0 ?_
 (try simp only [Act.put, sA, sB, sC])
 refine t1 1 4 (.pointer (some ⟨nb, 0, none⟩)) hS0 ?_
 (try simp only [Act.put, sA, sB, sC])
 refine t1 2 5 (.pointer (some ⟨nb, 0, none⟩)) hS0 ?_
 (try simp only [Act.put, sA, sB, sC])
 refine t2 3 6 (.pointer (some ⟨A.c, 0, none⟩)) (fun w' hw' => ?_) hS0 ?_
 ·have hc0 := cell_of_row w' _ 0 _ _ _ (hw'.1); clear hw'; go_simp
 (try simp only [Act.put, sA, sB, sC])
 refine t1 4 7 (.pointer (some ⟨nb, 0, none⟩)) hS0 ?_
 (try simp only [Act.put, sA, sB, sC])
 refine t1 5 8 (.pointer (some ⟨nb, 0, none⟩)) hS0 ?_
 (try simp only [Act.put, sA, sB, sC])
 refine t1 6 9 (.pointer (some ⟨nb, 1, none⟩)) hS0 ?_
 (try simp only [Act.put, sA, sB, sC])
 refine t1 7 10 (.pointer (some ⟨nb, 2, none⟩)) hS0 ?_
 (try simp only [Act.put, sA, sB, sC])
 refine t2 8 11 (.slice ua un uc) (fun w' hw' => ?_) hS0 ?_
 ·have hc0 := cell_of_row w' _ 2 _ _ _ (hw'.1); clear hw'; go_simp
 (try simp only [Act.put, sA, sB, sC])
 refine wpL_call (i := 9) (d := 12) (R := fun v w' => v = .tuple #[] ∧ Ck w0 w' A s1 ∧ Kp [A.b1, A.b2] W1.drew w') (by kernel_rfl) rfl (by kernel_rfl) (by kernel_rfl) (by kernel_rfl) (hcall.mono fun e w' he => ⟨_, he.1, rfl, he.2⟩) (fun v w' h => ⟨h.2.2.at hS0.1 (by simp; omega), h.2.1.cc, h.2.1.mm⟩) (fun v W2 h => ?_)
 rw [h.1]
 have hck2 := h.2.1
 have hk2 := h.2.2
 clear h v
 (try simp only [Act.put, sA, sB, sC])
 refine wpL_done (by kernel_rfl) ?_ _
 have hnb2 := hk2.at hS0.1 (by simp; omega)
 have hce2 := hk2.at (show W1.drew.heap[w.heap.size]? = some fo from hce1) (by simp; omega)
 have HK2 := ld ((Kp.of0 hd0 [A.b1, A.b2]).trans hk2)
 clear hcall hS0 hd0 hck1 hnb1 hce1 hk2
 go_wp2
 have hd1 : W2.grownBy W2.drew none := gdrew (World.grownBy.refl _ _)
 have hcall := forget2_any A v2 ta tn tc s1 w0 W2.drew s2 (hck2.kept hd1) hv2 hr2
 have hS0 : (fun W' => W'.heap[nb]? = some (.cells #[.pointer (some ⟨A.c, 0, none⟩), .string ⟨nm.toArray⟩, .slice ua un uc, .slice ta tn tc, .slice la ln lc, .slice ia jn ic, .int .i64 at_, dv] 80 (0, 0)) ∧ W'.heap[A.c]? = some (.cells #[.map (some A.m)] 77 (0, 0)) ∧ Mm W' A) W2.drew := ⟨hnb2, (hck2.kept hd1).cc, (hck2.kept hd1).mm⟩
 refine wp_region_L2 (S := fun W' => W'.heap[nb]? = some (.cells #[.pointer (some ⟨A.c, 0, none⟩), .string ⟨nm.toArray⟩, .slice ua un uc, .slice ta tn tc, .slice la ln lc, .slice ia jn ic, .int .i64 at_, dv] 80 (0, 0)) ∧ W'.heap[A.c]? = some (.cells #[.map (some A.m)] 77 (0, 0)) ∧ Mm W' A) (by kernel_rfl) ?_
 refine t1 0 13 (.pointer (some ⟨nb, 0, none⟩)) hS0 ?_
 (try simp only [Act.put, sA, sB, sC])
 refine t1 1 14 (.pointer (some ⟨nb, 0, none⟩)) hS0 ?_
 (try simp only [Act.put, sA, sB, sC])
 refine t1 2 15 (.pointer (some ⟨nb, 0, none⟩)) hS0 ?_
 (try simp only [Act.put, sA, sB, sC])
 refine t2 3 16 (.pointer (some ⟨A.c, 0, none⟩)) (fun w' hw' => ?_) hS0 ?_
 ·have hc0 := cell_of_row w' _ 0 _ _ _ (hw'.1); clear hw'; go_simp
 (try simp only [Act.put, sA, sB, sC])
 refine t1 4 17 (.pointer (some ⟨nb, 0, none⟩)) hS0 ?_
 (try simp only [Act.put, sA, sB, sC])
 refine t1 5 18 (.pointer (some ⟨nb, 0, none⟩)) hS0 ?_
 (try simp only [Act.put, sA, sB, sC])
 refine t1 6 19 (.pointer (some ⟨nb, 1, none⟩)) hS0 ?_
 (try simp only [Act.put, sA, sB, sC])
 refine t1 7 20 (.pointer (some ⟨nb, 3, none⟩)) hS0 ?_
 (try simp only [Act.put, sA, sB, sC])
 refine t2 8 21 (.slice ta tn tc) (fun w' hw' => ?_) hS0 ?_
 ·have hc0 := cell_of_row w' _ 3 _ _ _ (hw'.1); clear hw'; go_simp
 (try simp only [Act.put, sA, sB, sC])
 refine wpL_call (i := 9) (d := 22) (R := fun v w' => v = .tuple #[] ∧ Ck w0 w' A s2 ∧ Kp [A.b1, A.b2] W2.drew w') (by kernel_rfl) rfl (by kernel_rfl) (by kernel_rfl) (by kernel_rfl) (hcall.mono fun e w' he => ⟨_, he.1, rfl, he.2⟩) (fun v w' h => ⟨h.2.2.at hS0.1 (by simp; omega), h.2.1.cc, h.2.1.mm⟩) (fun v W3 h => ?_)
 rw [h.1]
 have hck3 := h.2.1
 have hk3 := h.2.2
 clear h v
 (try simp only [Act.put, sA, sB, sC])
 refine wpL_done (by kernel_rfl) ?_ _
 have hnb3 := hk3.at hS0.1 (by simp; omega)
 have hce3 := hk3.at (show W2.drew.heap[w.heap.size]? = some fo from hce2) (by simp; omega)
 have HK3 := ld ((Kp.of0 hd1 [A.b1, A.b2]).trans hk3)
 clear hcall hS0 hd1 hck2 hnb2 hce2 hk3
 go_wp2
 have hd2 : W3.grownBy W3.drew none := gdrew (World.grownBy.refl _ _)
 have hcall := forget2_any A v3 la ln lc s2 w0 W3.drew s3 (hck3.kept hd2) hv3 hr3
 have hS0 : (fun W' => W'.heap[nb]? = some (.cells #[.pointer (some ⟨A.c, 0, none⟩), .string ⟨nm.toArray⟩, .slice ua un uc, .slice ta tn tc, .slice la ln lc, .slice ia jn ic, .int .i64 at_, dv] 80 (0, 0)) ∧ W'.heap[A.c]? = some (.cells #[.map (some A.m)] 77 (0, 0)) ∧ Mm W' A) W3.drew := ⟨hnb3, (hck3.kept hd2).cc, (hck3.kept hd2).mm⟩
 refine wp_region_L2 (S := fun W' => W'.heap[nb]? = some (.cells #[.pointer (some ⟨A.c, 0, none⟩), .string ⟨nm.toArray⟩, .slice ua un uc, .slice ta tn tc, .slice la ln lc, .slice ia jn ic, .int .i64 at_, dv] 80 (0, 0)) ∧ W'.heap[A.c]? = some (.cells #[.map (some A.m)] 77 (0, 0)) ∧ Mm W' A) (by kernel_rfl) ?_
 refine t1 0 23 (.pointer (some ⟨nb, 0, none⟩)) hS0 ?_
 (try simp only [Act.put, sA, sB, sC])
 refine t1 1 24 (.pointer (some ⟨nb, 0, none⟩)) hS0 ?_
 (try simp only [Act.put, sA, sB, sC])
 refine t1 2 25 (.pointer (some ⟨nb, 0, none⟩)) hS0 ?_
 (try simp only [Act.put, sA, sB, sC])
 refine t2 3 26 (.pointer (some ⟨A.c, 0, none⟩)) (fun w' hw' => ?_) hS0 ?_
 ·have hc0 := cell_of_row w' _ 0 _ _ _ (hw'.1); clear hw'; go_simp
 (try simp only [Act.put, sA, sB, sC])
 refine t1 4 27 (.pointer (some ⟨nb, 0, none⟩)) hS0 ?_
 (try simp only [Act.put, sA, sB, sC])
 refine t1 5 28 (.pointer (some ⟨nb, 0, none⟩)) hS0 ?_
 (try simp only [Act.put, sA, sB, sC])
 refine t1 6 29 (.pointer (some ⟨nb, 1, none⟩)) hS0 ?_
 (try simp only [Act.put, sA, sB, sC])
 refine t1 7 30 (.pointer (some ⟨nb, 4, none⟩)) hS0 ?_
 (try simp only [Act.put, sA, sB, sC])
 refine t2 8 31 (.slice la ln lc) (fun w' hw' => ?_) hS0 ?_
 ·have hc0 := cell_of_row w' _ 4 _ _ _ (hw'.1); clear hw'; go_simp
 (try simp only [Act.put, sA, sB, sC])
 refine wpL_call (i := 9) (d := 32) (R := fun v w' => v = .tuple #[] ∧ Ck w0 w' A s3 ∧ Kp [A.b1, A.b2] W3.drew w') (by kernel_rfl) rfl (by kernel_rfl) (by kernel_rfl) (by kernel_rfl) (hcall.mono fun e w' he => ⟨_, he.1, rfl, he.2⟩) (fun v w' h => ⟨h.2.2.at hS0.1 (by simp; omega), h.2.1.cc, h.2.1.mm⟩) (fun v W4 h => ?_)
 rw [h.1]
 have hck4 := h.2.1
 have hk4 := h.2.2
 clear h v
 (try simp only [Act.put, sA, sB, sC])
 refine wpL_done (by kernel_rfl) ?_ _
 have hnb4 := hk4.at hS0.1 (by simp; omega)
 have hce4 := hk4.at (show W3.drew.heap[w.heap.size]? = some fo from hce3) (by simp; omega)
 have HK4 := ld ((Kp.of0 hd2 [A.b1, A.b2]).trans hk4)
 clear hcall hS0 hd2 hck3 hnb3 hce3 hk4
 go_wp2
 have hd4 : W4.grownBy W4.drew none := gdrew (World.grownBy.refl _ _)
 have hckd := hck4.kept hd4
 have hcall := add_any A.b0 s3.cnt s3.nodes nm hs hn hroom W4.drew hckd.s0
 unfold strV at hcall
 have hnd : (s3.nodes ++ [nm]).Nodup := List.nodup_append.2 ⟨hckd.nd.1, by simp, fun a ha b hb e => by (simp at hb; subst hb; subst e; simp [ha] at hn)⟩
 have HOWN := ld (fun V (hs : SetAt V A.b0 (s3.cnt + 1) (s3.nodes ++ [nm])) (hg : W4.drew.grownBy V (some A.b0)) => hckd.own0 hg hs (Nat.le_succ _) hnd)
 have hS0 : (fun W' => W'.heap[nb]? = some (.cells #[.pointer (some ⟨A.c, 0, none⟩), .string ⟨nm.toArray⟩, .slice ua un uc, .slice ta tn tc, .slice la ln lc, .slice ia jn ic, .int .i64 at_, dv] 80 (0, 0)) ∧ W'.heap[A.c]? = some (.cells #[.map (some A.m)] 77 (0, 0)) ∧ Mm W' A) W4.drew := ⟨hnb4, hckd.cc, hckd.mm⟩
 have hn4 := (gl hce4)
 refine wp_region_L2 (S := fun W' => W'.heap[nb]? = some (.cells #[.pointer (some ⟨A.c, 0, none⟩), .string ⟨nm.toArray⟩, .slice ua un uc, .slice ta tn tc, .slice la ln lc, .slice ia jn ic, .int .i64 at_, dv] 80 (0, 0)) ∧ W'.heap[A.c]? = some (.cells #[.map (some A.m)] 77 (0, 0)) ∧ Mm W' A) (by kernel_rfl) ?_
 refine t1 0 33 (.pointer (some ⟨nb, 0, none⟩)) hS0 ?_
 (try simp only [Act.put, sA, sB, sC])
 refine t1 1 34 (.pointer (some ⟨nb, 0, none⟩)) hS0 ?_
 (try simp only [Act.put, sA, sB, sC])
 refine t1 2 35 (.pointer (some ⟨nb, 0, none⟩)) hS0 ?_
 (try simp only [Act.put, sA, sB, sC])
 refine t2 3 36 (.pointer (some ⟨A.c, 0, none⟩)) (fun w' hw' => ?_) hS0 ?_
 ·have hc0 := cell_of_row w' _ 0 _ _ _ (hw'.1); clear hw'; go_simp
 (try simp only [Act.put, sA, sB, sC])
 refine t1 4 37 (.pointer (some ⟨A.c, 0, none⟩)) hS0 ?_
 (try simp only [Act.put, sA, sB, sC])
 refine t1 5 38 (.pointer (some ⟨A.c, 0, none⟩)) hS0 ?_
 (try simp only [Act.put, sA, sB, sC])
 refine t2 6 39 (.map (some A.m)) (fun w' hw' => ?_) hS0 ?_
 ·have hc0 := cell_of_row w' _ 0 _ _ _ (hw'.2.1); clear hw'; go_simp
 (try simp only [Act.put, sA, sB, sC])
 refine t2 7 40 (.map (some A.b0)) (fun w' hw' => ?_) hS0 ?_
 ·have hl := hw'.2.2.look.1; clear hw'; go_simp
 (try simp only [Act.put, sA, sB, sC])
 refine t1 8 41 (.pointer (some ⟨nb, 0, none⟩)) hS0 ?_
 (try simp only [Act.put, sA, sB, sC])
 refine t1 9 42 (.pointer (some ⟨nb, 0, none⟩)) hS0 ?_
 (try simp only [Act.put, sA, sB, sC])
 refine t1 10 43 (.pointer (some ⟨nb, 1, none⟩)) hS0 ?_
 (try simp only [Act.put, sA, sB, sC])
 refine t1 11 44 (.pointer (some ⟨nb, 1, none⟩)) hS0 ?_
 (try simp only [Act.put, sA, sB, sC])
 refine t2 12 45 (.string ⟨nm.toArray⟩) (fun w' hw' => ?_) hS0 ?_
 ·have hc0 := cell_of_row w' _ 1 _ _ _ (hw'.1); clear hw'; go_simp
 (try simp only [Act.put, sA, sB, sC])
 refine wpL_call (i := 13) (d := 46) (R := fun v w' => v = .tuple #[] ∧ SetAt w' A.b0 (s3.cnt + 1) (s3.nodes ++ [nm]) ∧ W4.drew.grownBy w' (some A.b0)) (by kernel_rfl) rfl (by kernel_rfl) (by kernel_rfl) (by kernel_rfl) (hcall.mono fun e w' he => ⟨_, he.1, rfl, he.2⟩) (fun v w' h => ⟨(h.2.2.block _ (gl hS0.1) (by simp; omega)).trans hS0.1, (HOWN.out _ h.2.1 h.2.2).cc, (HOWN.out _ h.2.1 h.2.2).mm⟩) (fun v W5 h => ?_)
 rw [h.1]
 have hck5 := HOWN.out _ h.2.1 h.2.2
 have hg5 := h.2.2
 clear h v
 (try simp only [Act.put, sA, sB, sC])
 refine wpL_done (by kernel_rfl) ?_ _
 have hce5 := (hg5.block _ (show w.heap.size < W4.drew.heap.size from hn4) (by simp; omega)).trans (show W4.drew.heap[w.heap.size]? = some fo from hce4)
 have HK5 := ld ((Kp.of0 hd4 [A.b0, A.b1, A.b2]).trans (Kp.of hg5 _ (fun k e _ => by cases e; simp)))
 clear hcall hS0 hd4 hckd hnb4 hce4 hg5 hck4 hn4
 go_wp2_with (with_reducible refine hold_st 2 ?_)
 refine ld ?_
 refine sg hce5 ?_
 intro w7 hh7 hg7
 go_wp2
 (try simp only [Exit.inBlock, Exit.then])
 refine br hh7 Tryz.underlying63 ?_
 refine ⟨rfl, ((((Kp.of0 HG.out _).trans (HK2.out.mono (fun i hi _ => by simp at hi ⊢; omega))).trans (HK3.out.mono (fun i hi _ => by simp at hi ⊢; omega))).trans (HK4.out.mono (fun i hi _ => by simp at hi ⊢; omega)) |>.trans HK5.out).trans' hg7 (Nat.le_refl _), hck5.keptB hg7 ⟨by omega, by simp; omega⟩⟩
open Go.RowKit Go.Maps Go.WideMaps
open Nam (St F)
theorem isKey_int (k : Int) : WideAt.IsKeyLit (.int .i64 k) := by simp [WideAt.IsKeyLit]
theorem newChecker_any (w : World) : Calls Tryz.prog 27 #[] w fun e w' => ∃ A : Adr, e = .returned (.pointer (some ⟨A.c, 0, none⟩)) ∧ Ck w w' A ⟨[], [], [], 0⟩ := by
 have hmm := @run_makeMap Tryz.prog
 have hk : ∀ k : Int, (Lit.int .i64 k).wf = true → _ := fun k hk => keyOf_int_mk (P := Tryz.prog) Tryz.underlying3 hk
 have m1 := World.ownsMap_made w Tryz.prog 3 mapElem
 have g2 := ga (w.alloc (.map #[] 0)) (.map #[] 0) none
 have m2 := m1.kept g2 (by simp)
 obtain ⟨w3, r3, m3, t3⟩ := m2.store intLaw Tryz.underlying75 (by unfold maxLen; omega) (hk 0 (by decide)) (mapElem_some (w.heap.size + 1))
 have g4 := ga w3 (.map #[] 0) none
 have m4 := m3.kept g4 (by simp)
 obtain ⟨w5, r5, m5, t5⟩ := m4.store intLaw Tryz.underlying75 (by unfold maxLen; omega) (hk 1 (by decide)) (mapElem_some w3.heap.size)
 have g6 := ga w5 (.map #[] 0) none
 have m6 := m5.kept g6 (by simp)
 obtain ⟨w7, r7, m7, t7⟩ := m6.store intLaw Tryz.underlying75 (by unfold maxLen; omega) (hk 2 (by decide)) (mapElem_some w5.heap.size)
 have G2 : w.grownBy ((w.alloc (.map #[] 0)).alloc (.map #[] 0)) none := bs2 w _ _
 have k3 : Kp [w.heap.size] ((w.alloc (.map #[] 0)).alloc (.map #[] 0)) (w3.alloc (.map #[] 0)) := (Kp.of t3.grown _ (fun k e _ => by cases e; simp)).trans (Kp.of0 g4 _)
 have k5 : Kp [w.heap.size] (w3.alloc (.map #[] 0)) (w5.alloc (.map #[] 0)) := (Kp.of t5.grown _ (fun k e _ => by cases e; simp)).trans (Kp.of0 g6 _)
 have g8 := ga w7 (.cells #[.map (some w.heap.size)] 77 (0, 0)) none
 have k7 : Kp [w.heap.size] (w5.alloc (.map #[] 0)) (w7.alloc (.cells #[.map (some w.heap.size)] 77 (0, 0))) := (Kp.of t7.grown _ (fun k e _ => by cases e; simp)).trans (Kp.of0 g8 _)
 have z3 := t3.grown.size
 have z5 := t5.grown.size
 have z7 := t7.grown.size
 simp only [World.size_alloc] at z3 z5 z7
 have s0 : SetAt ((w.alloc (.map #[] 0)).alloc (.map #[] 0)) (w.heap.size + 1) 0 [] := by
  have h1 := SetAt.new (w.alloc (.map #[] 0))
  rw [World.size_alloc] at h1
  exact h1
 have s1 := SetAt.new w3
 have s2 := SetAt.new w5
 have b0 := ((s0.keptK k3 (by simp)).keptK k5 (by simp)).keptK k7 (by simp)
 have b1 := (s1.keptK k5 (by simp; omega)).keptK k7 (by simp; omega)
 have b2 := s2.keptK k7 (by simp; omega)
 have hbase : w.grownBy (w7.alloc (.cells #[.map (some w.heap.size)] 77 (0, 0))) none := by
  have h1 := Kp.trans' (X := []) (Kp.of0 G2 []) t3.grown (Nat.le_refl _)
  have h2 := (h1.trans (Kp.of0 g4 _)).trans' t5.grown (Nat.le_refl _)
  have h3 := (h2.trans (Kp.of0 g6 _)).trans' t7.grown (Nat.le_refl _)
  exact Kp.grown (World.grownBy.refl _ _) (h3.trans (Kp.of0 g8 _)) (by simp)
 have hmap := m7.kept g8 (by simp)
 have hcc : (w7.alloc (.cells #[.map (some w.heap.size)] 77 (0, 0))).heap[w7.heap.size]? = some (.cells #[.map (some w.heap.size)] 77 (0, 0)) := heap_alloc_new w7 _
 have hCk : Ck w (w7.alloc (.cells #[.map (some w.heap.size)] 77 (0, 0))) ⟨w7.heap.size, w.heap.size, w.heap.size + 1, w3.heap.size, w5.heap.size⟩ ⟨[], [], [], 0⟩ := by
  refine ⟨hbase, ⟨by simp only; omega, by simp, by simp, by simp only; omega, by simp only; omega⟩, ⟨by simp; omega, by simp; omega, by simp only; omega, by simp only; omega, by simp only; omega⟩, hcc, ⟨_, _, hmap, fun z => ?_, fun z => ?_, fun z => ?_⟩, b0, b1, b2, by simp⟩
  ·rw [Maps.atKey_put_other (by simp), Maps.atKey_put_other (by simp), Maps.atKey_put_same Maps.isMap_empty (isKey_int 0)]
  ·rw [Maps.atKey_put_other (by simp), Maps.atKey_put_same (Maps.IsMap.put Maps.isMap_empty _ _) (isKey_int 1)]
  ·rw [Maps.atKey_put_same (Maps.IsMap.put (Maps.IsMap.put Maps.isMap_empty _ _) _ _) (isKey_int 2)]
 have HCk := ld hCk
 clear hCk hbase b0 b1 b2 s0 s1 s2 k3 k5 k7 g8 g6 g4 g2 G2 m1 m2 m3 m4 m5 m6 m7 hmap hcc hk t3 t5 t7 z3 z5 z7
 go_enter Tryz.func27, Tryz.ntmps27
 go_wp2
 go_ret
 exact ⟨_, rfl, HCk.out⟩
open Go.RowKit Go.Maps Go.WideMaps
open Nam (St F)
def Sv.nobj (v : Sv) (A : Adr) (dv : Value) : Obj := .cells #[.pointer (some ⟨A.c, 0, none⟩), .string ⟨v.nm.toArray⟩, .slice v.ua v.un v.uc, .slice v.ta v.tn v.tc, .slice v.la v.ln v.lc, .slice v.ia v.jn v.ic, .int .i64 v.at_, dv] 80 (0, 0)
section
variable (A : Adr) (w0 : World) (nb n0 : Nat) (v : Sv)
def NInv (s : Nam.SS) (W : World) : Prop := Ck w0 W A s.1 ∧ ∃ dv, W.heap[nb]? = some (v.nobj A dv) ∧ DefAt W n0 s.2 dv
structure NPl : Prop where
 pa : A.c < n0 ∧ A.m < n0 ∧ A.b0 < n0 ∧ A.b1 < n0 ∧ A.b2 < n0
 pnb : nb < n0 ∧ nb ∉ [A.c, A.m, A.b0, A.b1, A.b2] ∧ w0.heap.size ≤ nb
variable {A w0 nb n0 v}
theorem NInv.on {s : Nam.SS} {W W' : World} (h : NInv A w0 nb n0 v s W) (hp : NPl A w0 nb n0) {st' : St} (hk : Kp [A.b0, A.b1, A.b2] W W') (hc : Ck w0 W' A st') : NInv A w0 nb n0 v (st', s.2) W' := by
 obtain ⟨_, dv, h4, h5⟩ := h
 have p2 := hp.pnb.2.1
 have p4 := hp.pa
 simp only [List.mem_cons, List.not_mem_nil, or_false, not_or] at p2
 exact ⟨hc, dv, hk.at h4 (by simp; omega), h5.kept hk (by simp; omega)⟩
theorem NInv.grown {s : Nam.SS} {W W' : World} (h : NInv A w0 nb n0 v s W) (hg : W.grownBy W' none) : NInv A w0 nb n0 v s W' := by
 obtain ⟨h1, dv, h4, h5⟩ := h
 have hk : Kp [] W W' := Kp.of0 hg []
 exact ⟨h1.kept hg, dv, hk.at h4 (by simp), h5.kept hk (by simp)⟩
theorem NInv.st {s : Nam.SS} {W W' : World} (h : NInv A w0 nb n0 v s W) (hp : NPl A w0 nb n0) (hb : w0.heap.size ≤ n0) {n : Nat} (hg : W.grownBy W' (some n)) (hn : n = n0 ∨ W.heap.size ≤ n) : NInv A w0 nb n0 v s W' := by
 obtain ⟨h1, dv, h4, h5⟩ := h
 have hk : Kp [n] W W' := Kp.of hg _ (fun k e _ => by cases e; simp)
 have q1 := h1.lt
 have q2 := h1.mm.lt
 have q5 := (gl h4)
 have q6 := h1.base.size
 have p2 := hp.pnb.1
 have p4 := hp.pa
 exact ⟨h1.keptK hk (by simp; omega), dv, hk.at h4 (by simp; omega), h5.kept hk (by simp; omega)⟩
end
section
variable (A : Adr) (w0 : World) (nb n0 : Nat) (v : Sv) (hp : NPl A w0 nb n0)
include hp
theorem NPl.nX : nb ∉ [A.b0, A.b1, A.b2] := fun e => hp.pnb.2.1 (by simp at e ⊢; omega)
theorem kp3 {W W' : World} (hk : Kp [A.b1, A.b2] W W') : Kp [A.b0, A.b1, A.b2] W W' := hk.mono (fun k e _ => List.mem_cons_of_mem _ e)
theorem doName (n : Gram.Node) (hn1 : n.name = v.nm) (hn2 : n.at_ = v.at_) : Does (NInv A w0 nb n0 v) (fun _ => True) n0 [A.b0, A.b1, A.b2, nb] 35 (.pointer (some ⟨nb, 0, none⟩)) (Nam.nName n) := by
 refine ⟨enters_of Tryz.func35 (by kernel_rfl) rfl, fun s w r hI hn hr => ?_⟩
 have hI2 := hI
 obtain ⟨h1, dv, h4, h5⟩ := hI
 unfold Nam.nName at hr
 rw [hn1, hn2] at hr
 cases hs : Nam.short v.nm with
 | false => rw [hs] at hr; cases hr
 | true =>
  rw [hs] at hr
  cases hr
  refine (nName_any A w0 w s.1 nb v.ua v.ta v.la v.ia v.un v.uc v.tn v.tc v.ln v.lc v.jn v.ic v.nm v.at_ dv h4 h1 hs).mono ?_
  rintro e w' ⟨rfl, hg⟩
  exact ⟨rfl, (Kp.of0 hg []).q1 (by simp), fun _ => hI2.grown hg, trivial⟩
theorem doDecl (own : Bool) (F : Nat) (hF : ∀ args w, (callFunc F args).run Tryz.prog w = .ok (.enter F args) w) (vs : List Gram.Var) (hc : ∀ (w : World) (st : St) (dv : Value) (ra re : Int) (r2 : St), w.heap[nb]? = some (v.nobj A dv) → Ck w0 w A st → Nam.declare own vs st = some ((ra, re), r2) → Calls Tryz.prog F #[.pointer (some ⟨nb, 0, none⟩)] w fun e w' => e = .returned (.agg #[.int .i64 ra, .int .i64 re]) ∧ Ck w0 w' A r2 ∧ Kp [A.b1, A.b2] w w') :
  Does (NInv A w0 nb n0 v) (fun _ => True) n0 [A.b0, A.b1, A.b2, nb] F (.pointer (some ⟨nb, 0, none⟩)) (Nam.nDeclare own vs) := by
 refine ⟨hF, fun s w r hI hn hr => ?_⟩
 have hI2 := hI
 obtain ⟨h1, dv, h4, h5⟩ := hI
 unfold Nam.nDeclare at hr
 cases hd : Nam.declare own vs s.1 with
 | none => rw [hd] at hr; cases hr
 | some x =>
  rw [hd] at hr
  cases hr
  obtain ⟨⟨ra, re⟩, r2⟩ := x
  refine (hc w s.1 dv ra re r2 h4 h1 hd).mono ?_
  rintro e w' ⟨rfl, hc, hk⟩
  exact ⟨rfl, hk.q1 (by simp), fun _ => hI2.on hp (kp3 A w0 nb n0 hp hk) hc, trivial⟩
theorem doMiss (F : Nat) (hF : ∀ args w, (callFunc F args).run Tryz.prog w = .ok (.enter F args) w) (vs : List Gram.Var) (hc : ∀ (w : World) (st : St) (dv : Value) (b : Option Nat) (m : Nat) (D : List (List UInt8)) (ra re : Int), w.heap[nb]? = some (v.nobj A dv) → Ck w0 w A st → dv = .map b → SetO w b m D → Nam.missing D vs = some (ra, re) → Calls Tryz.prog F #[.pointer (some ⟨nb, 0, none⟩)] w fun e w' => e = .returned (.agg #[.int .i64 ra, .int .i64 re]) ∧ w.grownBy w' none) :
  Does (NInv A w0 nb n0 v) (fun _ => True) n0 [A.b0, A.b1, A.b2, nb] F (.pointer (some ⟨nb, 0, none⟩)) (Nam.sMissing vs) := by
 refine ⟨hF, fun s w r hI hn hr => ?_⟩
 have hI2 := hI
 obtain ⟨h1, dv, h4, h5⟩ := hI
 unfold Nam.sMissing at hr
 obtain ⟨b, m, hb, hS⟩ : ∃ b m, dv = .map b ∧ SetO w b m (s.2.getD []) := by
  cases hs2 : s.2 with
  | none => rw [hs2] at h5; exact ⟨none, 0, h5, rfl⟩
  | some D =>
   rw [hs2] at h5
   obtain ⟨k, k1, _, k3, _⟩ := h5
   exact ⟨some k, _, k1, k3⟩
 cases hd : Nam.missing (s.2.getD []) vs with
 | none => rw [hd] at hr; cases hr
 | some x =>
  rw [hd] at hr
  cases hr
  obtain ⟨ra, re⟩ := x
  refine (hc w s.1 dv b m _ ra re h4 h1 hb hS hd).mono ?_
  rintro e w' ⟨rfl, hg⟩
  exact ⟨rfl, (Kp.of0 hg []).q1 (by simp), fun _ => hI2.grown hg, trivial⟩
theorem doNItems (f : Nat) (its : List Gram.Item) (hv : RepC w0 0 [] (.l 40 12 (itemsD its)) (.slice v.ia v.jn v.ic)) : Does (NInv A w0 nb n0 v) (fun _ => True) n0 [A.b0, A.b1, A.b2, nb] 39 (.pointer (some ⟨nb, 0, none⟩)) (Nam.sItems (Nam.items f) its) := by
 refine ⟨enters_of Tryz.func39 (by kernel_rfl) rfl, fun s w r hI hn hr => ?_⟩
 obtain ⟨h1, dv, h4, h5⟩ := hI
 unfold Nam.sItems at hr
 cases hd : Nam.items f its s.1 with
 | none => rw [hd] at hr; cases hr
 | some x =>
  rw [hd] at hr
  cases hr
  obtain ⟨⟨D, ra, re⟩, r2⟩ := x
  refine (nItems_any A w0 w s.1 nb v.ua v.ta v.la v.ia v.un v.uc v.tn v.tc v.ln v.lc v.jn v.ic v.nm v.at_ dv f (cit_all f) h4 hp.pnb.2.1 hp.pnb.2.2 h1 its hv D ra re r2 hd).mono ?_
  rintro e w' ⟨rfl, hk, o, hh, hz⟩
  refine ⟨rfl, hk.q1 (by simp), fun h0 => ?_, trivial⟩
  obtain ⟨c1, k, rfl, k2, k3, k4⟩ := hz h0
  exact ⟨c1, _, hh, k, rfl, Nat.lt_trans hn k2, k3, k4⟩
theorem doClocks (f : Nat) (n : Gram.Node) (hl : RepC w0 0 [] (.l 112 5 (n.locals.map varD)) (.slice v.la v.ln v.lc)) (hi : RepC w0 0 [] (.l 40 12 (itemsD n.items)) (.slice v.ia v.jn v.ic)) : Does (NInv A w0 nb n0 v) (fun _ => True) n0 [A.b0, A.b1, A.b2, nb] 42 (.pointer (some ⟨nb, 0, none⟩)) (Nam.nClocks f n) := by
 refine ⟨enters_of Tryz.func42 (by kernel_rfl) rfl, fun s w r hI hn hr => ?_⟩
 have hI2 := hI
 obtain ⟨h1, dv, h4, h5⟩ := hI
 unfold Nam.nClocks at hr
 cases hd : Nam.clocks f n.locals n.items s.1 with
 | none => rw [hd] at hr; cases hr
 | some x =>
  rw [hd] at hr
  cases hr
  obtain ⟨⟨ra, re⟩, r2⟩ := x
  refine (nClocks_any f A w0 w s.1 nb v.ua v.ta v.la v.ia v.un v.uc v.tn v.tc v.ln v.lc v.jn v.ic v.nm v.at_ dv n.locals n.items h4 (NPl.nX A w0 nb n0 hp) h1 hl hi ra re r2 hd).mono ?_
  rintro e w' ⟨rfl, hk, hc⟩
  exact ⟨rfl, hk.q1 (by simp), fun h0 => hI2.on hp (kp3 A w0 nb n0 hp hk) (hc h0), trivial⟩
theorem doNLeave (n : Gram.Node) (hn1 : n.name = v.nm) (h1 : RepC w0 0 [] (.l 112 5 (n.ins.map varD)) (.slice v.ua v.un v.uc)) (h2 : RepC w0 0 [] (.l 112 5 (n.outs.map varD)) (.slice v.ta v.tn v.tc)) (h3 : RepC w0 0 [] (.l 112 5 (n.locals.map varD)) (.slice v.la v.ln v.lc)) : Does (NInv A w0 nb n0 v) (fun _ => True) n0 [A.b0, A.b1, A.b2, nb] 43 (.pointer (some ⟨nb, 0, none⟩)) (Nam.nLeave n) := by
 refine ⟨enters_of Tryz.func43 (by kernel_rfl) rfl, fun s w r hI hn hr => ?_⟩
 have hI2 := hI
 obtain ⟨c1, dv, h4, h5⟩ := hI
 unfold Nam.nLeave at hr
 rw [hn1] at hr
 cases hd1 : Nam.forget false n.ins s.1 with
 | none => rw [hd1] at hr; cases hr
 | some s1 =>
  rw [hd1] at hr
  simp only at hr
  cases hd2 : Nam.forget true n.outs s1 with
  | none => rw [hd2] at hr; cases hr
  | some s2 =>
   rw [hd2] at hr
   simp only at hr
   cases hd3 : Nam.forget true n.locals s2 with
   | none => rw [hd3] at hr; cases hr
   | some s3 =>
    rw [hd3] at hr
    simp only at hr
    cases hq : (Nam.room s3 && Nam.short v.nm && !s3.nodes.contains v.nm) with
    | false => rw [hq] at hr; cases hr
    | true =>
     rw [hq] at hr
     cases hr
     simp only [Bool.and_eq_true, Bool.not_eq_true', Nam.room, decide_eq_true_eq] at hq
     refine (nLeave_any A w0 w s.1 nb v.ua v.ta v.la v.ia v.un v.uc v.tn v.tc v.ln v.lc v.jn v.ic v.nm v.at_ dv n.ins n.outs n.locals s1 s2 s3 h4 (NPl.nX A w0 nb n0 hp) c1 h1 h2 h3 hd1 hd2 hd3 (by omega) hq.1.2 hq.2).mono ?_
     rintro e w' ⟨rfl, hk, hc⟩
     exact ⟨rfl, hk.q1 (by simp), fun _ => hI2.on hp hk hc, trivial⟩
end
end Go.Proofs.YtonafedbehnneaaGreat
