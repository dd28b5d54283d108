/- Package exec: run. -/
import Derived.Test.YthcejnfnamhpfaaGreatExC
namespace Go.Proofs.YthcejnfnamhpfaaGreat
open Go.RowKit Go.Maps Go.WideMaps

/-- what run's loop keeps: n instructions were run -/
structure LpS (w wr : World) (t g r B : Nat) (c : Cd.Code) (ba : Option Addr) (bc : Nat) (R : List Int × Nat) (pc : Nat) (val s : List Int) (sv : Value) (en : Bool) (n : Nat) : Prop where
  tk : Tk w wr t g val s pc en sv
  le : n ≤ pc
  nN : n ≤ c.body.length
  vl : val.length = c.kinds.length
  sl : s.length ≤ 64
  vi : ∀ y ∈ val, Bv.I64 y
  si : ∀ y ∈ s, Bv.I64 y
  rr : wr.heap[r]? = some (.cells deedsV.toArray 85 (0, 0))
  rb : ∃ cs : Array Value, wr.heap[B]? = some (.cells cs 25 (0, 0)) ∧ cs[6]? = some (.slice ba c.body.length bc)
  nb : B ≠ t ∧ B ≠ g ∧ sv.ownBlock ≠ some B
  nr : r ≠ t ∧ r ≠ g ∧ sv.ownBlock ≠ some r
  go : en = false → Ex.At c pc s.length ∧ ∃ f, Ex.fin c.body f pc val s n = R ∧ c.body.length ≤ f + pc
  done : en = true → (val, n) = R
def LpX (w : World) (t g r B : Nat) (c : Cd.Code) (ba : Option Addr) (bc : Nat) (R : List Int × Nat) (n : Nat) (wr : World) : Prop := ∃ pc val s sv en, LpS w wr t g r B c ba bc R pc val s sv en n

section
variable {w wr V V' : World} {t g r B : Nat} {c : Cd.Code} {ba : Option Addr} {bc : Nat} {R : List Int × Nat} {pc : Nat} {val s : List Int} {sv sv' : Value} {en : Bool} {n : Nat}
theorem LpS.body (h : LpS w wr t g r B c ba bc R pc val s sv en n) {W0 : World} (hW : W0.grownBy w none) (hc : InssAt W0 ba c.body) (hg : W0.heap.size ≤ g) : InssAt wr ba c.body := fun i x hi => by
  obtain ⟨b, o, e, h1, h2, h3⟩ := hc i x hi
  have hb : b < W0.heap.size := lt_of_some h1
  have hn : b ∉ [g] := by simp; omega
  exact ⟨b, o, e, h.tk.kp.cell (hW.cell h1 (by simp)) hn, h.tk.kp.cell (hW.cell h2 (by simp)) hn, h.tk.kp.cell (hW.cell h3 (by simp)) hn⟩
/-- an instruction is done -/
theorem LpS.next {x : Cd.Ins} (h : LpS w wr t g r B c ba bc R pc val s sv false n) (hok : Cd.check c = 0) (h64 : I64s c) (hx : c.body[pc]? = some x) (hf : Ex.Fine c x pc val s) (hn : x.op ≠ 9 → Ex.At c (Ex.nxt x pc s) (Ex.deed x val s).2.length)
    (hk : To t g V sv V' sv') (hr : V.heap[r]? = some (.cells deedsV.toArray 85 (0, 0))) (hb : V.heap[B]? = wr.heap[B]?) (hT : Tk w V' t g (Ex.deed x val s).1 (Ex.deed x val s).2 (Ex.nxt x pc s) (decide (x.op = 9)) sv') :
    LpS w V' t g r B c ba bc R (Ex.nxt x pc s) (Ex.deed x val s).1 (Ex.deed x val s).2 sv' (decide (x.op = 9)) (n + 1) := by
  obtain ⟨o1, o2, o3, _⟩ := Ex.ok_parts hok
  have hpc : pc < c.body.length := (List.getElem?_eq_some_iff.1 hx).1
  have hi := Ex.deed_i64 (h64.2.2.2.2.2.2.1 x (List.mem_of_getElem? hx)).2.1 h.vi h.si
  obtain ⟨cs, b1, b2⟩ := h.rb
  have hBl : B < V.heap.size := by rw [b1] at hb; exact gl hb
  obtain ⟨k1, k2⟩ := hk.lt hBl h.nb.1 h.nb.2.1 h.nb.2.2
  obtain ⟨m1, m2⟩ := hk.lt (gl hr) h.nr.1 h.nr.2.1 h.nr.2.2
  obtain ⟨_, f, hR, hfl⟩ := h.go rfl
  have h1 := h.le
  have h2 := Ex.nxt_up x pc s
  have hroom := hf.room
  obtain ⟨f', rfl⟩ : ∃ f', f = f' + 1 := ⟨f - 1, by omega⟩
  rw [Ex.fin, hx] at hR
  simp only at hR
  refine ⟨hT, by omega, by omega, (Ex.deed_len x val s).trans h.vl, by omega, hi.1, hi.2, m1.trans hr, ⟨cs, (k1.trans hb).trans b1, b2⟩, ⟨h.nb.1, h.nb.2.1, k2⟩, ⟨h.nr.1, h.nr.2.1, m2⟩, fun he => ?_, fun he => ?_⟩
  · have h9 : x.op ≠ 9 := by simpa using he
    rw [if_neg h9] at hR
    exact ⟨hn h9, f', hR, by omega⟩
  · have h9 : x.op = 9 := by simpa using he
    rw [if_pos h9] at hR
    rw [← hR]
    simp [Ex.deed, h9]
end

set_option maxHeartbeats 4000000 in
set_option maxRecDepth 100000 in
theorem xrun_any {W0 w : World} (hW0 : W0.grownBy w none) {c : Cd.Code} {ka : Option Addr} (kc : Nat) {ia : Option Addr} (ic : Nat) {ba : Option Addr} (bc : Nat) (hc : CodeAt W0 c ka ia ba) (h64 : I64s c) (hok : Cd.check c = 0) {g : Nat} {val : List Int} (hg0 : W0.heap.size ≤ g)
    (hrg : w.heap[g]? = some (.cells (ints val).toArray 3 (0, 0))) (hvl : val.length = c.kinds.length) (hvi : ∀ y ∈ val, Bv.I64 y) :
    Calls Tryz.prog 34 #[.agg (codeV c ka kc ia ic ba bc), .slice (some ⟨g, 0, none⟩) val.length val.length] w fun e w' =>
      e = .returned (.int .i64 ((Ex.fin c.body c.body.length 0 val [] 0).2 : Int)) ∧ Kp [g] w w' ∧ w'.heap[g]? = some (.cells (ints (Ex.fin c.body c.body.length 0 val [] 0).1).toArray 3 (0, 0)) := by
  obtain ⟨R, hR⟩ : ∃ R, R = Ex.fin c.body c.body.length 0 val [] 0 := ⟨_, rfl⟩
  rw [← hR]
  obtain ⟨o1, o2, o3, o4, o5, o6, o7, o8, o9, o10, o11, _⟩ := Ex.ok_parts hok
  obtain ⟨K, hK⟩ : ∃ K : Nat, c.stack = (K : Int) := ⟨c.stack.toNat, by omega⟩
  have hmk := fun V => mk_room K (by omega) V
  obtain ⟨N, hN⟩ : ∃ N, N = c.body.length := ⟨_, rfl⟩
  have hN1 : N ≤ 60000 := by omega
  have HN := Lib.hid hN
  have HH := Lib.hid (And.intro hW0 (And.intro hc (And.intro h64 (And.intro hok (And.intro hg0 (And.intro hrg (And.intro hvl (And.intro hvi (And.intro hR hK)))))))))
  unfold codeV
  rw [hK, ← hN]
  clear hN hW0 hc h64 hok hg0 hrg hvl hvi hR hK o1 o2 o3 o4 o5 o6 o7 o8 o9 o10 o11
  go_enter Tryz.func34, Tryz.ntmps34
  go_wp2_with (first | (go_at_call 48; refine (deedsOf_any _).mono ?_; rintro e W3 ⟨rfl, hg3⟩; have H3 := Lib.hid (three_new hg3); clear hg3) | (with_reducible refine hold_stD ?_))
  refine Lib.hid ?_
  refine wpList_plain rfl fun K' hK' => wp_store_row 85 _ _ rfl W3.heap.size deedsV.toArray rfl rfl _ _ (heap_alloc_new W3 _) (by kernel_rfl) rfl (by kernel_rfl) (hK' _ _ ?_)
  have hrr := setRow_at (cs := deedsV.toArray) (heap_alloc_new W3 (.cells #[.nilFunc, .nilFunc, .nilFunc, .nilFunc, .nilFunc, .nilFunc, .nilFunc, .nilFunc, .nilFunc, .nilFunc] 85))
  have hkr : Kp [W3.heap.size] W3 ((W3.alloc (.cells #[.nilFunc, .nilFunc, .nilFunc, .nilFunc, .nilFunc, .nilFunc, .nilFunc, .nilFunc, .nilFunc, .nilFunc] 85)).setRow W3.heap.size deedsV.toArray) := (Kp.of0 (World.grownBy_alloc W3 _ none) _).trans (Kp.of (grown_setRow _ _ _) _ (fun k e _ => by cases e; simp))
  have hg4 : W3.grownBy ((W3.alloc (.cells #[.nilFunc, .nilFunc, .nilFunc, .nilFunc, .nilFunc, .nilFunc, .nilFunc, .nilFunc, .nilFunc, .nilFunc] 85)).setRow W3.heap.size deedsV.toArray) none := Kp.grown (World.grownBy.refl W3 none) (hkr.mono (fun k hk _ => hk)) (fun k hk => by simp at hk; rw [hk]; exact Nat.le_refl _)
  generalize (W3.alloc (.cells #[.nilFunc, .nilFunc, .nilFunc, .nilFunc, .nilFunc, .nilFunc, .nilFunc, .nilFunc, .nilFunc, .nilFunc] 85)).setRow W3.heap.size deedsV.toArray = W4 at hrr hg4 ⊢
  obtain ⟨r, hr⟩ : ∃ r, r = W3.heap.size := ⟨_, rfl⟩
  rw [← hr] at hrr ⊢
  obtain ⟨t, ht⟩ : ∃ t, t = w.heap.size + 1 + 1 := ⟨_, rfl⟩
  obtain ⟨B, hB⟩ : ∃ B, B = w.heap.size := ⟨_, rfl⟩
  have HL : Hid (LpX w t g r B c ba bc R 0 W4) := Lib.hid (by
    obtain ⟨qW0, qc, q64, qok, qg0, qrg, qvl, qvi, qR, qK⟩ := HH.out
    obtain ⟨a1, a2, a3, a4, a5⟩ := H3.out
    have hgl : g < w.heap.size := gl qrg
    have gw4 := a4.trans hg4
    have hl1 : w.heap.size + 1 < W3.heap.size := by omega
    have hl2 : w.heap.size + 1 + 1 < W3.heap.size := by omega
    refine ⟨0, val, [], .slice (some ⟨w.heap.size + 1, 0, none⟩) 0 K, false, ⟨⟨Kp.of0 gw4 _, hgl, by omega, ?_, (gw4.block g hgl (by simp)).trans qrg, ⟨by simp, .inr ⟨w.heap.size + 1, K, _, rfl, by omega, (hg4.block _ hl1 (by simp)).trans a2, Nat.zero_le _, ?_, ?_, by simp⟩⟩, ?_⟩, by omega, by omega, qvl, by simp, qvi, by simp, hrr, ⟨_, (by rw [hB]; exact (hg4.block _ (by omega) (by simp)).trans a1), by rw [← HN.out]; rfl⟩, ?_, ?_, fun _ => ⟨Ex.At.first qok, _, qR.symm, by omega⟩, fun h => by cases h⟩⟩
    · rw [ht]
      exact (hg4.block _ hl2 (by simp)).trans a3
    · have := Ex.ok_parts qok
      unfold maxLen
      omega
    · rw [size_madeCells]
      simp
    · simp [Value.ownBlock]
      omega
    · simp [Value.ownBlock]
      omega
    · simp [Value.ownBlock]
      omega)
  rw [← ht]
  rw [← hB]
  clear hB ht hr hg4 hkr hrr H3 hmk
  go_wp2
  go_loopw [7] (fun iv wr => ∃ n : Nat, n ≤ N ∧ iv = .int .i64 (n : Int) ∧ Hid (LpX w t g r B c ba bc R n wr)) (fun i _ => N + 1 - (intOf i).toNat)
  case atStart => exact ⟨0, Nat.zero_le _, rfl, HL⟩
  case round =>
    obtain ⟨n, hn, rfl, HT⟩ := hrel
    obtain ⟨pc, vl, s, sv, en, hS⟩ := HT.out
    have c3 := cell_of_row wr t 3 _ _ _ hS.tk.rt
    cases en with
    | true =>
      have HF : Hid ((n : Int) = (R.2 : Int) ∧ Kp [g] w wr ∧ wr.heap[g]? = some (.cells (ints R.1).toArray 3 (0, 0))) := Lib.hid (by
        have e := hS.done rfl
        rw [← e]
        exact ⟨rfl, hS.tk.kp, hS.tk.rg⟩)
      clear hS HT HL
      go_wp2
      go_ret
      exact ⟨by rw [HF.out.1]; rfl, HF.out.2⟩
    | false =>
      obtain ⟨qW0, qc, q64, qok, qg0, qrg, qvl, qvi, qR, qK⟩ := HH.out
      obtain ⟨hat, _⟩ := hS.go rfl
      obtain ⟨x, hx, hf, hnx⟩ := hat.fine (val := vl) qok hS.vl
      have hpc : pc < N := by rw [HN.out]; exact (List.getElem?_eq_some_iff.1 hx).1
      have hnp : n ≤ pc := hS.le
      obtain ⟨cs, hb1, hb2⟩ := hS.rb
      obtain ⟨b1, o1, rfl, p1, p2, p3⟩ := hS.body qW0 qc.body qg0 pc x hx
      have p6 := (cell_of_row wr B 6 _ _ _ hb1).trans hb2
      rw [← HN.out] at p6
      have c2 := cell_of_row wr t 2 _ _ _ hS.tk.rt
      obtain ⟨xo, xn, xk⟩ := x
      simp only at p1 p2 p3
      have hS1 := hS.tk.on (World.grownBy_alloc wr (.cells #[.int .i64 xo, .int .i64 xn, .int .i64 xk] 56) none)
      have c2' := cell_of_row _ t 2 _ _ _ hS1.rt
      have f2' := frozen_of_row _ t 2 _ _ hS1.rt
      have HX := Lib.hid (And.intro hS (And.intro hS1 (And.intro hx (And.intro hf hnx))))
      clear hS hS1 hx hf hnx hat HT HL hb1 hb2 qW0 qc q64 qok qg0 qrg qvl qvi qR qK
      go_wp2
      refine wp_region_L (S := fun V => V.heap[wr.heap.size]? = some (.cells #[.int .i64 xo, .int .i64 xn, .int .i64 xk] 56 (0, 0)) ∧ V.heap[r]? = some (.cells deedsV.toArray 85 (0, 0))) (Z := []) (by kernel_rfl) ?_
      refine wpL_as (fun V9 hV9 => ?_)
      have hbt : wr.heap.size ≠ t := by have := HX.out.1.tk.lt; omega
      have hrl := gl HX.out.1.rr
      have HPB : Hid (wr.heap.size ≠ t ∧ wr.heap.size ≠ g ∧ sv.ownBlock ≠ some wr.heap.size) := Lib.hid ⟨hbt, by have := HX.out.1.tk.gg; omega, fun e => by have := (HX.out.1.tk.ob _ e).2; omega⟩
      have hT9 : Tk w V9 t g vl s (pc + 1) false sv := by
        rw [hV9]
        exact (HX.out.2.1.reset (kp_set _ t 2 (.int .i64 ((pc : Int) + 1))) (setrow _ (j := 2) HX.out.2.1.rt) (owns_on HX.out.2.1.own (fun j e => heap_setCell_other _ ⟨t, 2, none⟩ j _ (fun e2 => HX.out.2.1.ne (by rw [e, e2])))) HX.out.2.1.ne).drew
      have h9 : ∀ k, k ≠ t → V9.heap[k]? = (wr.alloc (.cells #[.int .i64 xo, .int .i64 xn, .int .i64 xk] 56)).heap[k]? := fun k hk => by
        rw [hV9]
        exact heap_setCell_other _ ⟨t, 2, none⟩ k _ hk
      have hS9 : V9.heap[wr.heap.size]? = some (.cells #[.int .i64 xo, .int .i64 xn, .int .i64 xk] 56 (0, 0)) ∧ V9.heap[r]? = some (.cells deedsV.toArray 85 (0, 0)) :=
        ⟨(h9 _ hbt).trans (heap_alloc_new wr _), (h9 r HX.out.1.nr.1).trans ((heap_alloc_old wr _ hrl).trans HX.out.1.rr)⟩
      have HB9 : Hid (V9.heap[B]? = wr.heap[B]?) := Lib.hid (by
        obtain ⟨cs, q1, q2⟩ := HX.out.1.rb
        exact (h9 B HX.out.1.nb.1).trans (heap_alloc_old wr _ (gl q1)))
      clear hV9 h9 c2' f2' c2 c3 p1 p2 p3 p6 hbt hrl
      obtain ⟨q1, q2, _⟩ := HX.out.2.2
      have hop := q2.op
      simp only at hop
      obtain ⟨fn, hf1, hcf, hfc⟩ := deed_do q2 HX.out.1.sl (by rw [← HN.out]; exact hN1) (by rw [← HN.out]; exact hpc) HX.out.1.si
      have hdeed := hfc w V9 t g sv hT9
      clear hfc hT9 q1 q2
      simp only at hf1 hdeed
      obtain ⟨on, rfl⟩ : ∃ on : Nat, xo = on := ⟨xo.toNat, by omega⟩
      rw [Int.toNat_natCast] at hf1
      have hon : on < 10 := by omega
      (try simp only [Act.put, sA, sB, sC])
      refine t1 0 30 (.pointer (some ⟨wr.heap.size, 0, none⟩)) hS9 ?_
      (try simp only [Act.put, sA, sB, sC])
      refine t2 1 31 (.int .i64 (on : Int)) (fun w' hw' => ?_) hS9 ?_
      · have hc0 := cell_of_row w' _ 0 _ _ _ hw'.1; clear hw'; go_simp
      (try simp only [Act.put, sA, sB, sC])
      refine t2 2 32 (.pointer (some ⟨r, on, none⟩)) (fun w' hw' => ?_) hS9 ?_
      · clear hw'; go_simp; (intro h10; omega)
      (try simp only [Act.put, sA, sB, sC])
      refine t2 3 33 (.func (.func fn) #[] #[]) (fun w' hw' => ?_) hS9 ?_
      · have hc0 : w'.cell? ⟨r, on, none⟩ = some (.func (.func fn) #[] #[]) := by
          unfold World.cell?
          rw [hw'.2]
          simpa using hf1
        clear hw'; go_simp
      (try simp only [Act.put, sA, sB, sC])
      refine t2 4 34 (.agg #[.int .i64 (on : Int), .int .i64 xn, .int .i64 xk]) (fun w' hw' => ?_) hS9 ?_
      · exact exec_load_mid 56 _ rfl wr.heap.size 0 rfl _ _ (row_range hw'.1) Tryz.underlying56 rfl (by kernel_rfl)
      (try simp only [Act.put, sA, sB, sC])
      refine wpL_call (i := 5) (d := 35) (R := fun v w' => v = .tuple #[] ∧ Hid (LpX w t g r B c (some ⟨b1, o1, none⟩) bc R (n + 1) w') ∧ w'.heap[wr.heap.size]? = some (.cells #[.int .i64 (on : Int), .int .i64 xn, .int .i64 xk] 56 (0, 0)) ∧ w'.heap[r]? = some (.cells deedsV.toArray 85 (0, 0))) (by kernel_rfl) rfl rfl (by kernel_rfl) (by go_simp) (hdeed.mono fun e w' he => ?_) (fun v w' hR => hR.2.2) (fun v w' hR => ?_)
      · obtain ⟨rfl, sv', hT', hF'⟩ := he
        exact ⟨_, rfl, rfl, Lib.hid ⟨_, _, _, _, _, HX.out.1.next HH.out.2.2.2.1 HH.out.2.2.1 HX.out.2.2.1 HX.out.2.2.2.1 HX.out.2.2.2.2 hF' hS9.2 HB9.out hT'⟩, (hF'.lt (gl hS9.1) HPB.out.1 HPB.out.2.1 HPB.out.2.2).1.trans hS9.1, (hF'.lt (gl hS9.2) HX.out.1.nr.1 HX.out.1.nr.2.1 HX.out.1.nr.2.2).1.trans hS9.2⟩
      obtain ⟨rfl, hL, _⟩ := hR
      (try simp only [Act.put, sA, sB, sC])
      refine wpL_done (by kernel_rfl) ?_ _
      have hn2 : n + 1 ≤ N := by omega
      clear hdeed hS9 HX HB9 hf1 hcf HPB
      go_wp2
      exact ⟨⟨n + 1, hn2, by go_num, hL⟩, by simp [intOf]; omega⟩
end Go.Proofs.YthcejnfnamhpfaaGreat
