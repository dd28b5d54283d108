/- Package code: canRun's beginning. -/
import Derived.Test.YtlppifnepckpiaaCfP
import Derived.Test.YtlppifnepckpiaaCfM
namespace Go.Proofs.Ytlppifnepckpiaa
open Go.RowKit Go.Maps Go.WideMaps
open Cd (Kn)

theorem row_range {w : World} {b : Nat} {a : Array Value} {T : TypeId} (h : w.heap[b]? = some (.cells a T (0, 0))) : w.rangeAt b 0 a.toList := fun j v hv => by
  unfold World.cell?
  rw [h]
  simpa using hv
/-- the walker's block before anything is in it -/
def zeroW : Array Value := #[.slice none 0 0, .int .i64 0, .int .i64 0, .int .i64 0, .int .i64 0, .slice none 0 0, .slice none 0 0, .int .i64 0] ++ ((rowC none).toArray ++ #[.slice none 0 0])

theorem hold_stR {P : Program} {ops : Array Oper} {rest : List Oper} {d : Option Tmp} {p v : Operand} {ty : TypeId} {s : String} {af : Array Edge} {g : Option (Nat × Bool)} {a : Act} {w : World} {Q : Exit → Act → World → Prop}
    (hK : Hid (wpList P ops Q ({ dst := d, op := Op.store 65 p v, type := ty, pos := s, after := af, guard := g } :: rest) a w)) :
    wpList P ops Q ({ dst := d, op := Op.store 65 p v, type := ty, pos := s, after := af, guard := g } :: rest) a w := hK
theorem setRow_at {w : World} {g : Nat} {cs old : Array Value} {t : TypeId} (h : w.heap[g]? = some (.cells old t (0, 0))) : (w.setRow g cs).heap[g]? = some (.cells cs t (0, 0)) := by simp [World.setRow, Array.getElem?_modify, h]
/-- what canRun's loop keeps -/
def LpR (w : World) (b g : Nat) (cs : Array Value) (r : Nat) (c : Cd.Code) (N : Nat) (D : Bool) (t : Nat) (wr : World) : Prop := ∃ (a : Nat) (s : Option (List Int)) (qs : Kn), Wk w wr b g cs a s qs ∧ qs.length = N ∧ Cd.Sks c qs ∧ wr.heap[r]? = some (.cells rulesV.toArray 65 (0, 0)) ∧ Cd.go c (c.body.drop t) (qs.drop t) = D
theorem zeroW_size : zeroW.size = 75 := by simp [zeroW, rowC_len]
theorem wk0_size {cs : Array Value} (h : cs.size = 7) (g n : Nat) : (wk0 cs g n).size = 75 := by simp [wk0, h, rowC_len]
theorem wk0_one {cs : Array Value} (h : cs.all (·.oneCell') = true) (g n : Nat) : (wk0 cs g n).all (·.oneCell') = true := by
  have := row_one none
  simp only [wk0, Array.all_append, h, this, Bool.true_and]
  simp [Value.oneCell']

set_option maxHeartbeats 4000000 in
set_option maxRecDepth 100000 in
theorem canRun_any (w : World) (c : Cd.Code) (ka : Option Addr) (kc : Nat) (ia : Option Addr) (ic : Nat) (ba : Option Addr) (bc : Nat) (hc : CodeAt w c ka ia ba) (hN1 : c.body.length ≤ 60000) (hN0 : 0 < c.body.length) (hs0 : 0 ≤ c.stack) (hs64 : c.stack ≤ 64) (hi0 : 0 ≤ c.ins) (hkk : ∀ k ∈ c.kinds, 1 ≤ k ∧ k ≤ 9) (hops : ∀ x ∈ c.body, 1 ≤ x.op ∧ x.op ≤ 9) :
    Calls Try.prog 17 #[.agg (codeV c ka kc ia ic ba bc)] w fun e w' => e = .returned (.bool (Cd.go c c.body (some [] :: Cd.nots (c.body.length - 1)))) ∧ w.grownBy w' none := by
  have HH := Lib.hid (And.intro hc (And.intro hN0 (And.intro hs0 (And.intro hs64 (And.intro hi0 (And.intro hkk hops))))))
  obtain ⟨N, hN⟩ : ∃ N, N = c.body.length := ⟨_, rfl⟩
  obtain ⟨D, hD⟩ : ∃ D : Bool, D = Cd.go c c.body (some [] :: Cd.nots (c.body.length - 1)) := ⟨_, rfl⟩
  rw [← hD]
  have HD := Lib.hid hD
  obtain ⟨cs, hcs⟩ : ∃ cs, cs = codeV c ka kc ia ic ba bc := ⟨_, rfl⟩
  have hbox := heap_alloc_new w (.cells (codeV c ka kc ia ic ba bc) 30)
  have hgb := World.grownBy_alloc w (.cells (codeV c ka kc ia ic ba bc) 30) none
  have hmk := fun V => mk_stacks N (by omega) V
  have HN := Lib.hid hN
  rw [← hN] at hN1 hN0
  clear hc hD hs0 hs64 hi0 hkk hops
  have HB := Lib.hid (And.intro hbox hgb)
  clear hbox hgb
  have hS0 : (w.alloc (.cells (codeV c ka kc ia ic ba bc) 30)).drew.heap[w.heap.size]? = some (.cells (codeV c ka kc ia ic ba bc) 30 (0, 0)) := HB.out.1
  unfold codeV at hS0 HB
  unfold codeV
  rw [← hN] at hS0 HB ⊢
  clear hN
  go_enter Try.func17, Try.ntmps17
  go_wp2
  obtain ⟨W0, hW0⟩ : ∃ W0, W0 = (w.alloc (.cells #[.slice ka c.kinds.length kc, .int .i64 c.ins, .int .i64 c.outs, .int .i64 c.cells, .int .i64 c.stack, .slice ia c.init.length ic, .slice ba N bc] 30)).drew := ⟨_, rfl⟩
  have hg0 : w.grownBy W0 none := by rw [hW0]; exact ⟨HB.out.2.os, HB.out.2.tape, HB.out.2.output, HB.out.2.size, HB.out.2.block⟩
  refine wp_region_L (S := fun V => V.heap[w.heap.size]? = some (.cells #[.slice ka c.kinds.length kc, .int .i64 c.ins, .int .i64 c.outs, .int .i64 c.cells, .int .i64 c.stack, .slice ia c.init.length ic, .slice ba N bc] 30 (0, 0))) (Z := []) (by kernel_rfl) ?_
  rw [← hW0] at hS0 ⊢
  have HG0 := Lib.hid hg0
  clear hW0 hg0
  refine t2 0 7 (.agg #[.slice ka c.kinds.length kc, .int .i64 c.ins, .int .i64 c.outs, .int .i64 c.cells, .int .i64 c.stack, .slice ia c.init.length ic, .slice ba N bc]) (fun w' hw' => ?_) hS0 ?_
  · exact exec_load_mid 30 _ rfl w.heap.size 0 rfl _ _ (row_range hw') Try.underlying30 rfl (by kernel_rfl)
  (try simp only [Act.put, sA, sB, sC])
  refine t1 1 8 (.pointer (some ⟨w.heap.size, 6, none⟩)) hS0 ?_
  (try simp only [Act.put, sA, sB, sC])
  refine t2 2 9 (.slice ba N bc) (fun w' hw' => ?_) hS0 ?_
  · have hc0 := cell_of_row w' _ 6 _ _ _ hw'; clear hw'; go_simp
  (try simp only [Act.put, sA, sB, sC])
  refine t2 3 10 (.int .i64 (N : Int)) (fun w' hw' => ?_) hS0 ?_
  · clear hw'; go_simp
  (try simp only [Act.put, sA, sB, sC])
  have hsz := gl hS0
  refine wpL_both (i := 4) (j := 6) (by kernel_rfl) ?_ ?_
  · refine wpOp_val (v := .slice (some ⟨W0.heap.size, 0, none⟩) N N) (w' := W0.alloc (.cells (madeCells (rowC none).toArray (N * 66)) 61)) rfl rfl (by kernel_rfl) ?_ ?_
    · have := hmk W0
      go_simp
    obtain ⟨W1, hW1⟩ : ∃ W1, W1 = W0.alloc (.cells (madeCells (rowC none).toArray (N * 66)) 61) := ⟨_, rfl⟩
    have hS1 : W1.heap[w.heap.size]? = some (.cells #[.slice ka c.kinds.length kc, .int .i64 c.ins, .int .i64 c.outs, .int .i64 c.cells, .int .i64 c.stack, .slice ia c.init.length ic, .slice ba N bc] 30 (0, 0)) := by rw [hW1]; exact heap_alloc_old _ _ hsz |>.trans hS0
    have hgr1 : W1.heap[W0.heap.size]? = some (.cells (madeCells (rowC none).toArray (N * 66)) 61 (0, 0)) := by rw [hW1]; exact heap_alloc_new W0 _
    have hz1 : W1.heap.size = W0.heap.size + 1 := by rw [hW1, World.size_alloc]
    have hgw1 : w.grownBy W1 none := by rw [hW1]; exact HG0.out.trans (World.grownBy_alloc W0 _ none)
    rw [← hW1]
    clear hW1
    refine ⟨fun _ => hS1, ?_⟩
    (try simp only [Act.put, sA, sB, sC])
    refine t2 5 12 (.agg (wk0 #[.slice ka c.kinds.length kc, .int .i64 c.ins, .int .i64 c.outs, .int .i64 c.cells, .int .i64 c.stack, .slice ia c.init.length ic, .slice ba N bc] W0.heap.size N)) (fun w' hw' => ?_) hS1 ?_
    · kernel_rfl
    (try simp only [Act.put, sA, sB, sC])
    obtain ⟨W2, hW2⟩ : ∃ W2, W2 = W1.alloc (.cells zeroW 63) := ⟨_, rfl⟩
    have hS2 : W2.heap[w.heap.size]? = some (.cells #[.slice ka c.kinds.length kc, .int .i64 c.ins, .int .i64 c.outs, .int .i64 c.cells, .int .i64 c.stack, .slice ia c.init.length ic, .slice ba N bc] 30 (0, 0)) := by rw [hW2]; exact heap_alloc_old _ _ (gl hS1) |>.trans hS1
    have hgr2 : W2.heap[W0.heap.size]? = some (.cells (madeCells (rowC none).toArray (N * 66)) 61 (0, 0)) := by rw [hW2]; exact heap_alloc_old _ _ (gl hgr1) |>.trans hgr1
    have hbr2 : W2.heap[W1.heap.size]? = some (.cells zeroW 63 (0, 0)) := by rw [hW2]; exact heap_alloc_new W1 _
    have hgw2 : w.grownBy W2 none := by rw [hW2]; exact hgw1.trans (World.grownBy_alloc W1 _ none)
    refine wpL_val (i := 6) (d := 3) (v := .pointer (some ⟨W1.heap.size, 0, none⟩)) (w' := W2) (by kernel_rfl) rfl rfl (by kernel_rfl) (by rw [hW2]; kernel_rfl) hS2 ?_
    (try simp only [Act.put, sA, sB, sC])
    clear hW2
    obtain ⟨g, hg⟩ : ∃ g, g = W0.heap.size := ⟨_, rfl⟩
    obtain ⟨b, hb⟩ : ∃ b, b = W1.heap.size := ⟨_, rfl⟩
    have hgl : w.heap.size < g := by omega
    have hbl : w.heap.size < b := by omega
    have hne : b ≠ g := by omega
    rw [← hb] at hbr2 ⊢
    rw [← hg] at hgr2 ⊢
    clear hb hg hz1 hgr1 hS1 hgw1
    refine wpL_store (i := 7) b (wk0 #[.slice ka c.kinds.length kc, .int .i64 c.ins, .int .i64 c.outs, .int .i64 c.cells, .int .i64 c.stack, .slice ia c.init.length ic, .slice ba N bc] g N) zeroW 63 63 (.tmp 3) (.tmp 12) (by kernel_rfl) rfl (by kernel_rfl) rfl rfl rfl rfl hbr2 (by rw [wk0_size rfl]; kernel_rfl) (by rw [wk0_size rfl, zeroW_size]) (wk0_one (by kernel_rfl) g N) (fun V hbV hgV2 => ⟨?_, ?_⟩)
    · exact (hgV2.block _ (gl hS2) (by simp; omega)).trans hS2
    refine wpL_done (by kernel_rfl) ?_ _
    have hgV : V.heap[g]? = some (.cells (madeCells (rowC none).toArray (N * 66)) 61 (0, 0)) := (hgV2.block _ (gl hgr2) (by simp; omega)).trans hgr2
    have hSV : V.heap[w.heap.size]? = some (.cells #[.slice ka c.kinds.length kc, .int .i64 c.ins, .int .i64 c.outs, .int .i64 c.cells, .int .i64 c.stack, .slice ia c.init.length ic, .slice ba N bc] 30 (0, 0)) := (hgV2.block _ (gl hS2) (by simp; omega)).trans hS2
    have hgw : w.grownBy V none := Kp.grown hgw2 (Kp.of hgV2 [b] (fun k e _ => by cases e; simp)) (fun k hk => by simp at hk; omega)
    have HWK := Lib.hid (And.intro (wk0_new (W := w) (cs := #[.slice ka c.kinds.length kc, .int .i64 c.ins, .int .i64 c.outs, .int .i64 c.cells, .int .i64 c.stack, .slice ia c.init.length ic, .slice ba N bc]) hN0 hgw (by omega) (by omega) hne rfl hbV hgV) (And.intro hgw hSV))
    have q74 : V.cell? ⟨b, 74, none⟩ = some (.slice (some ⟨g, 0, none⟩) N N) := by
      have := (wk0_new (W := w) (cs := #[.slice ka c.kinds.length kc, .int .i64 c.ins, .int .i64 c.outs, .int .i64 c.cells, .int .i64 c.stack, .slice ia c.init.length ic, .slice ba N bc]) hN0 hgw (by omega) (by omega) hne rfl hbV hgV).ways
      rw [World.cell?_setCell_far _ _ _ _ (fun e => hne e.symm)] at this
      have e : (some [] :: Cd.nots (N - 1) : Kn).length = N := by simp [Cd.nots]; omega
      rw [e] at this
      exact this
    have q0 : V.cell? ⟨g, 0, none⟩ = some (.bool false) := by
      have := made_rows N 0 0 hN0 (by omega)
      unfold World.cell?
      rw [hgV]
      have e : (rowC none)[0]? = some (.bool false) := rfl
      rw [e] at this
      simpa using this
    have qf : V.frozen? ⟨g, 0, none⟩ = false := by simp [World.frozen?, hgV]
    clear hbV hgV hSV hgw hgV2 hS2 hbr2 hgr2 hgw2 hS0 hsz hmk
    go_wp2_with (first | (go_at_call 24; refine (rulesOf_any _).mono ?_; rintro e W3 ⟨rfl, hg3⟩; have HG3 := Lib.hid hg3; clear hg3) | (with_reducible refine hold_stR ?_))
    refine Lib.hid ?_
    refine wpList_plain rfl fun K' hK' => wp_store_row 65 _ _ rfl W3.heap.size rulesV.toArray rfl rfl _ _ (heap_alloc_new W3 _) (by kernel_rfl) rfl (by kernel_rfl) (hK' _ _ ?_)
    have hrr := setRow_at (cs := rulesV.toArray) (heap_alloc_new W3 (.cells #[.nilFunc, .nilFunc, .nilFunc, .nilFunc, .nilFunc, .nilFunc, .nilFunc, .nilFunc, .nilFunc, .nilFunc] 65))
    have hkr : Kp [W3.heap.size] W3 ((W3.alloc (.cells #[.nilFunc, .nilFunc, .nilFunc, .nilFunc, .nilFunc, .nilFunc, .nilFunc, .nilFunc, .nilFunc, .nilFunc] 65)).setRow W3.heap.size rulesV.toArray) := (Kp.of0 (World.grownBy_alloc W3 _ none) _).trans (Kp.of (grown_setRow _ _ _) _ (fun k e _ => by cases e; simp))
    have hg4 := Kp.grown HG3.out (hkr.mono (fun k hk _ => hk)) (fun k hk => by simp at hk; rw [hk]; exact HG3.out.size)
    generalize (W3.alloc (.cells #[.nilFunc, .nilFunc, .nilFunc, .nilFunc, .nilFunc, .nilFunc, .nilFunc, .nilFunc, .nilFunc, .nilFunc] 65)).setRow W3.heap.size rulesV.toArray = W4 at hrr hg4 ⊢
    obtain ⟨r, hr⟩ : ∃ r, r = W3.heap.size := ⟨_, rfl⟩
    rw [← hr] at hrr ⊢
    have hrb : r ≠ b ∧ r ≠ g ∧ w.heap.size ≤ r := by
      have h1 := HWK.out.1.bl
      have h2 := HWK.out.1.gl (by simp)
      have h3 := HG3.out.size
      have h4 := HWK.out.2.1.size
      have h5 : (V.setCell ⟨g, 0, none⟩ (.bool true)).heap.size = V.heap.size := by simp [World.setCell]
      omega
    have hlen : (some [] :: Cd.nots (N - 1) : Kn).length = N := by simp [Cd.nots]; omega
    have HL : Hid (Wk w W4 b g #[.slice ka c.kinds.length kc, .int .i64 c.ins, .int .i64 c.outs, .int .i64 c.cells, .int .i64 c.stack, .slice ia c.init.length ic, .slice ba N bc] 0 none (some [] :: Cd.nots (N - 1)) ∧ W4.heap[r]? = some (.cells rulesV.toArray 65 (0, 0)) ∧ W4.cell? ⟨w.heap.size, 6, none⟩ = some (.slice ba N bc)) := Lib.hid ⟨HWK.out.1.on (by simp) hg4, hrr, by
      have h1 := cell_of_row V _ 6 _ _ _ HWK.out.2.2
      have h2 : (V.setCell ⟨g, 0, none⟩ (.bool true)).cell? ⟨w.heap.size, 6, none⟩ = some (.slice ba N bc) := by
        rw [World.cell?_setCell_far _ _ _ _ (by simp; omega)]
        exact h1
      exact hg4.cell h2 (by simp)⟩
    have k6 := HL.out.2.2
    clear hr hg4 hkr hrr HG3 HWK q74 q0 qf hlen HB HG0 hcs cs
    go_wp2
    obtain ⟨cs, hcs⟩ : ∃ cs : Array Value, cs = #[.slice ka c.kinds.length kc, .int .i64 c.ins, .int .i64 c.outs, .int .i64 c.cells, .int .i64 c.stack, .slice ia c.init.length ic, .slice ba N bc] := ⟨_, rfl⟩
    have HCO : Hid (Co cs c ∧ ∃ ka kc, cs[0]? = some (.slice ka c.kinds.length kc) ∧ NumsAt w ka c.kinds) := Lib.hid ⟨by rw [hcs]; exact ⟨⟨_, _, rfl⟩, rfl, rfl⟩, by rw [hcs]; exact ⟨_, _, rfl, HH.out.1.kinds⟩⟩
    rw [← hcs] at HL ⊢
    clear hcs
    generalize Value.agg (wk0 cs g N) = X12
    have HL0 : Hid (LpR w b g cs r c N D 0 W4) := Lib.hid ⟨0, none, _, HL.out.1, by simp [Cd.nots]; omega, fun l hl => by
      simp [Cd.nots] at hl
      subst hl
      exact ⟨by simpa using HH.out.2.2.1, by simp⟩, HL.out.2.1, by rw [HD.out, List.drop_zero, List.drop_zero, HN.out]⟩
    clear HL k6 hbl hgl
    go_loopw [21] (fun iv wr => ∃ t : Nat, t ≤ N ∧ iv = .int .i64 (t : Int) ∧ Hid (LpR w b g cs r c N D t wr)) (fun i _ => N - (intOf i).toNat)
    case atStart => exact ⟨0, Nat.zero_le _, rfl, HL0⟩
    case round =>
      obtain ⟨t, ht, rfl, HT⟩ := hrel
      by_cases hlt : t < N
      · obtain ⟨x, hx⟩ : ∃ x, c.body[t]? = some x := ⟨_, List.getElem?_eq_getElem (by rw [← HN.out]; exact hlt)⟩
        obtain ⟨b1, o1, rfl, hc1, hc2, hc3⟩ := HH.out.1.body t x hx
        obtain ⟨a0, s0, qs, hwk, hql, hsks, hrules, hgo⟩ := HT.out
        have p1 := hwk.grown.cell hc1 (by simp)
        have p2 := hwk.grown.cell hc2 (by simp)
        have p3 := hwk.grown.cell hc3 (by simp)
        have hx9 := HH.out.2.2.2.2.2.2 x (List.mem_iff_getElem?.2 ⟨_, hx⟩)
        obtain ⟨q, hqt⟩ : ∃ q, qs[t]? = some q := ⟨_, List.getElem?_eq_getElem (by rw [hql]; exact hlt)⟩
        obtain ⟨xo, xn, xk⟩ := x
        simp only at p1 p2 p3 hx9
        have hwk1 := hwk.on (by rw [hql]; exact hN0) (World.grownBy_alloc wr (.cells #[.int .i64 xo, .int .i64 xn, .int .i64 xk] 41) none)
        have y74 := hwk1.ways
        rw [hql] at y74
        have yq := (row_parts.1 (hwk1.rows t q hqt)).1
        have hru1 := row_alloc hrules (.cells #[.int .i64 xo, .int .i64 xn, .int .i64 xk] 41)
        have HX := Lib.hid (And.intro hx (And.intro hqt (And.intro hql (And.intro hsks (And.intro hgo (And.intro hx9 (And.intro hwk1 hru1)))))))
        have hbox1 := heap_alloc_new wr (.cells #[.int .i64 xo, .int .i64 xn, .int .i64 xk] 41)
        have hpn : wr.heap.size ≠ b ∧ wr.heap.size ≠ g ∧ wr.heap.size ≠ r := by
          have h1 := hwk.bl
          have h2 := hwk.gl (by rw [hql]; exact hN0)
          have h3 := gl hrules
          omega
        have HPB := Lib.hid (And.intro hbox1 hpn)
        clear hx hc1 hc2 hc3 hqt hql hsks hgo hx9 hwk1 hru1 hwk hrules hbox1 hpn
        cases q with
        | none =>
          simp only [Option.isSome_none] at yq
          go_wp2
          refine ⟨⟨t + 1, by omega, by go_num, Lib.hid ⟨a0, s0, qs, HX.out.2.2.2.2.2.2.1, HX.out.2.2.1, HX.out.2.2.2.1, HX.out.2.2.2.2.2.2.2, ?_⟩⟩, by simp [intOf]; omega⟩
          rw [← Cd.go_skip HX.out.1 HX.out.2.1]
          exact HX.out.2.2.2.2.1
        | some l =>
          simp only [Option.isSome_some] at yq
          have y7 := HX.out.2.2.2.2.2.2.1.place
          have f7 := HX.out.2.2.2.2.2.2.1.fr (o := 7) (by omega)
          go_wp2_with (with_reducible refine hold_ldS ?_)
          refine Lib.hid ?_
          refine wpList_load_mid rfl 61 _ rfl g (t * 66) rfl (rowC (some l)) _ (HX.out.2.2.2.2.2.2.1.rows t _ HX.out.2.1) Try.underlying61 rfl (by rw [rowC_len]; kernel_rfl) ?_
          go_wp2_with (with_reducible refine hold_stS ?_)
          refine Lib.hid ?_
          refine wpList_store_mid rfl 61 _ _ rfl b 8 (rowC (some l)).toArray rfl rfl (by
            rw [List.size_toArray, rowC_len]
            exact fun j hj => by
              have := there_set HX.out.2.2.2.2.2.2.1.tb ⟨b, 7, none⟩ (.int .i64 (t : Int)) (8 + j) (by omega)
              rwa [Nat.zero_add] at this) (by rw [List.size_toArray, rowC_len]; kernel_rfl) (row_one _) ?_
          rw [List.toList_toArray]
          have HQ := Lib.hid (Wk.come (t := t) (l := l) HX.out.2.2.2.2.2.2.1)
          generalize ((wr.alloc (.cells #[.int .i64 xo, .int .i64 xn, .int .i64 xk] 41)).setCell ⟨b, 7, none⟩ (.int .i64 (t : Int))).setCells b 8 (rowC (some l)) = W9 at HQ ⊢
          have hS9 : W9.drew.heap[wr.heap.size]? = some (.cells #[.int .i64 xo, .int .i64 xn, .int .i64 xk] 41 (0, 0)) ∧ W9.drew.heap[r]? = some (.cells rulesV.toArray 65 (0, 0)) := ⟨(HQ.out.2.block _ (gl HPB.out.1) (by simp; exact ⟨HPB.out.2.1, HPB.out.2.2.1⟩)).trans HPB.out.1, (HQ.out.2.block _ (gl HX.out.2.2.2.2.2.2.2) (by simp; exact ⟨hrb.1, hrb.2.1⟩)).trans HX.out.2.2.2.2.2.2.2⟩
          have hWK9 := HQ.out.1.drew
          clear y74 yq y7 f7 p1 p2 p3 HQ
          go_wp2
          refine wp_region_L (S := fun V => V.heap[wr.heap.size]? = some (.cells #[.int .i64 xo, .int .i64 xn, .int .i64 xk] 41 (0, 0)) ∧ V.heap[r]? = some (.cells rulesV.toArray 65 (0, 0))) (Z := []) (by kernel_rfl) ?_
          generalize W9.drew = W9 at hS9 hWK9 ⊢
          refine t2 0 41 (.agg #[.int .i64 xo, .int .i64 xn, .int .i64 xk]) (fun w' hw' => ?_) hS9 ?_
          · exact exec_load_mid 41 _ rfl wr.heap.size 0 rfl _ _ (row_range hw'.1) Try.underlying41 rfl (by kernel_rfl)
          (try simp only [Act.put, sA, sB, sC])
          have hact := Cd.go_act (c := c) HX.out.1 HX.out.2.1
          have hskl : Cd.Sk c l := HX.out.2.2.2.1 l (List.mem_iff_getElem?.2 ⟨_, HX.out.2.1⟩)
          rw [Cd.act_rule c ⟨xo, xn, xk⟩ l t qs HX.out.2.2.2.2.2.1.1 HX.out.2.2.2.2.2.1.2 HH.out.2.2.2.2.1 hskl, HX.out.2.2.2.2.1] at hact
          cases hbr : Cd.bare ⟨xo, xn, xk⟩ with
          | false =>
            rw [hbr] at hact
            simp only [Bool.false_eq_true, if_false] at hact
            refine wpL_call (i := 1) (d := 42) (R := fun v w' => v = .bool false ∧ W9.grownBy w' none) (by kernel_rfl) rfl rfl (by kernel_rfl) (by kernel_rfl) ((bare_any W9 xo xn xk).mono fun e w' he => ⟨_, he.1, by rw [hbr], he.2⟩) (fun v w' hR => ⟨(hR.2.block _ (gl hS9.1) (by simp)).trans hS9.1, (hR.2.block _ (gl hS9.2) (by simp)).trans hS9.2⟩) (fun v w' hR => ?_)
            obtain ⟨rfl, hgB⟩ := hR
            have hSB : w'.heap[wr.heap.size]? = some (.cells #[.int .i64 xo, .int .i64 xn, .int .i64 xk] 41 (0, 0)) ∧ w'.heap[r]? = some (.cells rulesV.toArray 65 (0, 0)) := ⟨(hgB.block _ (gl hS9.1) (by simp)).trans hS9.1, (hgB.block _ (gl hS9.2) (by simp)).trans hS9.2⟩
            (try simp only [Act.put, sA, sB, sC])
            refine t1 2 43 (.bool true) hSB ?_
            (try simp only [Act.put, sA, sB, sC])
            refine t1 3 44 (.bool true) hSB ?_
            (try simp only [Act.put, sA, sB, sC])
            refine t3 4 45 hSB ?_
            (try simp only [Act.put, sA, sB, sC])
            refine t3 5 46 hSB ?_
            (try simp only [Act.put, sA, sB, sC])
            refine t3 6 47 hSB ?_
            (try simp only [Act.put, sA, sB, sC])
            refine t3 7 48 hSB ?_
            (try simp only [Act.put, sA, sB, sC])
            refine t3 8 49 hSB ?_
            (try simp only [Act.put, sA, sB, sC])
            refine t3 9 50 hSB ?_
            (try simp only [Act.put, sA, sB, sC])
            refine t3 10 51 hSB ?_
            (try simp only [Act.put, sA, sB, sC])
            refine t1 11 52 (.bool true) hSB ?_
            (try simp only [Act.put, sA, sB, sC])
            refine wpL_done (by kernel_rfl) ?_ _
            have HF := Lib.hid (And.intro hact (hWK9.grown.trans hgB))
            clear hact hgB hWK9 hSB hS9
            go_wp2
            go_ret
            exact ⟨(by rw [HF.out.1]; rfl), HF.out.2⟩
          | true =>
            rw [hbr] at hact
            simp only [if_true] at hact
            refine wpL_call (i := 1) (d := 42) (R := fun v w' => v = .bool true ∧ W9.grownBy w' none) (by kernel_rfl) rfl rfl (by kernel_rfl) (by kernel_rfl) ((bare_any W9 xo xn xk).mono fun e w' he => ⟨_, he.1, by rw [hbr], he.2⟩) (fun v w' hR => ⟨(hR.2.block _ (gl hS9.1) (by simp)).trans hS9.1, (hR.2.block _ (gl hS9.2) (by simp)).trans hS9.2⟩) (fun v W10 hR => ?_)
            obtain ⟨rfl, hgB⟩ := hR
            have hSB : W10.heap[wr.heap.size]? = some (.cells #[.int .i64 xo, .int .i64 xn, .int .i64 xk] 41 (0, 0)) ∧ W10.heap[r]? = some (.cells rulesV.toArray 65 (0, 0)) := ⟨(hgB.block _ (gl hS9.1) (by simp)).trans hS9.1, (hgB.block _ (gl hS9.2) (by simp)).trans hS9.2⟩
            have hWKB := hWK9.on (by rw [HX.out.2.2.1]; exact hN0) hgB
            have hAt : At w W10 b g cs t c l qs := ⟨HCO.out.1, hWKB, hskl, HH.out.2.2.2.1, fun m hm => by have := (HX.out.2.2.2.1 m hm).1; have := HH.out.2.2.2.1; omega, by rw [HX.out.2.2.1]; exact hN1, by rw [HX.out.2.2.1]; exact hlt, HCO.out.2, HH.out.2.2.2.2.2.1⟩
            obtain ⟨f, hf1, hcf, hfc⟩ := rule_any w b g cs t c l qs xo xn xk HX.out.2.2.2.2.2.1.1 HX.out.2.2.2.2.2.1.2
            have hrule := hfc W10 hAt
            have hx19 := HX.out.2.2.2.2.2.1
            have HG10 := Lib.hid hWKB.grown
            have HBG := Lib.hid (And.intro hWKB.hb hWKB.hg)
            clear hfc hAt hWKB hS9 hgB hWK9
            obtain ⟨on, rfl⟩ : ∃ on : Nat, xo = on := ⟨xo.toNat, by omega⟩
            rw [Int.toNat_natCast] at hf1
            have hon : on < 10 := by omega
            (try simp only [Act.put, sA, sB, sC])
            refine t1 2 43 (.bool false) hSB ?_
            (try simp only [Act.put, sA, sB, sC])
            refine t1 3 44 (.bool false) hSB ?_
            (try simp only [Act.put, sA, sB, sC])
            refine t1 4 45 (.pointer (some ⟨wr.heap.size, 0, none⟩)) hSB ?_
            (try simp only [Act.put, sA, sB, sC])
            refine t2 5 46 (.int .i64 (on : Int)) (fun w' hw' => ?_) hSB ?_
            · have hc0 := cell_of_row w' _ 0 _ _ _ hw'.1; clear hw'; go_simp
            (try simp only [Act.put, sA, sB, sC])
            refine t2 6 47 (.pointer (some ⟨r, on, none⟩)) (fun w' hw' => ?_) hSB ?_
            · clear hw'; go_simp; (intro h10; omega)
            (try simp only [Act.put, sA, sB, sC])
            refine t2 7 48 (.func (.func f) #[] #[]) (fun w' hw' => ?_) hSB ?_
            · have hc0 : w'.cell? ⟨r, on, none⟩ = some (.func (.func f) #[] #[]) := by
                unfold World.cell?
                rw [hw'.2]
                simpa using hf1
              clear hw'; go_simp
            (try simp only [Act.put, sA, sB, sC])
            refine t2 8 49 (.agg #[.int .i64 (on : Int), .int .i64 xn, .int .i64 xk]) (fun w' hw' => ?_) hSB ?_
            · exact exec_load_mid 41 _ rfl wr.heap.size 0 rfl _ _ (row_range hw'.1) Try.underlying41 rfl (by kernel_rfl)
            (try simp only [Act.put, sA, sB, sC])
            refine wpL_call (i := 9) (d := 50) (R := fun v w' => v = .bool (Cd.rule c ⟨on, xn, xk⟩ l t qs).isSome ∧ RuP w W10 b g cs t (Cd.rule c ⟨on, xn, xk⟩ l t qs) (.returned v) w') (by kernel_rfl) rfl rfl (by kernel_rfl) (by go_simp) (hrule.mono fun e w' he => ⟨_, he.1, rfl, by rw [← he.1]; exact he⟩) (fun v w' hR => ⟨(hR.2.2.1.block _ (gl hSB.1) (by simp; exact ⟨HPB.out.2.1, HPB.out.2.2.1⟩)).trans hSB.1, (hR.2.2.1.block _ (gl hSB.2) (by simp; exact ⟨hrb.1, hrb.2.1⟩)).trans hSB.2⟩) (fun v W11 hR => ?_)
            obtain ⟨rfl, hRu⟩ := hR
            have hSC : W11.heap[wr.heap.size]? = some (.cells #[.int .i64 (on : Int), .int .i64 xn, .int .i64 xk] 41 (0, 0)) ∧ W11.heap[r]? = some (.cells rulesV.toArray 65 (0, 0)) := ⟨(hRu.2.1.block _ (gl hSB.1) (by simp; exact ⟨HPB.out.2.1, HPB.out.2.2.1⟩)).trans hSB.1, (hRu.2.1.block _ (gl hSB.2) (by simp; exact ⟨hrb.1, hrb.2.1⟩)).trans hSB.2⟩
            cases hR : Cd.rule c ⟨on, xn, xk⟩ l t qs with
            | none =>
              rw [hR] at hact hRu
              simp only [Option.isSome_none] at hRu ⊢
              (try simp only [Act.put, sA, sB, sC])
              refine t1 10 51 (.bool true) hSC ?_
              (try simp only [Act.put, sA, sB, sC])
              refine t1 11 52 (.bool true) hSC ?_
              (try simp only [Act.put, sA, sB, sC])
              refine wpL_done (by kernel_rfl) ?_ _
              have HF := Lib.hid (And.intro hact (Kp.grown HG10.out hRu.2.1 (fun k hk => by simp at hk; rcases hk with rfl | rfl; exact HBG.out.1; exact HBG.out.2)))
              clear hact hRu hSB hSC hrule
              go_wp2
              go_ret
              exact ⟨(by rw [HF.out.1]; rfl), HF.out.2⟩
            | some q =>
              rw [hR] at hact hRu
              simp only [Option.isSome_some] at hRu ⊢
              (try simp only [Act.put, sA, sB, sC])
              refine t1 10 51 (.bool false) hSC ?_
              (try simp only [Act.put, sA, sB, sC])
              refine t1 11 52 (.bool false) hSC ?_
              (try simp only [Act.put, sA, sB, sC])
              refine wpL_done (by kernel_rfl) ?_ _
              obtain ⟨s', hwq⟩ := hRu.2.2 q rfl
              obtain ⟨hsq, hlq⟩ := Cd.rule_sks HH.out.2.2.2.2.2.1 hskl HX.out.2.2.2.1 hR
              have HF : Hid (LpR w b g cs r c N D (t + 1) W11) := Lib.hid ⟨t, s', q, hwq, hlq.trans HX.out.2.2.1, hsq, hSC.2, hact.symm⟩
              clear hact hRu hSB hSC hrule hwq hsq hlq
              go_wp2
              exact ⟨⟨t + 1, by omega, by go_num, HF⟩, by simp [intOf]; omega⟩
      · obtain rfl : t = N := by omega
        have HDT : Hid (D = true) := Lib.hid (by
          obtain ⟨_, _, qs, _, _, _, _, h⟩ := HT.out
          rw [← h, HN.out]
          exact Cd.go_end)
        have HGT : Hid (w.grownBy wr none) := Lib.hid (by
          obtain ⟨_, _, _, h, _⟩ := HT.out
          exact h.grown)
        go_wp2
        go_ret
        exact ⟨(by rw [HDT.out]; rfl), HGT.out⟩
  · obtain ⟨W1, hW1⟩ : ∃ W1, W1 = W0.alloc (.cells zeroW 63) := ⟨_, rfl⟩
    have hS1 : W1.heap[w.heap.size]? = some (.cells #[.slice ka c.kinds.length kc, .int .i64 c.ins, .int .i64 c.outs, .int .i64 c.cells, .int .i64 c.stack, .slice ia c.init.length ic, .slice ba N bc] 30 (0, 0)) := by rw [hW1]; exact heap_alloc_old _ _ hsz |>.trans hS0
    have hbr1 : W1.heap[W0.heap.size]? = some (.cells zeroW 63 (0, 0)) := by rw [hW1]; exact heap_alloc_new W0 _
    have hz1 : W1.heap.size = W0.heap.size + 1 := by rw [hW1, World.size_alloc]
    have hgw1 : w.grownBy W1 none := by rw [hW1]; exact HG0.out.trans (World.grownBy_alloc W0 _ none)
    refine wpOp_val (v := .pointer (some ⟨W0.heap.size, 0, none⟩)) (w' := W1) rfl rfl (by kernel_rfl) (by rw [hW1]; kernel_rfl) ?_
    clear hW1
    refine ⟨fun _ => hS1, ?_⟩
    (try simp only [Act.put, sA, sB, sC])
    obtain ⟨W2, hW2⟩ : ∃ W2, W2 = W1.alloc (.cells (madeCells (rowC none).toArray (N * 66)) 61) := ⟨_, rfl⟩
    have hS2 : W2.heap[w.heap.size]? = some (.cells #[.slice ka c.kinds.length kc, .int .i64 c.ins, .int .i64 c.outs, .int .i64 c.cells, .int .i64 c.stack, .slice ia c.init.length ic, .slice ba N bc] 30 (0, 0)) := by rw [hW2]; exact heap_alloc_old _ _ (gl hS1) |>.trans hS1
    have hbr2 : W2.heap[W0.heap.size]? = some (.cells zeroW 63 (0, 0)) := by rw [hW2]; exact heap_alloc_old _ _ (gl hbr1) |>.trans hbr1
    have hgr2 : W2.heap[W1.heap.size]? = some (.cells (madeCells (rowC none).toArray (N * 66)) 61 (0, 0)) := by rw [hW2]; exact heap_alloc_new W1 _
    have hgw2 : w.grownBy W2 none := by rw [hW2]; exact hgw1.trans (World.grownBy_alloc W1 _ none)
    refine wpL_val (i := 4) (d := 11) (v := .slice (some ⟨W1.heap.size, 0, none⟩) N N) (w' := W2) (by kernel_rfl) rfl rfl (by kernel_rfl) ?_ hS2 ?_
    · have := hmk W1
      rw [hW2]
      go_simp
    (try simp only [Act.put, sA, sB, sC])
    clear hW2
    refine t2 5 12 (.agg (wk0 #[.slice ka c.kinds.length kc, .int .i64 c.ins, .int .i64 c.outs, .int .i64 c.cells, .int .i64 c.stack, .slice ia c.init.length ic, .slice ba N bc] W1.heap.size N)) (fun w' hw' => ?_) hS2 ?_
    · kernel_rfl
    (try simp only [Act.put, sA, sB, sC])
    obtain ⟨b, hb⟩ : ∃ b, b = W0.heap.size := ⟨_, rfl⟩
    obtain ⟨g, hg⟩ : ∃ g, g = W1.heap.size := ⟨_, rfl⟩
    have hgl : w.heap.size < g := by omega
    have hbl : w.heap.size < b := by omega
    have hne : b ≠ g := by omega
    rw [← hb] at hbr2 ⊢
    rw [← hg] at hgr2 ⊢
    clear hb hg hz1 hbr1 hS1 hgw1
    refine wpL_store (i := 7) b (wk0 #[.slice ka c.kinds.length kc, .int .i64 c.ins, .int .i64 c.outs, .int .i64 c.cells, .int .i64 c.stack, .slice ia c.init.length ic, .slice ba N bc] g N) zeroW 63 63 (.tmp 3) (.tmp 12) (by kernel_rfl) rfl (by kernel_rfl) rfl rfl rfl rfl hbr2 (by rw [wk0_size rfl]; kernel_rfl) (by rw [wk0_size rfl, zeroW_size]) (wk0_one (by kernel_rfl) g N) (fun V hbV hgV2 => ⟨?_, ?_⟩)
    · exact (hgV2.block _ (gl hS2) (by simp; omega)).trans hS2
    refine wpL_done (by kernel_rfl) ?_ _
    have hgV : V.heap[g]? = some (.cells (madeCells (rowC none).toArray (N * 66)) 61 (0, 0)) := (hgV2.block _ (gl hgr2) (by simp; omega)).trans hgr2
    have hSV : V.heap[w.heap.size]? = some (.cells #[.slice ka c.kinds.length kc, .int .i64 c.ins, .int .i64 c.outs, .int .i64 c.cells, .int .i64 c.stack, .slice ia c.init.length ic, .slice ba N bc] 30 (0, 0)) := (hgV2.block _ (gl hS2) (by simp; omega)).trans hS2
    have hgw : w.grownBy V none := Kp.grown hgw2 (Kp.of hgV2 [b] (fun k e _ => by cases e; simp)) (fun k hk => by simp at hk; omega)
    have HWK := Lib.hid (And.intro (wk0_new (W := w) (cs := #[.slice ka c.kinds.length kc, .int .i64 c.ins, .int .i64 c.outs, .int .i64 c.cells, .int .i64 c.stack, .slice ia c.init.length ic, .slice ba N bc]) hN0 hgw (by omega) (by omega) hne rfl hbV hgV) (And.intro hgw hSV))
    have q74 : V.cell? ⟨b, 74, none⟩ = some (.slice (some ⟨g, 0, none⟩) N N) := by
      have := (wk0_new (W := w) (cs := #[.slice ka c.kinds.length kc, .int .i64 c.ins, .int .i64 c.outs, .int .i64 c.cells, .int .i64 c.stack, .slice ia c.init.length ic, .slice ba N bc]) hN0 hgw (by omega) (by omega) hne rfl hbV hgV).ways
      rw [World.cell?_setCell_far _ _ _ _ (fun e => hne e.symm)] at this
      have e : (some [] :: Cd.nots (N - 1) : Kn).length = N := by simp [Cd.nots]; omega
      rw [e] at this
      exact this
    have q0 : V.cell? ⟨g, 0, none⟩ = some (.bool false) := by
      have := made_rows N 0 0 hN0 (by omega)
      unfold World.cell?
      rw [hgV]
      have e : (rowC none)[0]? = some (.bool false) := rfl
      rw [e] at this
      simpa using this
    have qf : V.frozen? ⟨g, 0, none⟩ = false := by simp [World.frozen?, hgV]
    clear hbV hgV hSV hgw hgV2 hS2 hbr2 hgr2 hgw2 hS0 hsz hmk
    go_wp2_with (first | (go_at_call 24; refine (rulesOf_any _).mono ?_; rintro e W3 ⟨rfl, hg3⟩; have HG3 := Lib.hid hg3; clear hg3) | (with_reducible refine hold_stR ?_))
    refine Lib.hid ?_
    refine wpList_plain rfl fun K' hK' => wp_store_row 65 _ _ rfl W3.heap.size rulesV.toArray rfl rfl _ _ (heap_alloc_new W3 _) (by kernel_rfl) rfl (by kernel_rfl) (hK' _ _ ?_)
    have hrr := setRow_at (cs := rulesV.toArray) (heap_alloc_new W3 (.cells #[.nilFunc, .nilFunc, .nilFunc, .nilFunc, .nilFunc, .nilFunc, .nilFunc, .nilFunc, .nilFunc, .nilFunc] 65))
    have hkr : Kp [W3.heap.size] W3 ((W3.alloc (.cells #[.nilFunc, .nilFunc, .nilFunc, .nilFunc, .nilFunc, .nilFunc, .nilFunc, .nilFunc, .nilFunc, .nilFunc] 65)).setRow W3.heap.size rulesV.toArray) := (Kp.of0 (World.grownBy_alloc W3 _ none) _).trans (Kp.of (grown_setRow _ _ _) _ (fun k e _ => by cases e; simp))
    have hg4 := Kp.grown HG3.out (hkr.mono (fun k hk _ => hk)) (fun k hk => by simp at hk; rw [hk]; exact HG3.out.size)
    generalize (W3.alloc (.cells #[.nilFunc, .nilFunc, .nilFunc, .nilFunc, .nilFunc, .nilFunc, .nilFunc, .nilFunc, .nilFunc, .nilFunc] 65)).setRow W3.heap.size rulesV.toArray = W4 at hrr hg4 ⊢
    obtain ⟨r, hr⟩ : ∃ r, r = W3.heap.size := ⟨_, rfl⟩
    rw [← hr] at hrr ⊢
    have hrb : r ≠ b ∧ r ≠ g ∧ w.heap.size ≤ r := by
      have h1 := HWK.out.1.bl
      have h2 := HWK.out.1.gl (by simp)
      have h3 := HG3.out.size
      have h4 := HWK.out.2.1.size
      have h5 : (V.setCell ⟨g, 0, none⟩ (.bool true)).heap.size = V.heap.size := by simp [World.setCell]
      omega
    have hlen : (some [] :: Cd.nots (N - 1) : Kn).length = N := by simp [Cd.nots]; omega
    have HL : Hid (Wk w W4 b g #[.slice ka c.kinds.length kc, .int .i64 c.ins, .int .i64 c.outs, .int .i64 c.cells, .int .i64 c.stack, .slice ia c.init.length ic, .slice ba N bc] 0 none (some [] :: Cd.nots (N - 1)) ∧ W4.heap[r]? = some (.cells rulesV.toArray 65 (0, 0)) ∧ W4.cell? ⟨w.heap.size, 6, none⟩ = some (.slice ba N bc)) := Lib.hid ⟨HWK.out.1.on (by simp) hg4, hrr, by
      have h1 := cell_of_row V _ 6 _ _ _ HWK.out.2.2
      have h2 : (V.setCell ⟨g, 0, none⟩ (.bool true)).cell? ⟨w.heap.size, 6, none⟩ = some (.slice ba N bc) := by
        rw [World.cell?_setCell_far _ _ _ _ (by simp; omega)]
        exact h1
      exact hg4.cell h2 (by simp)⟩
    have k6 := HL.out.2.2
    clear hr hg4 hkr hrr HG3 HWK q74 q0 qf hlen HB HG0 hcs cs
    go_wp2
    obtain ⟨cs, hcs⟩ : ∃ cs : Array Value, cs = #[.slice ka c.kinds.length kc, .int .i64 c.ins, .int .i64 c.outs, .int .i64 c.cells, .int .i64 c.stack, .slice ia c.init.length ic, .slice ba N bc] := ⟨_, rfl⟩
    have HCO : Hid (Co cs c ∧ ∃ ka kc, cs[0]? = some (.slice ka c.kinds.length kc) ∧ NumsAt w ka c.kinds) := Lib.hid ⟨by rw [hcs]; exact ⟨⟨_, _, rfl⟩, rfl, rfl⟩, by rw [hcs]; exact ⟨_, _, rfl, HH.out.1.kinds⟩⟩
    rw [← hcs] at HL ⊢
    clear hcs
    generalize Value.agg (wk0 cs g N) = X12
    have HL0 : Hid (LpR w b g cs r c N D 0 W4) := Lib.hid ⟨0, none, _, HL.out.1, by simp [Cd.nots]; omega, fun l hl => by
      simp [Cd.nots] at hl
      subst hl
      exact ⟨by simpa using HH.out.2.2.1, by simp⟩, HL.out.2.1, by rw [HD.out, List.drop_zero, List.drop_zero, HN.out]⟩
    clear HL k6 hbl hgl
    go_loopw [21] (fun iv wr => ∃ t : Nat, t ≤ N ∧ iv = .int .i64 (t : Int) ∧ Hid (LpR w b g cs r c N D t wr)) (fun i _ => N - (intOf i).toNat)
    case atStart => exact ⟨0, Nat.zero_le _, rfl, HL0⟩
    case round =>
      obtain ⟨t, ht, rfl, HT⟩ := hrel
      by_cases hlt : t < N
      · obtain ⟨x, hx⟩ : ∃ x, c.body[t]? = some x := ⟨_, List.getElem?_eq_getElem (by rw [← HN.out]; exact hlt)⟩
        obtain ⟨b1, o1, rfl, hc1, hc2, hc3⟩ := HH.out.1.body t x hx
        obtain ⟨a0, s0, qs, hwk, hql, hsks, hrules, hgo⟩ := HT.out
        have p1 := hwk.grown.cell hc1 (by simp)
        have p2 := hwk.grown.cell hc2 (by simp)
        have p3 := hwk.grown.cell hc3 (by simp)
        have hx9 := HH.out.2.2.2.2.2.2 x (List.mem_iff_getElem?.2 ⟨_, hx⟩)
        obtain ⟨q, hqt⟩ : ∃ q, qs[t]? = some q := ⟨_, List.getElem?_eq_getElem (by rw [hql]; exact hlt)⟩
        obtain ⟨xo, xn, xk⟩ := x
        simp only at p1 p2 p3 hx9
        have hwk1 := hwk.on (by rw [hql]; exact hN0) (World.grownBy_alloc wr (.cells #[.int .i64 xo, .int .i64 xn, .int .i64 xk] 41) none)
        have y74 := hwk1.ways
        rw [hql] at y74
        have yq := (row_parts.1 (hwk1.rows t q hqt)).1
        have hru1 := row_alloc hrules (.cells #[.int .i64 xo, .int .i64 xn, .int .i64 xk] 41)
        have HX := Lib.hid (And.intro hx (And.intro hqt (And.intro hql (And.intro hsks (And.intro hgo (And.intro hx9 (And.intro hwk1 hru1)))))))
        have hbox1 := heap_alloc_new wr (.cells #[.int .i64 xo, .int .i64 xn, .int .i64 xk] 41)
        have hpn : wr.heap.size ≠ b ∧ wr.heap.size ≠ g ∧ wr.heap.size ≠ r := by
          have h1 := hwk.bl
          have h2 := hwk.gl (by rw [hql]; exact hN0)
          have h3 := gl hrules
          omega
        have HPB := Lib.hid (And.intro hbox1 hpn)
        clear hx hc1 hc2 hc3 hqt hql hsks hgo hx9 hwk1 hru1 hwk hrules hbox1 hpn
        cases q with
        | none =>
          simp only [Option.isSome_none] at yq
          go_wp2
          refine ⟨⟨t + 1, by omega, by go_num, Lib.hid ⟨a0, s0, qs, HX.out.2.2.2.2.2.2.1, HX.out.2.2.1, HX.out.2.2.2.1, HX.out.2.2.2.2.2.2.2, ?_⟩⟩, by simp [intOf]; omega⟩
          rw [← Cd.go_skip HX.out.1 HX.out.2.1]
          exact HX.out.2.2.2.2.1
        | some l =>
          simp only [Option.isSome_some] at yq
          have y7 := HX.out.2.2.2.2.2.2.1.place
          have f7 := HX.out.2.2.2.2.2.2.1.fr (o := 7) (by omega)
          go_wp2_with (with_reducible refine hold_ldS ?_)
          refine Lib.hid ?_
          refine wpList_load_mid rfl 61 _ rfl g (t * 66) rfl (rowC (some l)) _ (HX.out.2.2.2.2.2.2.1.rows t _ HX.out.2.1) Try.underlying61 rfl (by rw [rowC_len]; kernel_rfl) ?_
          go_wp2_with (with_reducible refine hold_stS ?_)
          refine Lib.hid ?_
          refine wpList_store_mid rfl 61 _ _ rfl b 8 (rowC (some l)).toArray rfl rfl (by
            rw [List.size_toArray, rowC_len]
            exact fun j hj => by
              have := there_set HX.out.2.2.2.2.2.2.1.tb ⟨b, 7, none⟩ (.int .i64 (t : Int)) (8 + j) (by omega)
              rwa [Nat.zero_add] at this) (by rw [List.size_toArray, rowC_len]; kernel_rfl) (row_one _) ?_
          rw [List.toList_toArray]
          have HQ := Lib.hid (Wk.come (t := t) (l := l) HX.out.2.2.2.2.2.2.1)
          generalize ((wr.alloc (.cells #[.int .i64 xo, .int .i64 xn, .int .i64 xk] 41)).setCell ⟨b, 7, none⟩ (.int .i64 (t : Int))).setCells b 8 (rowC (some l)) = W9 at HQ ⊢
          have hS9 : W9.drew.heap[wr.heap.size]? = some (.cells #[.int .i64 xo, .int .i64 xn, .int .i64 xk] 41 (0, 0)) ∧ W9.drew.heap[r]? = some (.cells rulesV.toArray 65 (0, 0)) := ⟨(HQ.out.2.block _ (gl HPB.out.1) (by simp; exact ⟨HPB.out.2.1, HPB.out.2.2.1⟩)).trans HPB.out.1, (HQ.out.2.block _ (gl HX.out.2.2.2.2.2.2.2) (by simp; exact ⟨hrb.1, hrb.2.1⟩)).trans HX.out.2.2.2.2.2.2.2⟩
          have hWK9 := HQ.out.1.drew
          clear y74 yq y7 f7 p1 p2 p3 HQ
          go_wp2
          refine wp_region_L (S := fun V => V.heap[wr.heap.size]? = some (.cells #[.int .i64 xo, .int .i64 xn, .int .i64 xk] 41 (0, 0)) ∧ V.heap[r]? = some (.cells rulesV.toArray 65 (0, 0))) (Z := []) (by kernel_rfl) ?_
          generalize W9.drew = W9 at hS9 hWK9 ⊢
          refine t2 0 41 (.agg #[.int .i64 xo, .int .i64 xn, .int .i64 xk]) (fun w' hw' => ?_) hS9 ?_
          · exact exec_load_mid 41 _ rfl wr.heap.size 0 rfl _ _ (row_range hw'.1) Try.underlying41 rfl (by kernel_rfl)
          (try simp only [Act.put, sA, sB, sC])
          have hact := Cd.go_act (c := c) HX.out.1 HX.out.2.1
          have hskl : Cd.Sk c l := HX.out.2.2.2.1 l (List.mem_iff_getElem?.2 ⟨_, HX.out.2.1⟩)
          rw [Cd.act_rule c ⟨xo, xn, xk⟩ l t qs HX.out.2.2.2.2.2.1.1 HX.out.2.2.2.2.2.1.2 HH.out.2.2.2.2.1 hskl, HX.out.2.2.2.2.1] at hact
          cases hbr : Cd.bare ⟨xo, xn, xk⟩ with
          | false =>
            rw [hbr] at hact
            simp only [Bool.false_eq_true, if_false] at hact
            refine wpL_call (i := 1) (d := 42) (R := fun v w' => v = .bool false ∧ W9.grownBy w' none) (by kernel_rfl) rfl rfl (by kernel_rfl) (by kernel_rfl) ((bare_any W9 xo xn xk).mono fun e w' he => ⟨_, he.1, by rw [hbr], he.2⟩) (fun v w' hR => ⟨(hR.2.block _ (gl hS9.1) (by simp)).trans hS9.1, (hR.2.block _ (gl hS9.2) (by simp)).trans hS9.2⟩) (fun v w' hR => ?_)
            obtain ⟨rfl, hgB⟩ := hR
            have hSB : w'.heap[wr.heap.size]? = some (.cells #[.int .i64 xo, .int .i64 xn, .int .i64 xk] 41 (0, 0)) ∧ w'.heap[r]? = some (.cells rulesV.toArray 65 (0, 0)) := ⟨(hgB.block _ (gl hS9.1) (by simp)).trans hS9.1, (hgB.block _ (gl hS9.2) (by simp)).trans hS9.2⟩
            (try simp only [Act.put, sA, sB, sC])
            refine t1 2 43 (.bool true) hSB ?_
            (try simp only [Act.put, sA, sB, sC])
            refine t1 3 44 (.bool true) hSB ?_
            (try simp only [Act.put, sA, sB, sC])
            refine t3 4 45 hSB ?_
            (try simp only [Act.put, sA, sB, sC])
            refine t3 5 46 hSB ?_
            (try simp only [Act.put, sA, sB, sC])
            refine t3 6 47 hSB ?_
            (try simp only [Act.put, sA, sB, sC])
            refine t3 7 48 hSB ?_
            (try simp only [Act.put, sA, sB, sC])
            refine t3 8 49 hSB ?_
            (try simp only [Act.put, sA, sB, sC])
            refine t3 9 50 hSB ?_
            (try simp only [Act.put, sA, sB, sC])
            refine t3 10 51 hSB ?_
            (try simp only [Act.put, sA, sB, sC])
            refine t1 11 52 (.bool true) hSB ?_
            (try simp only [Act.put, sA, sB, sC])
            refine wpL_done (by kernel_rfl) ?_ _
            have HF := Lib.hid (And.intro hact (hWK9.grown.trans hgB))
            clear hact hgB hWK9 hSB hS9
            go_wp2
            go_ret
            exact ⟨(by rw [HF.out.1]; rfl), HF.out.2⟩
          | true =>
            rw [hbr] at hact
            simp only [if_true] at hact
            refine wpL_call (i := 1) (d := 42) (R := fun v w' => v = .bool true ∧ W9.grownBy w' none) (by kernel_rfl) rfl rfl (by kernel_rfl) (by kernel_rfl) ((bare_any W9 xo xn xk).mono fun e w' he => ⟨_, he.1, by rw [hbr], he.2⟩) (fun v w' hR => ⟨(hR.2.block _ (gl hS9.1) (by simp)).trans hS9.1, (hR.2.block _ (gl hS9.2) (by simp)).trans hS9.2⟩) (fun v W10 hR => ?_)
            obtain ⟨rfl, hgB⟩ := hR
            have hSB : W10.heap[wr.heap.size]? = some (.cells #[.int .i64 xo, .int .i64 xn, .int .i64 xk] 41 (0, 0)) ∧ W10.heap[r]? = some (.cells rulesV.toArray 65 (0, 0)) := ⟨(hgB.block _ (gl hS9.1) (by simp)).trans hS9.1, (hgB.block _ (gl hS9.2) (by simp)).trans hS9.2⟩
            have hWKB := hWK9.on (by rw [HX.out.2.2.1]; exact hN0) hgB
            have hAt : At w W10 b g cs t c l qs := ⟨HCO.out.1, hWKB, hskl, HH.out.2.2.2.1, fun m hm => by have := (HX.out.2.2.2.1 m hm).1; have := HH.out.2.2.2.1; omega, by rw [HX.out.2.2.1]; exact hN1, by rw [HX.out.2.2.1]; exact hlt, HCO.out.2, HH.out.2.2.2.2.2.1⟩
            obtain ⟨f, hf1, hcf, hfc⟩ := rule_any w b g cs t c l qs xo xn xk HX.out.2.2.2.2.2.1.1 HX.out.2.2.2.2.2.1.2
            have hrule := hfc W10 hAt
            have hx19 := HX.out.2.2.2.2.2.1
            have HG10 := Lib.hid hWKB.grown
            have HBG := Lib.hid (And.intro hWKB.hb hWKB.hg)
            clear hfc hAt hWKB hS9 hgB hWK9
            obtain ⟨on, rfl⟩ : ∃ on : Nat, xo = on := ⟨xo.toNat, by omega⟩
            rw [Int.toNat_natCast] at hf1
            have hon : on < 10 := by omega
            (try simp only [Act.put, sA, sB, sC])
            refine t1 2 43 (.bool false) hSB ?_
            (try simp only [Act.put, sA, sB, sC])
            refine t1 3 44 (.bool false) hSB ?_
            (try simp only [Act.put, sA, sB, sC])
            refine t1 4 45 (.pointer (some ⟨wr.heap.size, 0, none⟩)) hSB ?_
            (try simp only [Act.put, sA, sB, sC])
            refine t2 5 46 (.int .i64 (on : Int)) (fun w' hw' => ?_) hSB ?_
            · have hc0 := cell_of_row w' _ 0 _ _ _ hw'.1; clear hw'; go_simp
            (try simp only [Act.put, sA, sB, sC])
            refine t2 6 47 (.pointer (some ⟨r, on, none⟩)) (fun w' hw' => ?_) hSB ?_
            · clear hw'; go_simp; (intro h10; omega)
            (try simp only [Act.put, sA, sB, sC])
            refine t2 7 48 (.func (.func f) #[] #[]) (fun w' hw' => ?_) hSB ?_
            · have hc0 : w'.cell? ⟨r, on, none⟩ = some (.func (.func f) #[] #[]) := by
                unfold World.cell?
                rw [hw'.2]
                simpa using hf1
              clear hw'; go_simp
            (try simp only [Act.put, sA, sB, sC])
            refine t2 8 49 (.agg #[.int .i64 (on : Int), .int .i64 xn, .int .i64 xk]) (fun w' hw' => ?_) hSB ?_
            · exact exec_load_mid 41 _ rfl wr.heap.size 0 rfl _ _ (row_range hw'.1) Try.underlying41 rfl (by kernel_rfl)
            (try simp only [Act.put, sA, sB, sC])
            refine wpL_call (i := 9) (d := 50) (R := fun v w' => v = .bool (Cd.rule c ⟨on, xn, xk⟩ l t qs).isSome ∧ RuP w W10 b g cs t (Cd.rule c ⟨on, xn, xk⟩ l t qs) (.returned v) w') (by kernel_rfl) rfl rfl (by kernel_rfl) (by go_simp) (hrule.mono fun e w' he => ⟨_, he.1, rfl, by rw [← he.1]; exact he⟩) (fun v w' hR => ⟨(hR.2.2.1.block _ (gl hSB.1) (by simp; exact ⟨HPB.out.2.1, HPB.out.2.2.1⟩)).trans hSB.1, (hR.2.2.1.block _ (gl hSB.2) (by simp; exact ⟨hrb.1, hrb.2.1⟩)).trans hSB.2⟩) (fun v W11 hR => ?_)
            obtain ⟨rfl, hRu⟩ := hR
            have hSC : W11.heap[wr.heap.size]? = some (.cells #[.int .i64 (on : Int), .int .i64 xn, .int .i64 xk] 41 (0, 0)) ∧ W11.heap[r]? = some (.cells rulesV.toArray 65 (0, 0)) := ⟨(hRu.2.1.block _ (gl hSB.1) (by simp; exact ⟨HPB.out.2.1, HPB.out.2.2.1⟩)).trans hSB.1, (hRu.2.1.block _ (gl hSB.2) (by simp; exact ⟨hrb.1, hrb.2.1⟩)).trans hSB.2⟩
            cases hR : Cd.rule c ⟨on, xn, xk⟩ l t qs with
            | none =>
              rw [hR] at hact hRu
              simp only [Option.isSome_none] at hRu ⊢
              (try simp only [Act.put, sA, sB, sC])
              refine t1 10 51 (.bool true) hSC ?_
              (try simp only [Act.put, sA, sB, sC])
              refine t1 11 52 (.bool true) hSC ?_
              (try simp only [Act.put, sA, sB, sC])
              refine wpL_done (by kernel_rfl) ?_ _
              have HF := Lib.hid (And.intro hact (Kp.grown HG10.out hRu.2.1 (fun k hk => by simp at hk; rcases hk with rfl | rfl; exact HBG.out.1; exact HBG.out.2)))
              clear hact hRu hSB hSC hrule
              go_wp2
              go_ret
              exact ⟨(by rw [HF.out.1]; rfl), HF.out.2⟩
            | some q =>
              rw [hR] at hact hRu
              simp only [Option.isSome_some] at hRu ⊢
              (try simp only [Act.put, sA, sB, sC])
              refine t1 10 51 (.bool false) hSC ?_
              (try simp only [Act.put, sA, sB, sC])
              refine t1 11 52 (.bool false) hSC ?_
              (try simp only [Act.put, sA, sB, sC])
              refine wpL_done (by kernel_rfl) ?_ _
              obtain ⟨s', hwq⟩ := hRu.2.2 q rfl
              obtain ⟨hsq, hlq⟩ := Cd.rule_sks HH.out.2.2.2.2.2.1 hskl HX.out.2.2.2.1 hR
              have HF : Hid (LpR w b g cs r c N D (t + 1) W11) := Lib.hid ⟨t, s', q, hwq, hlq.trans HX.out.2.2.1, hsq, hSC.2, hact.symm⟩
              clear hact hRu hSB hSC hrule hwq hsq hlq
              go_wp2
              exact ⟨⟨t + 1, by omega, by go_num, HF⟩, by simp [intOf]; omega⟩
      · obtain rfl : t = N := by omega
        have HDT : Hid (D = true) := Lib.hid (by
          obtain ⟨_, _, qs, _, _, _, _, h⟩ := HT.out
          rw [← h, HN.out]
          exact Cd.go_end)
        have HGT : Hid (w.grownBy wr none) := Lib.hid (by
          obtain ⟨_, _, _, h, _⟩ := HT.out
          exact h.grown)
        go_wp2
        go_ret
        exact ⟨(by rw [HDT.out]; rfl), HGT.out⟩
end Go.Proofs.Ytlppifnepckpiaa
