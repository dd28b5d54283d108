/- Package code: bytesOf (written by mkcgb.py). -/
import Derived.Test.YtcjainfcndlllaaCgA
import Derived.Test.YtcjainfcndlllaaCfR
import Derived.Lib.SlBytesConst
namespace Go.Proofs.Ytcjainfcndlllaa
open Go.RowKit Go.Maps Go.WideMaps

/-- bytes of one's own, and the box that code came in -/
structure By (W0 : World) (p : Nat) (cv : Array Value) (V : World) (v : Value) (P : List UInt8) : Prop where
  grown : W0.grownBy V none
  own : Ow V W0.heap.size v P
  box : V.heap[p]? = some (.cells cv 25 (0, 0))
  lt : p < W0.heap.size
theorem By.fresh {W0 : World} {p : Nat} {cv : Array Value} {V : World} {v : Value} {P : List UInt8} (h : By W0 p cv V v P) (l : List Int) (T : TypeId) : An W0 (V.alloc (.cells (l.map (Value.int .i64)).toArray T)) (some ⟨V.heap.size, 0, none⟩) l v P :=
  ⟨h.grown.trans (World.grownBy_alloc V _ none), h.own.alloc _, nums_row (heap_alloc_new V _), fun b o e _ h2 => by
    cases e
    have := (h.own.lt _ h2).2
    omega⟩
theorem By.old {W0 : World} {p : Nat} {cv : Array Value} {V : World} {v : Value} {P : List UInt8} (h : By W0 p cv V v P) {na : Option Addr} {l : List Int} (hn : NumsAt W0 na l) : An W0 V na l v P :=
  ⟨h.grown, h.own, hn.on h.grown, fun b o e hl h2 => by
    cases l with
    | nil => exact hl rfl
    | cons a l =>
      obtain ⟨b2, o2, e2, hc⟩ := hn 0 a rfl
      rw [e] at e2
      cases e2
      have h3 := lt_of_cell? hc
      have h4 := (h.own.lt _ h2).1
      omega⟩
theorem By.alloc {W0 : World} {p : Nat} {cv : Array Value} {V : World} {v : Value} {P : List UInt8} (h : By W0 p cv V v P) (o : Obj) : By W0 p cv (V.alloc o) v P := ⟨h.grown.trans (World.grownBy_alloc V _ none), h.own.alloc _, row_alloc h.box _, h.lt⟩
theorem By.next {W0 : World} {p : Nat} {cv : Array Value} {V V' : World} {v v' : Value} {P P' : List UInt8} (h : By W0 p cv V v P) (hb : W0.heap[p]? = some (.cells cv 25 (0, 0))) (hg : W0.grownBy V' none) (hown : Ow V' W0.heap.size v' P') : By W0 p cv V' v' P' :=
  ⟨hg, hown, (hg.block p h.lt (by simp)).trans hb, h.lt⟩

theorem An.fresh {W0 : World} {V : World} {v : Value} {P : List UInt8} (hg : W0.grownBy V none) (ho : Ow V W0.heap.size v P) (l : List Int) (T : TypeId) : An W0 (V.alloc (.cells (l.map (Value.int .i64)).toArray T)) (some ⟨V.heap.size, 0, none⟩) l v P :=
  ⟨hg.trans (World.grownBy_alloc V _ none), ho.alloc _, nums_row (heap_alloc_new V _), fun b o e _ h2 => by
    cases e
    have := (ho.lt _ h2).2
    omega⟩
theorem insL_64 {b : List Cd.Ins} (h : ∀ x ∈ b, Cd.I64 x.op ∧ Cd.I64 x.n ∧ Cd.I64 x.k) : ∀ n ∈ Cd.insL b, Cd.I64 n := fun n hn => by
  unfold Cd.insL at hn
  rw [List.mem_flatten] at hn
  obtain ⟨l, hl, hn⟩ := hn
  obtain ⟨x, hx, rfl⟩ := List.mem_map.1 hl
  simp at hn
  rcases hn with rfl | rfl | rfl
  · exact (h x hx).1
  · exact (h x hx).2.1
  · exact (h x hx).2.2

set_option maxHeartbeats 8000000 in
set_option maxRecDepth 100000 in
theorem bytesOf_any (w : World) (c : Cd.Code) (ka : Option Addr) (kc : Nat) (ia : Option Addr) (ic : Nat) (ba : Option Addr) (bc : Nat) (hc : CodeAt w c ka ia ba) (h64 : I64s c) (hK : c.kinds.length ≤ 8000) (hJ : c.init.length ≤ 8000) (hB : c.body.length ≤ 60000) :
    Calls Try.prog 23 #[.agg (codeV c ka kc ia ic ba bc)] w fun e w' => ∃ v, e = .returned v ∧ w.grownBy w' none ∧ w'.ownsRow w.heap.size 5 1 v (Cd.write c).length (byteC (Cd.write c)) := by
  obtain ⟨W0, hW0⟩ : ∃ W0, W0 = w.alloc (.cells (codeV c ka kc ia ic ba bc) 25) := ⟨_, rfl⟩
  have hg0 : w.grownBy W0 none := by rw [hW0]; exact World.grownBy_alloc w _ none
  have hb0 : W0.heap[w.heap.size]? = some (.cells (codeV c ka kc ia ic ba bc) 25 (0, 0)) := by rw [hW0]; exact heap_alloc_new w _
  have hs0 : W0.heap.size = w.heap.size + 1 := by rw [hW0, World.size_alloc]
  have hc0 := hc.on hg0
  have n1 : ∀ x ∈ Cd.heads c, Cd.I64 x := fun x hx => by
    simp only [Cd.heads, List.mem_cons, List.not_mem_nil, or_false] at hx
    rcases hx with rfl | rfl | rfl | rfl | rfl
    · unfold Cd.I64; omega
    · exact h64.1
    · exact h64.2.1
    · exact h64.2.2.1
    · exact h64.2.2.2.1
  have n4 : ∀ x ∈ [(c.body.length : Int)], Cd.I64 x := fun x hx => by
    simp at hx
    subst hx
    unfold Cd.I64; omega
  have l0 : (Cd.heads c).length = 5 := rfl
  have m1 := nums_len (Cd.heads c) n1
  have m2 := nums_len c.kinds h64.2.2.2.2.1
  have m3 := nums_len c.init h64.2.2.2.2.2.1
  have m4 := nums_len [(c.body.length : Int)] n4
  rw [l0] at m1
  simp only [List.length_singleton] at m4
  have HM := Lib.hid (And.intro m1 (And.intro m2 (And.intro m3 (And.intro m4 (And.intro hK (And.intro hJ hB))))))
  have HI := Lib.hid (And.intro n1 (And.intro n4 h64))
  have HB0 := Lib.hid (And.intro hb0 (And.intro hg0 hs0))
  have HC := Lib.hid hc0
  clear hb0 hg0 hs0 hc0 n1 n4 l0 m1 m2 m3 m4 h64 hc
  have hb1 : By W0 w.heap.size (codeV c ka kc ia ic ba bc) (W0.alloc (.cells #[.int .u8 77, .int .u8 84, .int .u8 82, .int .u8 49] 5 (4, 5))) (.slice (some ⟨W0.heap.size, 0, none⟩) Cd.magic.length 4) Cd.magic := by
    refine ⟨World.grownBy_alloc W0 _ none, .inr ⟨W0.heap.size, rfl, Nat.le_refl _, by rw [World.size_alloc]; omega, fun i b hb => ⟨_, _, rfl, ?_⟩⟩, row_alloc HB0.out.1 _, by have := HB0.out.2.2; omega⟩
    have hr := heap_alloc_new W0 (.cells #[.int .u8 77, .int .u8 84, .int .u8 82, .int .u8 49] 5 (4, 5))
    unfold World.cell?
    rw [hr]
    have hi : i < 4 := (List.getElem?_eq_some_iff.1 hb).1
    rcases (show i = 0 ∨ i = 1 ∨ i = 2 ∨ i = 3 by omega) with rfl | rfl | rfl | rfl <;> (cases hb; rfl)
  have H0 := Lib.hid hb1
  clear hb1
  have HL0 : Hid (Cd.magic.length = 4) := Lib.hid rfl
  have hz0 := HB0.out.2.2
  have hcvt : (convert 38 38 (.slice (some ⟨w.heap.size + 1, 0, none⟩) 4 4)).run Try.prog (W0.alloc (.cells #[.int .u8 77, .int .u8 84, .int .u8 82, .int .u8 49] 5)) = .ok (.slice (some ⟨w.heap.size + 1, 0, none⟩) 4 4) (W0.alloc (.cells #[.int .u8 77, .int .u8 84, .int .u8 82, .int .u8 49] 5 (4, 5))) := by
    have := Lib.run_convert_bytes_const (P := Try.prog) W0 38 5 #[.int .u8 77, .int .u8 84, .int .u8 82, .int .u8 49] 4 4 Try.underlying38 Try.underlying5
    rw [hz0] at this
    exact this
  have z1 : (W0.alloc (.cells #[.int .u8 77, .int .u8 84, .int .u8 82, .int .u8 49] 5 (4, 5))).heap.size = w.heap.size + 1 + 1 := by rw [World.size_alloc, hz0]
  have hcall : Calls Try.prog 34 #[.slice (some ⟨w.heap.size + 1, 0, none⟩) 4 4, .slice (some ⟨w.heap.size + 1 + 1, 0, none⟩) 5 5] ((W0.alloc (.cells #[.int .u8 77, .int .u8 84, .int .u8 82, .int .u8 49] 5 (4, 5))).alloc (.cells #[.int .i64 (c.kinds.length : Int), .int .i64 c.ins, .int .i64 c.outs, .int .i64 c.cells, .int .i64 c.stack] 3)) (ApP W0 (.slice (some ⟨w.heap.size + 1, 0, none⟩) 4 4) Cd.magic (Cd.heads c) ((W0.alloc (.cells #[.int .u8 77, .int .u8 84, .int .u8 82, .int .u8 49] 5 (4, 5))).alloc (.cells #[.int .i64 (c.kinds.length : Int), .int .i64 c.ins, .int .i64 c.outs, .int .i64 c.cells, .int .i64 c.stack] 3))) := by
    have := appendNumbers_any W0 _ _ 5 (Cd.heads c) _ Cd.magic (H0.out.fresh (Cd.heads c) 3) HI.out.1 (by show 4 + 10 * 5 ≤ 1000000000; decide)
    rw [z1, hz0] at this
    exact this
  unfold codeV at hW0 H0 HB0 ⊢
  rw [hW0] at hcvt
  have hcall2 : ∀ Wx, Wx = W0 → Calls Try.prog 34 #[.slice (some ⟨w.heap.size + 1, 0, none⟩) 4 4, .slice (some ⟨w.heap.size + 1 + 1, 0, none⟩) 5 5] ((Wx.alloc (.cells #[.int .u8 77, .int .u8 84, .int .u8 82, .int .u8 49] 5 (4, 5))).alloc (.cells #[.int .i64 (c.kinds.length : Int), .int .i64 c.ins, .int .i64 c.outs, .int .i64 c.cells, .int .i64 c.stack] 3)) (ApP W0 (.slice (some ⟨w.heap.size + 1, 0, none⟩) 4 4) Cd.magic (Cd.heads c) ((W0.alloc (.cells #[.int .u8 77, .int .u8 84, .int .u8 82, .int .u8 49] 5 (4, 5))).alloc (.cells #[.int .i64 (c.kinds.length : Int), .int .i64 c.ins, .int .i64 c.outs, .int .i64 c.cells, .int .i64 c.stack] 3))) := fun Wx e => by rw [e]; exact hcall
  have hcall := hcall2 _ hW0.symm
  have HW0 := Lib.hid hW0
  clear z1 hcall2 hW0 hz0
  go_enter Try.func23, Try.ntmps23
  go_wp2_with (go_at_call 34; refine hcall.mono ?_; rintro e V1 ⟨v, rfl, hg, hown, hrow⟩; have HY := Lib.hid (H0.out.next HB0.out.1 hg hown); have HROW1 := Lib.hid hrow; clear hg hown hrow; refine Hid.out ?_)
  refine Lib.hid ?_
  obtain ⟨P1, hP1⟩ : ∃ P1, P1 = Cd.magic ++ Cd.nums (Cd.heads c) := ⟨_, rfl⟩
  rw [← hP1] at HY
  obtain ⟨a1, c1, hv⟩ := HY.out.own.slice
  subst hv
  have H1 := Lib.hid HY.out
  have HP1 := Lib.hid hP1
  have HL1 : Hid (P1.length ≤ 100) := Lib.hid (by
    have h1 := HM.out
    have h2 := HL0.out
    rw [HP1.out, List.length_append]
    omega)
  clear hP1 HY hcall
  have u0 := cell_of_row V1 _ 0 _ _ _ H1.out.box
  have u5 := cell_of_row V1 _ 5 _ _ _ H1.out.box
  have u6 := cell_of_row V1 _ 6 _ _ _ H1.out.box
  clear hcvt
  have hcall := appendNumbers_any W0 V1 ka kc c.kinds (.slice a1 P1.length c1) P1 (H1.out.old HC.out.kinds) HI.out.2.2.2.2.2.2.1 (by have := HL1.out; omega)
  go_wp2_with (go_at_call 34; refine hcall.mono ?_; rintro e V2 ⟨v, rfl, hg, hown, hrow⟩; have HY := Lib.hid (H1.out.next HB0.out.1 hg hown); have HROW2 := Lib.hid hrow; clear hg hown hrow; refine Hid.out ?_)
  clear u0 u5 u6
  refine Lib.hid ?_
  obtain ⟨P2, hP2⟩ : ∃ P2, P2 = P1 ++ Cd.nums (c.kinds) := ⟨_, rfl⟩
  rw [← hP2] at HY
  obtain ⟨a2, c2, hv⟩ := HY.out.own.slice
  subst hv
  have H2 := Lib.hid HY.out
  have HP2 := Lib.hid hP2
  have HL2 : Hid (P2.length ≤ 90000) := Lib.hid (by
    have h1 := HM.out
    have h2 := HL1.out
    rw [HP2.out, List.length_append]
    omega)
  clear hP2 HY hcall
  have u0 := cell_of_row V2 _ 0 _ _ _ H2.out.box
  have u5 := cell_of_row V2 _ 5 _ _ _ H2.out.box
  have u6 := cell_of_row V2 _ 6 _ _ _ H2.out.box
  have hcall := appendNumbers_any W0 V2 ia ic c.init (.slice a2 P2.length c2) P2 (H2.out.old HC.out.init) HI.out.2.2.2.2.2.2.2.1 (by have := HL2.out; omega)
  go_wp2_with (go_at_call 34; refine hcall.mono ?_; rintro e V3 ⟨v, rfl, hg, hown, hrow⟩; have HY := Lib.hid (H2.out.next HB0.out.1 hg hown); have HROW3 := Lib.hid hrow; clear hg hown hrow; refine Hid.out ?_)
  clear u0 u5 u6
  refine Lib.hid ?_
  obtain ⟨P3, hP3⟩ : ∃ P3, P3 = P2 ++ Cd.nums (c.init) := ⟨_, rfl⟩
  rw [← hP3] at HY
  obtain ⟨a3, c3, hv⟩ := HY.out.own.slice
  subst hv
  have H3 := Lib.hid HY.out
  have HP3 := Lib.hid hP3
  have HL3 : Hid (P3.length ≤ 180000) := Lib.hid (by
    have h1 := HM.out
    have h2 := HL2.out
    rw [HP3.out, List.length_append]
    omega)
  clear hP3 HY hcall
  have u0 := cell_of_row V3 _ 0 _ _ _ H3.out.box
  have u5 := cell_of_row V3 _ 5 _ _ _ H3.out.box
  have u6 := cell_of_row V3 _ 6 _ _ _ H3.out.box
  have hcall : Calls Try.prog 34 #[.slice a3 P3.length c3, .slice (some ⟨V3.heap.size, 0, none⟩) 1 1] (V3.alloc (.cells #[.int .i64 (c.body.length : Int)] 3)) (ApP W0 (.slice a3 P3.length c3) P3 [(c.body.length : Int)] (V3.alloc (.cells #[.int .i64 (c.body.length : Int)] 3))) := appendNumbers_any W0 _ _ 1 [(c.body.length : Int)] _ P3 (H3.out.fresh [(c.body.length : Int)] 3) HI.out.2.1 (by have := HL3.out; simp only [List.length_singleton]; omega)
  go_wp2_with (go_at_call 34; refine hcall.mono ?_; rintro e V4 ⟨v, rfl, hg, hown, hrow⟩; have HY := Lib.hid (H3.out.next HB0.out.1 hg hown); have HROW4 := Lib.hid hrow; clear hg hown hrow; refine Hid.out ?_)
  clear u0 u5 u6
  refine Lib.hid ?_
  obtain ⟨P4, hP4⟩ : ∃ P4, P4 = P3 ++ Cd.nums ([(c.body.length : Int)]) := ⟨_, rfl⟩
  rw [← hP4] at HY
  obtain ⟨a4, c4, hv⟩ := HY.out.own.slice
  subst hv
  have H4 := Lib.hid HY.out
  have HP4 := Lib.hid hP4
  have HL4 : Hid (P4.length ≤ 190000) := Lib.hid (by
    have h1 := HM.out
    have h2 := HL3.out
    rw [HP4.out, List.length_append]
    omega)
  clear hP4 HY hcall
  have u0 := cell_of_row V4 _ 0 _ _ _ H4.out.box
  have u5 := cell_of_row V4 _ 5 _ _ _ H4.out.box
  have u6 := cell_of_row V4 _ 6 _ _ _ H4.out.box
  have HR4 := Lib.hid (HROW4.out (.inl (by simp)))
  go_wp2
  obtain ⟨N, hN⟩ : ∃ N, N = c.body.length := ⟨_, rfl⟩
  have HST : Hid (W0.grownBy V4 none ∧ V4.ownsRow W0.heap.size 5 1 (.slice a4 P4.length c4) P4.length (byteC P4)) := Lib.hid ⟨H4.out.grown, by have := HR4.out; rw [← HP4.out] at this; exact this⟩
  rw [← hN] at hB ⊢
  have HN := Lib.hid hN
  clear hN HR4 HROW1 HROW2 HROW3 HROW4 H0 H1 H2 H3 H4 u0 u5 u6
  go_loopw [3, 39] (fun bv iv wr => ∃ t : Nat, t ≤ N ∧ iv = .int .i64 (t : Int) ∧ Hid (W0.grownBy wr none ∧ wr.ownsRow W0.heap.size 5 1 bv (P4 ++ Cd.nums (Cd.insL (c.body.take t))).length (byteC (P4 ++ Cd.nums (Cd.insL (c.body.take t)))))) (fun _ i _ => N - (intOf i).toNat)
  case atStart => exact ⟨0, Nat.zero_le _, rfl, Lib.hid (by simpa [Cd.insL, Cd.nums] using HST.out)⟩
  case round =>
    obtain ⟨t, ht, rfl, HT⟩ := hrel
    obtain ⟨PT, hPT⟩ : ∃ PT, PT = P4 ++ Cd.nums (Cd.insL (c.body.take t)) := ⟨_, rfl⟩
    rw [← hPT] at HT
    obtain ⟨a5, c5, hbv, -⟩ := BytesAt.own HT.out.2
    subst hbv
    have HPT := Lib.hid hPT
    clear hPT
    by_cases hlt : t < N
    · obtain ⟨x, hx⟩ : ∃ x, c.body[t]? = some x := ⟨_, List.getElem?_eq_getElem (by rw [← HN.out]; exact hlt)⟩
      obtain ⟨b1, o1, rfl, hc1, hc2, hc3⟩ := HC.out.body t x hx
      have p1 := HT.out.1.cell hc1 (by simp)
      have p2 := HT.out.1.cell hc2 (by simp)
      have p3 := HT.out.1.cell hc3 (by simp)
      have hx64 := HI.out.2.2.2.2.2.2.2.2.1 x (List.mem_iff_getElem?.2 ⟨_, hx⟩)
      have HX := Lib.hid hx
      clear hx hc1 hc2 hc3
      obtain ⟨xo, xn, xk⟩ := x
      simp only at p1 p2 p3 hx64
      have hlen : PT.length + 10 * 3 ≤ 1000000000 := by
        have h1 := HL4.out
        have h2 := nums_len (Cd.insL (c.body.take t)) (fun n hn => insL_64 (fun y hy => HI.out.2.2.2.2.2.2.2.2.1 y (List.mem_of_mem_take hy)) n hn)
        rw [Cd.insL_len, List.length_take] at h2
        rw [HPT.out, List.length_append]
        omega
      have hcall : Calls Try.prog 34 #[.slice a5 PT.length c5, .slice (some ⟨wr.heap.size + 1, 0, none⟩) 3 3] ((wr.alloc (.cells #[.int .i64 xo, .int .i64 xn, .int .i64 xk] 33)).alloc (.cells #[.int .i64 xo, .int .i64 xn, .int .i64 xk] 3)) (ApP W0 (.slice a5 PT.length c5) PT [xo, xn, xk] ((wr.alloc (.cells #[.int .i64 xo, .int .i64 xn, .int .i64 xk] 33)).alloc (.cells #[.int .i64 xo, .int .i64 xn, .int .i64 xk] 3))) := by
        have := appendNumbers_any W0 _ _ 3 [xo, xn, xk] _ PT (An.fresh (V := wr.alloc (.cells #[.int .i64 xo, .int .i64 xn, .int .i64 xk] 33)) (HT.out.1.trans (World.grownBy_alloc wr _ none)) (.inl (HT.out.2.alloc _)) [xo, xn, xk] 3) (fun y hy => by
          simp at hy
          rcases hy with rfl | rfl | rfl
          · exact hx64.1
          · exact hx64.2.1
          · exact hx64.2.2) hlen
        rw [World.size_alloc] at this
        exact this
      clear hlen hx64
      go_wp2_with (go_at_call 34; refine hcall.mono ?_; rintro e V5 ⟨v, rfl, hg, hown, hrow⟩; have HY := Lib.hid (And.intro hg (hrow (.inl (by simp)))); clear hg hown hrow)
      refine ⟨⟨t + 1, by omega, by go_num, Lib.hid ?_⟩, by simp [intOf]; omega⟩
      have e : P4 ++ Cd.nums (Cd.insL (c.body.take (t + 1))) = PT ++ Cd.nums [xo, xn, xk] := by
        rw [HPT.out, List.take_add_one, HX.out, List.append_assoc, ← Cd.nums_append]
        congr 2
        simp [Cd.insL]
      rw [e]
      exact HY.out
    · obtain rfl : t = N := by omega
      have HF : Hid (w.grownBy wr none ∧ wr.ownsRow w.heap.size 5 1 (.slice a5 PT.length c5) (Cd.write c).length (byteC (Cd.write c))) := Lib.hid (by
        have e : PT = Cd.write c := by
          rw [HPT.out, HN.out, List.take_length, HP4.out, HP3.out, HP2.out, HP1.out]
          simp only [Cd.write, Cd.allL, Cd.nums_append, Cd.nums_cons, List.append_assoc]
          simp [Cd.nums]
        rw [← e]
        exact ⟨HB0.out.2.1.trans HT.out.1, owns_base HT.out.2 (by have := HB0.out.2.2; omega)⟩)
      go_wp2
      go_ret
      exact ⟨_, rfl, HF.out⟩
end Go.Proofs.Ytcjainfcndlllaa
