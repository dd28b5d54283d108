/- Stage 21: metronomelaw11.Lent: ticks in memory of their own, with more behind each. -/
import Derived.Test.YthcejnfnamhpfaaGreatEyB
namespace Go.Proofs.YthcejnfnamhpfaaGreat
open Go.RowKit Go.Maps Go.WideMaps

theorem cut2 (g m n c2 : Nat) (h : n ≤ c2) (V : World) : (Instr.slice 26 (.slice (some ⟨g, 0, none⟩) m c2) none (some (.int .i64 (n : Int))) none).run Tryz.prog V = .ok (.slice (some ⟨g, 0, none⟩) n c2) V := by
  have hs : ∀ V, (sizeOf (Tryz.prog.elem 26)).run Tryz.prog V = .ok 1 V := fun V => by kernel_rfl
  rw [run_slice_h (P := Tryz.prog) V 26 (some ⟨g, 0, none⟩) m c2 (by kernel_rfl) .i64 (n : Int) (by omega) (by omega), hs]
  simp [Result.andThen, sliced, addr_at]
theorem cut1 (g m n c2 : Nat) (h : n ≤ c2) (V : World) : (Instr.slice 22 (.slice (some ⟨g, 0, none⟩) m c2) none (some (.int .i64 (n : Int))) none).run Tryz.prog V = .ok (.slice (some ⟨g, 0, none⟩) n c2) V := by
  have hs : ∀ V, (sizeOf (Tryz.prog.elem 22)).run Tryz.prog V = .ok 1 V := fun V => by kernel_rfl
  rw [run_slice_h (P := Tryz.prog) V 22 (some ⟨g, 0, none⟩) m c2 (by kernel_rfl) .i64 (n : Int) (by omega) (by omega), hs]
  simp [Result.andThen, sliced, addr_at]
theorem exec_app {oi : Oper} {a : Act} {w w' : World} {s x : Operand} {t : TypeId} {v sl v' : Value} (ho : oi.op = .call { callee := .builtin .append, args := #[s, x], argTypes := #[t, t] }) (hs : a.eval s = v) (hx : a.eval x = sl) (hr : (Builtin.append_ #[t, t] oi.type #[v, sl]).run Tryz.prog w = .ok v' w') :
    (execOp a.eval oi).run Tryz.prog w = .ok (.value v') w' := by
  unfold execOp
  simp only [ho, resolve, invoke, builtin, Sem.run_bind, Sem.run_pure, Result.andThen_ok, List.map_toArray, List.map_cons, List.map_nil, hs, hx, hr]
/-- what was lent -/
def FulAt (W : World) (G C : Nat) (L : List (List Int)) : Prop := L.length + 1 ≤ C ∧ (∀ i l, L[i]? = some l → ∃ g c2, W.cell? ⟨G, i, none⟩ = some (.slice (some ⟨g, 0, none⟩) l.length c2) ∧ l.length + 1 ≤ c2 ∧ NumsAt W (some ⟨g, 0, none⟩) (l ++ [-71])) ∧ ∃ g c2, W.cell? ⟨G, L.length, none⟩ = some (.slice (some ⟨g, 0, none⟩) 1 c2) ∧ 1 ≤ c2 ∧ NumsAt W (some ⟨g, 0, none⟩) [-71]
theorem FulAt.on {W W' : World} {G C : Nat} {L : List (List Int)} (h : FulAt W G C L) (hg : W.grownBy W' none) : FulAt W' G C L := by
  obtain ⟨h1, h2, g, c2, h3, h4, h5⟩ := h
  refine ⟨h1, fun i l hi => ?_, g, c2, hg.cell h3 (by simp), h4, h5.on hg⟩
  obtain ⟨g, c2, q1, q2, q3⟩ := h2 i l hi
  exact ⟨g, c2, hg.cell q1 (by simp), q2, q3.on hg⟩
theorem FulAt.rows {W : World} {G C : Nat} {L : List (List Int)} (h : FulAt W G C L) (hm : ∀ l ∈ L, l.length ≤ maxLen ∧ ∀ y ∈ l, Bv.I64 y) : RowsAt W (some ⟨G, 0, none⟩) L := fun i l hi => by
  obtain ⟨g, c2, q1, q2, q3⟩ := h.2.1 i l hi
  exact ⟨G, 0, _, c2, rfl, by rw [Nat.zero_add]; exact q1, q3.lft, by omega, hm l (List.mem_of_getElem? hi)⟩
/-- a row under way -/
def LnOk (x : Lx) : Prop := ∃ g c2 l, x.l = l ++ [-71] ∧ x.fu = .slice (some ⟨g, 0, none⟩) (l.length + 1) c2 ∧ x.st = .slice (some ⟨g, 0, none⟩) l.length c2 ∧ l.length + 1 ≤ c2
structure LnI (w W : World) (L : List (List Int)) (t : Nat) (xs : List Lx) (v : Value) : Prop where
  ls : LsI w W [] xs v
  eq : xs.map (·.l) = (L.take t).map (· ++ [-71])
  ok : ∀ x ∈ xs, LnOk x
theorem LnI.len {w W : World} {L : List (List Int)} {t : Nat} {xs : List Lx} {v : Value} (h : LnI w W L t xs v) (ht : t ≤ L.length) : xs.length = t := by
  have := congrArg List.length h.eq
  simp at this
  omega
theorem lent_ful {w W : World} {L : List (List Int)} {xs : List Lx} {g0 : Nat} {G C n : Nat} (h : LsI w W [] (xs ++ [⟨.slice (some ⟨g0, 0, none⟩) 1 1, .slice (some ⟨g0, 0, none⟩) 1 1, [-71]⟩]) (.slice (some ⟨G, 0, none⟩) n C)) (he : xs.map (·.l) = L.map (· ++ [-71])) (hok : ∀ x ∈ xs, LnOk x) (hxl : xs.length = L.length) : FulAt W G C L := by
  rcases h.own.2 with ⟨e, h0⟩ | ⟨g, cap, cur, e, hb, hg, hc, _⟩
  · simp at h0
  · cases e
    rw [List.length_append, List.length_singleton] at hc
    refine ⟨by omega, fun i l hi => ?_, ?_⟩
    · have hx0 : (xs.map (·.l))[i]? = some (l ++ [-71]) := by rw [he, List.getElem?_map, hi]; rfl
      rw [List.getElem?_map, Option.map_eq_some_iff] at hx0
      obtain ⟨x, hx, hxl2⟩ := hx0
      have hxm := List.mem_of_getElem? hx
      obtain ⟨g2, c2, l2, e1, e2, e3, e4⟩ := hok x hxm
      rw [e1] at hxl2
      have hll : l2 = l := List.append_cancel_right hxl2
      subst hll
      have hi2 := (List.getElem?_eq_some_iff.1 hx).1
      have hce := h.own.cells (g := G) rfl i x.st (by rw [List.map_append, List.getElem?_append_left (by simpa using hi2), List.getElem?_map, hx]; rfl)
      rw [addr_at, e3, Nat.zero_add] at hce
      have hr := (h.rows x (List.mem_append.2 (.inl hxm))).1
      obtain ⟨ra, rc, e5, hn⟩ := NumsAt.own hr
      rw [e2, Value.slice.injEq] at e5
      rw [← e5.1, e1] at hn
      exact ⟨g2, c2, hce, e4, hn⟩
    · have hce := h.own.cells (g := G) rfl xs.length (.slice (some ⟨g0, 0, none⟩) 1 1) (by rw [List.map_append, List.getElem?_append_right (by simp)]; simp)
      rw [addr_at, Nat.zero_add, hxl] at hce
      have hr := (h.rows _ (List.mem_append.2 (.inr (List.mem_singleton.2 rfl)))).1
      obtain ⟨ra, rc, e5, hn⟩ := NumsAt.own hr
      cases e5
      exact ⟨g0, 1, hce, Nat.le_refl _, hn⟩
theorem own_pos {w : World} {B n : Nat} {T : TypeId} {v : Value} {xs : List Value} (h : w.ownsRow B T 1 v (n + 1) xs) : ∃ G C, v = .slice (some ⟨G, 0, none⟩) (n + 1) C ∧ n + 1 ≤ C := by
  rcases h.2 with ⟨_, h0⟩ | ⟨g, cp, cur, e, _, _, hc2, _⟩
  · omega
  · exact ⟨g, cp, e, hc2⟩
set_option maxRecDepth 100000 in
set_option maxHeartbeats 4000000 in
theorem lent_any (w : World) (L : List (List Int)) (a : Option Addr) (cap : Nat) (h : RowsAt w a L) (hm : L.length ≤ 2000) (hl2 : ∀ l ∈ L, l.length ≤ 2000) :
    Calls Tryz.prog 19 #[.slice a L.length cap] w fun e w' => ∃ G C, e = .returned (.slice (some ⟨G, 0, none⟩) L.length C) ∧ FulAt w' G C L ∧ w.grownBy w' none := by
  obtain ⟨N, hN⟩ : ∃ N, N = L.length := ⟨_, rfl⟩
  rw [← hN] at hm ⊢
  have HL := Lib.hid (And.intro h (And.intro hl2 hN))
  clear h hl2 hN
  go_enter Tryz.func19, Tryz.ntmps19
  go_wp2
  go_loopw [3, 4] (fun vv iv wr => ∃ (t : Nat) (xs : List Lx), t ≤ N ∧ iv = .int .i64 (t : Int) ∧ Hid (LnI w wr L t xs vv)) (fun _ iv _ => N - (intOf iv).toNat)
  case atStart => exact ⟨0, [], Nat.zero_le _, rfl, Lib.hid ⟨LsI.nil (World.grownBy.refl _ _) (fun k hk => by cases hk), rfl, fun x hx => by cases hx⟩⟩
  case round =>
    obtain ⟨t, xs, ht, rfl, HT⟩ := hrel
    have hxl := HT.out.len (by rw [← HL.out.2.2]; exact ht)
    by_cases hlt : t < N
    · obtain ⟨l, hl⟩ : ∃ l, L[t]? = some l := ⟨_, List.getElem?_eq_getElem (by rw [← HL.out.2.2]; exact hlt)⟩
      obtain ⟨b, o, ra, rc, rfl, hc, hn, hrc, _, _⟩ := HL.out.1 t l hl
      obtain ⟨M, hM⟩ : ∃ M, M = l.length := ⟨_, rfl⟩
      have hM2 : M ≤ 2000 := by rw [hM]; exact HL.out.2.1 l (List.mem_of_getElem? hl)
      rw [← hM] at hc hrc
      have HX := Lib.hid (And.intro hl (And.intro hn (And.intro hM (And.intro hc hrc))))
      clear hl hn hM hrc
      have q2 : (t : Int) < (N : Int) := by omega
      have e5 : decide ((t : Int) < (N : Int)) = true := xdT q2
      go_upto_region 5 with fail
      refine wp_region_L (S := fun V => w.grownBy V none) (Z := []) (by kernel_rfl) ?_
      refine wpL_as fun W hW => ?_
      have hS : w.grownBy W none := by rw [hW]; exact HT.out.ls.gw.trans (gdrewM wr 1 none)
      have HW : Hid (wr.grownBy W none ∧ W.heap.size = wr.heap.size) := Lib.hid (by rw [hW]; exact ⟨gdrewM wr 1 none, rfl⟩)
      clear hW
      (try simp only [Act.put, sA, sB, sC])
      refine t1 0 11 u3 hS ?_
      (try simp only [Act.put, sA, sB, sC])
      refine t1 1 12 (.slice (some ⟨b, o, none⟩) N cap) hS ?_
      (try simp only [Act.put, sA, sB, sC])
      refine t1 2 13 (.int .i64 (t : Int)) hS ?_
      (try simp only [Act.put, sA, sB, sC])
      refine t2 3 14 (.pointer (some ⟨b, o + t, none⟩)) (fun w' hw' => ?_) hS ?_
      · clear hw' hS
        go_simp
      (try simp only [Act.put, sA, sB, sC])
      refine t2 4 15 (.slice ra M rc) (fun w' hw' => ?_) hS ?_
      · have c2 := World.grownBy.cell hw' HX.out.2.2.2.1 (by simp)
        clear hw' hS
        go_simp
      (try simp only [Act.put, sA, sB, sC])
      refine t1 8 19 (.slice (some ⟨b, o, none⟩) N cap) hS ?_
      (try simp only [Act.put, sA, sB, sC])
      refine t1 9 20 (.int .i64 (t : Int)) hS ?_
      (try simp only [Act.put, sA, sB, sC])
      refine t2 10 21 (.pointer (some ⟨b, o + t, none⟩)) (fun w' hw' => ?_) hS ?_
      · clear hw' hS
        go_simp
      (try simp only [Act.put, sA, sB, sC])
      refine t2 11 22 (.slice ra M rc) (fun w' hw' => ?_) hS ?_
      · have c2 := World.grownBy.cell hw' HX.out.2.2.2.1 (by simp)
        clear hw' hS
        go_simp
      (try simp only [Act.put, sA, sB, sC])
      refine t2 12 23 (.int .i64 (M : Int)) (fun w' hw' => ?_) hS ?_
      · clear hw' hS
        go_simp
      (try simp only [Act.put, sA, sB, sC])
      refine wpL_app2 (i := 5) (j := 6) (k := 7) (d1 := 16) (d2 := 17) (d3 := 18) (x := .tmp 15) (la := ra) (lc := rc) (L := l) (n := -71) (hx := by rw [← HX.out.2.2.1]; rfl) (hx2 := fun _ => by rw [← HX.out.2.2.1]; rfl) (hb1 := fun _ => by kernel_rfl) (hb2 := fun _ _ => by kernel_rfl) (he := fun _ _ => ⟨rfl, rfl⟩) (hl := HX.out.2.1.on hS) (hn := by rw [← HX.out.2.2.1]; omega) (hS := fun w' hg => hS.trans hg) (h := fun v1 v2 v3 w2 hg hown => ?_)
      have hS2 : w.grownBy w2 none := hS.trans hg
      obtain ⟨g, C, hv3⟩ : ∃ g C, v3 = .slice (some ⟨g, 0, none⟩) (M + 1) C ∧ M + 1 ≤ C ∧ W.heap.size ≤ g := by
        rcases hown.2 with ⟨_, h0⟩ | ⟨g, cp, cur, e, hb, _, hc2, _⟩
        · simp at h0
        · simp only [List.length_append, List.length_singleton, ← HX.out.2.2.1] at e hc2
          exact ⟨g, cp, e, hc2, hb⟩
      obtain ⟨rfl, hC1, hgW⟩ := hv3
      have hcut := fun V => cut1 g (M + 1) M C (by omega) V
      have H2 := Lib.hid (And.intro hown (And.intro (HW.out.1.trans hg) (And.intro hC1 hgW)))
      have hq2 := HT.out.ls.fresh (HW.out.1.trans hg)
      have HQ2 := Lib.hid hq2
      clear hown hg hS hq2 hgW
      (try simp only [Act.put, sA, sB, sC])
      refine t2 13 24 (.slice (some ⟨g, 0, none⟩) M C) (fun w' hw' => ?_) hS2 ?_
      · clear hw' hS2
        go_simp
      (try simp only [Act.put, sA, sB, sC])
      refine wpL_val (i := 14) (d := 25) (v := .slice (some ⟨w2.heap.size, 0, none⟩) 1 1) (w' := w2.alloc (.cells #[.slice (some ⟨g, 0, none⟩) M C] 22)) (by kernel_rfl) rfl rfl (by kernel_rfl) (by kernel_rfl) (hS2.trans (World.grownBy_alloc _ _ none)) ?_
      (try simp only [Act.put, sA, sB, sC])
      obtain ⟨it, hit, hz, hsz, hby⟩ := info_parts xinfo_sl
      have hnr := heap_alloc_new w2 (.cells #[.slice (some ⟨g, 0, none⟩) M C] 22)
      obtain ⟨v', w3, hr3, ho3, hg3, _, hat3⟩ := run_append_own_at (P := Tryz.prog) (w2.alloc (.cells #[.slice (some ⟨g, 0, none⟩) M C] 22)) w.heap.size 26 26 22 it _ 1 24 Tryz.underlying26 hit hz hsz hby rfl (by decide) u3 xs.length (xs.map (·.st)) (HQ2.out.own.kept (World.grownBy_alloc _ _ none) (by cases u3.ownBlock <;> simp)) ⟨w2.heap.size, 0, none⟩ 1 1 [.slice (some ⟨g, 0, none⟩) M C] rfl (fun j u hu => by
          cases j with
          | zero => simp at hu; subst hu; rw [addr_at]; exact cell_of_row _ _ 0 _ _ _ hnr
          | succ j => simp at hu) (fun u hu => by rw [List.mem_singleton.1 hu]; rfl) (by unfold maxLen; omega) (by omega) (by have := HQ2.out.gw.size; rw [World.size_alloc]; omega)
      have hfin := HQ2.out.app (x := ⟨.slice (some ⟨g, 0, none⟩) M C, .slice (some ⟨g, 0, none⟩) (M + 1) C, l ++ [-71]⟩) (W1 := w2.alloc (.cells #[.slice (some ⟨g, 0, none⟩) M C] 22)) (xowns_base H2.out.1 (by rw [HW.out.2]; exact HT.out.ls.gw.size)) (fun k hk => by cases hk) (fun k e e2 => by
          cases e2
          have h7 : g < wr.heap.size := (HT.out.ls.own.lt _ e).2
          have h8 := H2.out.2.2.2
          have h9 := HW.out.2
          omega) (World.grownBy_alloc _ _ none) ho3 hg3 hat3 (fun k hk => by cases hk)
      refine wpL_val (i := 15) (d := 26) (v := v') (w' := w3) (by kernel_rfl) rfl rfl (by kernel_rfl) (exec_app rfl rfl rfl hr3) hfin.gw ?_
      have hS3 := hfin.gw
      (try simp only [Act.put, sA, sB, sC])
      refine t1 16 3 v' hS3 ?_
      (try simp only [Act.put, sA, sB, sC])
      refine wpL_done (by kernel_rfl) ?_ _
      have HN : Hid (LnI w w3 L (t + 1) (xs ++ [⟨.slice (some ⟨g, 0, none⟩) M C, .slice (some ⟨g, 0, none⟩) (M + 1) C, l ++ [-71]⟩]) v') := Lib.hid ⟨hfin, by
          rw [List.map_append, HT.out.eq, List.take_add_one, HX.out.1, List.map_append]
          rfl, fun x hx => by
          rcases List.mem_append.1 hx with hx | hx
          · exact HT.out.ok x hx
          · rw [List.mem_singleton.1 hx]
            exact ⟨g, C, l, rfl, by rw [HX.out.2.2.1], by rw [HX.out.2.2.1], by rw [← HX.out.2.2.1]; exact H2.out.2.2.1⟩⟩
      clear hfin hr3 ho3 hg3 hat3 hS2 hS3 hcut hnr hc
      go_wp2
      exact ⟨⟨t + 1, _, by omega, by go_num, HN⟩, by simp [intOf]; omega⟩
    · obtain rfl : t = N := by omega
      obtain ⟨W1, hW1⟩ : ∃ W1, W1 = wr.alloc (.cells #[.int .i64 (-71)] 3) := ⟨_, rfl⟩
      have hg1 : wr.grownBy W1 none := by rw [hW1]; exact World.grownBy_alloc _ _ _
      have s1 : W1.heap.size = wr.heap.size + 1 := by rw [hW1]; simp
      have hrow1 : W1.heap[wr.heap.size]? = some (.cells #[.int .i64 (-71)] 3 (0, 0)) := by rw [hW1]; exact heap_alloc_new _ _
      obtain ⟨it, hit, hz, hsz, hby⟩ := info_parts xinfo_sl
      have hq1 := HT.out.ls.fresh hg1
      have hnr := heap_alloc_new W1 (.cells #[.slice (some ⟨wr.heap.size, 0, none⟩) 1 1] 22)
      have hown := hq1.own.alloc (.cells #[.slice (some ⟨wr.heap.size, 0, none⟩) 1 1] 22)
      rw [s1] at hnr
      have hone : ∀ u ∈ [Value.slice (some ⟨wr.heap.size, 0, none⟩) 1 1], u.oneCell' = true := fun u hu => by rw [List.mem_singleton.1 hu]; rfl
      have hnews : ∀ j u, [Value.slice (some ⟨wr.heap.size, 0, none⟩) 1 1][j]? = some u → (W1.alloc (.cells #[.slice (some ⟨wr.heap.size, 0, none⟩) 1 1] 22)).cell? ((⟨wr.heap.size + 1, 0, none⟩ : Addr).add j) = some u := fun j u hu => by
        cases j with
        | zero => simp at hu; subst hu; rw [addr_at]; exact cell_of_row _ _ 0 _ _ _ hnr
        | succ j => simp at hu
      have hbase : w.heap.size ≤ (W1.alloc (.cells #[.slice (some ⟨wr.heap.size, 0, none⟩) 1 1] 22)).heap.size := by have := hq1.gw.size; rw [World.size_alloc]; omega
      have b63 : xs.length + 1 ≤ maxLen := by unfold maxLen; omega
      have bby : (xs.length + 1) * 24 ≤ 140737488355328 := by omega
      have HO := Lib.hid (And.intro hown (And.intro hnews (And.intro hone (And.intro b63 (And.intro bby hbase)))))
      have H1 := Lib.hid (And.intro hq1 (And.intro hrow1 (And.intro s1 hg1)))
      clear hown hnews hone b63 bby hbase hq1 hrow1 hnr s1 hg1
      rw [hW1] at HO
      have hcut := fun (G C : Nat) (h : t ≤ C) V => cut2 G (t + 1) t C h V
      go_wp2_with (at_builtin; refine wpList_append_own_at _ rfl _ _ 26 rfl w.heap.size 22 it _ 1 24 Tryz.underlying26 hit hz hsz hby rfl (by decide) u3 xs.length (xs.map (·.st)) rfl HO.out.1 ⟨wr.heap.size + 1, 0, none⟩ 1 1 [.slice (some ⟨wr.heap.size, 0, none⟩) 1 1] rfl rfl HO.out.2.1 HO.out.2.2.1 HO.out.2.2.2.1 HO.out.2.2.2.2.1 HO.out.2.2.2.2.2 ?_; intro v' w3 ho3 hg3 _ hat3; rw [← hW1] at hg3 hat3; have hx1 : W1.ownsRow w.heap.size 3 1 (.slice (some ⟨wr.heap.size, 0, none⟩) 1 1) 1 [.int .i64 (-71)] := ⟨rfl, .inr ⟨wr.heap.size, 1, _, rfl, HT.out.ls.gw.size, H1.out.2.1, by omega, by unfold maxLen; omega, rfl, rfl⟩⟩; have hfin := H1.out.1.app (x := ⟨.slice (some ⟨wr.heap.size, 0, none⟩) 1 1, .slice (some ⟨wr.heap.size, 0, none⟩) 1 1, [-71]⟩) hx1 (fun k hk => by cases hk) (fun k e e2 => by cases e2; have h7 : wr.heap.size < wr.heap.size := (HT.out.ls.own.lt _ e).2; omega) (World.grownBy_alloc _ _ none) ho3 hg3 hat3 (fun k hk => by cases hk); obtain ⟨G, C, hv3, hC3⟩ := own_pos ho3; rw [hxl] at hv3; subst hv3; rw [hxl] at hC3; have H3 := Lib.hid hfin; have hc9 := hcut G C (by omega); clear ho3 hg3 hat3 hx1 hfin)
      go_ret
      exact ⟨G, C, rfl, lent_ful H3.out (by rw [HT.out.eq, HL.out.2.2, List.take_length]) HT.out.ok (by rw [hxl]; exact HL.out.2.2), H3.out.gw⟩
end Go.Proofs.YthcejnfnamhpfaaGreat
