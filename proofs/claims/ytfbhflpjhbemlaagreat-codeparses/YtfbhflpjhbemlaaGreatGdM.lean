/- Stage 19: CodeParses: the walk. -/
import Derived.Test.YtfbhflpjhbemlaaGreatGdL
namespace Go.Proofs.YtfbhflpjhbemlaaGreat
open Go.RowKit Go.Maps Go.WideMaps

theorem BytesAt.on {w V : World} {a : Option Addr} {l : List UInt8} (h : BytesAt w a l) (hg : w.grownBy V none) : BytesAt V a l := fun i b hi => by
  obtain ⟨g, o, e, hc⟩ := h i b hi
  exact ⟨g, o, e, hg.cell hc (by simp)⟩
/-- one's own bytes behind one's own, and one byte more -/
theorem app_more (w W : World) (l : List UInt8) (v : Value) (x : UInt8) (hg : w.grownBy W none) (h : W.ownsRow w.heap.size 5 1 v l.length (byteC l)) (hn : l.length ≤ 1000000) :
    ∃ v' w', (Builtin.append_ #[22, 22] 22 #[v, .slice (some ⟨W.heap.size, 0, none⟩) 1 1]).run Tryz.prog (W.alloc (.cells #[.int .u8 x.toNat] 5)) = .ok v' w' ∧ w'.ownsRow w.heap.size 5 1 v' (l ++ [x]).length (byteC (l ++ [x])) ∧ w.grownBy w' none := by
  obtain ⟨it, hit, hz, hsz, hby⟩ := info_parts info_u8
  have hga := World.grownBy_alloc W (.cells #[.int .u8 x.toNat] 5) none
  have hr := heap_alloc_new W (.cells #[.int .u8 x.toNat] 5)
  obtain ⟨v', w', q1, q2, q3, _⟩ := run_append_own (P := Tryz.prog) (W.alloc (.cells #[.int .u8 x.toNat] 5)) w.heap.size 22 22 5 it _ 1 1 Tryz.underlying22 hit hz hsz hby rfl (by decide) v l.length (byteC l) (own_kp h (Kp.of0 hga []) (fun x hx => by cases hx)) ⟨W.heap.size, 0, none⟩ 1 1 (byteC [x]) rfl (fun j u hu => by
    rw [addr_at, Nat.zero_add, row_cell hr]
    simpa [byteC] using hu) (byteC_one [x]) (by unfold maxLen; omega) (by omega) (Nat.le_trans hg.size hga.size)
  rw [byteC_app] at q2
  refine ⟨v', w', q1, by simpa using q2, grown_over (hg.trans hga) q3 (fun k e => (h.lt k e).1)⟩
theorem str_any {W : World} {a : Option Addr} {cap : Nat} {P : List UInt8} (hb : BytesAt W a P) : (convert 22 9 (.slice a P.length cap)).run Tryz.prog W = .ok (.string ⟨P.toArray⟩) W := by
  cases P with
  | cons x r => exact gstr_of hb (by simp)
  | nil =>
    cases a with
    | none => exact run_convert_bytes_nil (P := Tryz.prog) (w := W) 22 5 Tryz.underlying22 Tryz.underlying5 0 cap 9 Tryz.underlying9
    | some ad => exact run_convert_bytes_back (P := Tryz.prog) W 22 9 5 ad cap [] Tryz.underlying22 Tryz.underlying5 Tryz.underlying9 (fun j hj => by simp at hj)
/-- a row of instructions, whatever they are -/
def U3 (V : World) (g n : Nat) : Prop := V.there g 0 (n * 3)
set_option maxHeartbeats 16000000 in
set_option maxRecDepth 100000 in
theorem codeParses_any (w : World) (b o : List UInt8) (ab ao : Option Addr) (cb co : Nat) (hb : BytesAt w ab b) (hcb : b.length ≤ cb) (hbm : b.length ≤ maxLen) (ho : BytesAt w ao o) (hco : o.length ≤ co) (hom : o.length ≤ maxLen) :
    Calls Tryz.prog 3 #[.slice ab b.length cb, .slice ao o.length co] w fun e w' => e = .returned (.bool true) ∧ w.grownBy w' none := by
  have hal := fun V => alive19_any ccheck_any cwrite_any V
  have hnum := fun k V => num19_any k V
  obtain ⟨n, hn⟩ : ∃ n, n = b.length := ⟨_, rfl⟩
  obtain ⟨m, hm⟩ : ∃ m, m = o.length := ⟨_, rfl⟩
  have n63 : n ≤ 9223372036854775807 := by rw [hn]; simpa [maxLen] using hbm
  have m63 : m ≤ 9223372036854775807 := by rw [hm]; simpa [maxLen] using hom
  have h64 := Cd.pq_64 b
  have HO64 := Cd.pq_64 o
  have hPO := fun (h : m ≤ 10000) (V : World) (h1 : BytesAt V ao o) => (show Calls Tryz.prog 5 #[.slice ao m co] V (PqP V o) by rw [hm]; exact parse_pq V o ao co h1 hco (by omega))
  have hPB := fun (h : n ≤ 10000) (V : World) (F c : Nat) (h1 : BytesAt V (some ⟨F, 0, none⟩) b) (h2 : n ≤ c) => (show Calls Tryz.prog 5 #[.slice (some ⟨F, 0, none⟩) n c] V (PqP V b) by rw [hn] at h2 ⊢; exact parse_pq V b _ c h1 h2 (by omega))
  have hRB := fun (h : n ≤ 10000) (V : World) (h1 : BytesAt V ab b) => (show Calls Tryz.prog 6 #[.slice ab n cb] V _ by rw [hn]; exact rparse_pq V b ab cb h1 hcb (by omega))
  unfold PqP at hPO hPB
  generalize (Cd.pq b).1 = cX at h64 hPB hRB
  generalize (Cd.pq b).2 = xb at hPB hRB
  generalize (Cd.pq o).1 = cO at hPO HO64
  generalize (Cd.pq o).2 = xo at hPO
  have hSA := fun (V : World) ka kc ia ic ba bc ka' kc' ia' ic' ba' bc' (h1 : CodeAt V cX ka ia ba) (h2 : CodeAt V cX ka' ia' ba') => rSame_eq V cX ka kc ia ic ba bc ka' kc' ia' ic' ba' bc' h1 h2 h64
  have hc : ∀ ka kc ia ic ba bc, codeV cX ka kc ia ic ba bc = #[.slice ka cX.kinds.length kc, .int .i64 cX.ins, .int .i64 cX.outs, .int .i64 cX.cells, .int .i64 cX.stack, .slice ia cX.init.length ic, .slice ba cX.body.length bc] := fun _ _ _ _ _ _ => rfl
  have hd : ∀ ka kc ia ic ba bc, codeV cO ka kc ia ic ba bc = #[.slice ka cO.kinds.length kc, .int .i64 cO.ins, .int .i64 cO.outs, .int .i64 cO.cells, .int .i64 cO.stack, .slice ia cO.init.length ic, .slice ba cO.body.length bc] := fun _ _ _ _ _ _ => rfl
  have hmb : cO.body.length ≤ 9223372036854775807 := by simpa [maxLen] using HO64.2.2.2.2.2.2.2.2.2
  simp only [hc] at hPB hRB hSA
  simp only [hd] at hPO
  clear hc hd h64 HO64
  generalize cX.kinds.length = nk at hPB hRB hSA
  generalize cX.init.length = ni at hPB hRB hSA
  generalize cX.body.length = nb at hPB hRB hSA
  generalize cX.ins = x1 at hPB hRB hSA
  generalize cX.outs = x2 at hPB hRB hSA
  generalize cX.cells = x3 at hPB hRB hSA
  generalize cX.stack = x4 at hPB hRB hSA
  generalize cO.kinds.length = mk at hPO
  generalize cO.init.length = mi at hPO
  generalize cO.body.length = mb at hPO hmb
  generalize cO.ins = y1 at hPO
  generalize cO.outs = y2 at hPO
  generalize cO.cells = y3 at hPO
  generalize cO.stack = y4 at hPO
  have HPO := Lib.hid hPO
  have HPB := Lib.hid hPB
  have HRB := Lib.hid hRB
  have HSA := Lib.hid hSA
  clear hPO hPB hRB hSA
  have HB := Lib.hid (And.intro hb (And.intro ho (And.intro hn (And.intro hm (And.intro hcb hco)))))
  rw [← hn, ← hm]
  clear hb ho hn hm hcb hco hbm hom
  by_cases h1 : 10000 < n
  · have e1 : decide ((10000 : Int) < (n : Int)) = true := by rw [decide_eq_true_iff]; omega
    go_enter Tryz.func3, Tryz.ntmps3
    go_wp2_with (go_at_call 4; refine (hal _).mono ?_; rintro e w1 ⟨rfl, hg1⟩; have HG := Lib.hid hg1; clear hg1)
    go_ret
    exact ⟨rfl, HG.out⟩
  · have e1 : decide ((10000 : Int) < (n : Int)) = false := by rw [decide_eq_false_iff_not]; omega
    by_cases h2 : 10000 < m
    · have e2 : decide ((10000 : Int) < (m : Int)) = true := by rw [decide_eq_true_iff]; omega
      go_enter Tryz.func3, Tryz.ntmps3
      go_wp2_with (go_at_call 4; refine (hal _).mono ?_; rintro e w1 ⟨rfl, hg1⟩; have HG := Lib.hid hg1; clear hg1)
      go_ret
      exact ⟨rfl, HG.out⟩
    · have e2 : decide ((10000 : Int) < (m : Int)) = false := by rw [decide_eq_false_iff_not]; omega
      have hn4 : n ≤ 10000 := by omega
      have hm4 : m ≤ 10000 := by omega
      go_enter Tryz.func3, Tryz.ntmps3
      go_upto_region 4 with (go_at_call 4; refine (hal _).mono ?_; rintro e w1 ⟨rfl, hg1⟩; have HG1 := Lib.hid hg1; clear hg1)
      go_wp2_with (at_builtin; refine Hid.out ?_)
      refine Lib.hid ?_
      obtain ⟨v2, w2, r2, o2, g2⟩ := app_bytes w1 w1.heap.size (Nat.le_refl _) ab cb b (HB.out.1.on HG1.out) (by rw [← HB.out.2.2.1]; omega) 22
      rw [← HB.out.2.2.1] at r2
      refine wpList_app r2 rfl rfl rfl rfl ?_
      obtain ⟨v3, w3, r3, o3, g3⟩ := app_more w1 w2 b v2 167 g2 o2 (by rw [← HB.out.2.2.1]; omega)
      clear r2
      go_wp2_with (at_builtin; refine Hid.out ?_)
      refine Lib.hid ?_
      refine wpList_app r3 rfl rfl rfl rfl ?_
      obtain ⟨F, cF, rfl, hFB, hcF, hFb, hU⟩ := own_row o3 (by simp)
      clear r3 o2 o3 g2
      have hln : (b ++ [167]).length = n + 1 := by rw [List.length_append, ← HB.out.2.2.1]; rfl
      rw [hln] at hcF hU ⊢
      have HF := Lib.hid (And.intro hFB (And.intro hFb (And.intro hU (And.intro (HG1.out.trans g3) HG1.out))))
      clear hFB hFb hU g3 hln
      have q1 : (n : Int) ≤ (cF : Int) := by omega
      have hprs := HPB.out hn4 w3 F cF (fun i x hi => HF.out.2.1 i x (by rw [List.getElem?_append_left (by exact (List.getElem?_eq_some_iff.1 hi).1)]; exact hi)) (by omega)
      go_wp2_with (first | (go_at_call 5; refine hprs.mono ?_; rintro e w4 ⟨hg4, ka, kc, ia, ic, ba, bc, rfl, hf4, -⟩; refine Hid.out ?_))
      -- MAIN
      refine Lib.hid ?_
      go_wp2_with (with_reducible refine hold_st ?_)
      refine Lib.hid ?_
      refine store_lastc #[.slice ka nk kc, .int .i64 x1, .int .i64 x2, .int .i64 x3, .int .i64 x4, .slice ia ni ic, .slice ba nb bc] ?hpa ?hva ?hia ?hoa ?h1a ?hKa
      case hpa => rfl
      case hva => rfl
      case hia => kernel_rfl
      case hoa => rfl
      case h1a => simp [Value.oneCell']
      obtain ⟨W4, hW4⟩ : ∃ W, W = w4.alloc (.cells #[.slice ka nk kc, .int .i64 x1, .int .i64 x2, .int .i64 x3, .int .i64 x4, .slice ia ni ic, .slice ba nb bc] 27) := ⟨_, rfl⟩
      have hga := World.grownBy_alloc w4 (.cells #[.slice ka nk kc, .int .i64 x1, .int .i64 x2, .int .i64 x3, .int .i64 x4, .slice ia ni ic, .slice ba nb bc] 27) none
      have hr7 := heap_alloc_new w4 (.cells #[.slice ka nk kc, .int .i64 x1, .int .i64 x2, .int .i64 x3, .int .i64 x4, .slice ia ni ic, .slice ba nb bc] 27)
      rw [← hW4] at hga hr7 ⊢
      obtain ⟨R7, hR7⟩ : ∃ R, R = w4.heap.size := ⟨_, rfl⟩
      rw [← hR7] at hr7 ⊢
      have hFl := (show F < w3.heap.size by obtain ⟨cur, hh, _⟩ := HF.out.2.2.1; exact gl hh)
      have HF4 : Hid (Fr w3.heap.size W4 cX ka ia ba ∧ W4.heap[R7]? = some (.cells #[.slice ka nk kc, .int .i64 x1, .int .i64 x2, .int .i64 x3, .int .i64 x4, .slice ia ni ic, .slice ba nb bc] 27 (0, 0)) ∧ w.heap.size ≤ F ∧ F < w3.heap.size ∧ w3.heap.size ≤ R7 ∧ U9 W4 F (n + 1) ∧ w.grownBy W4 none ∧ BytesAt W4 (some ⟨F, 0, none⟩) (b ++ [167]) ∧ BytesAt W4 ab b) := Lib.hid ⟨hf4.kq (Kp.of0 hga []) (fun x hx => by cases hx), hr7, Nat.le_trans HF.out.2.2.2.2.size HF.out.1, hFl, by rw [hR7]; exact hg4.size, HF.out.2.2.1.kp (Kp.of0 (hg4.trans hga) []) (by simp), HF.out.2.2.2.1.trans (hg4.trans hga), HF.out.2.1.on (hg4.trans hga), HB.out.1.on (HF.out.2.2.2.1.trans (hg4.trans hga))⟩
      clear hga hr7 hf4 hg4 hFl hW4 hR7 hprs HF HG1
      obtain ⟨y, hy⟩ : ∃ y : ByteArray, y = ⟨b.toArray⟩ := ⟨_, rfl⟩
      have HKS : Hid ((∀ V, BytesAt V (some ⟨F, 0, none⟩) (b ++ [167]) ∧ BytesAt V ab b → (convert 22 9 (.slice (some ⟨F, 0, none⟩) n cF)).run Tryz.prog V = .ok (.string y) V) ∧ ∀ V, BytesAt V (some ⟨F, 0, none⟩) (b ++ [167]) ∧ BytesAt V ab b → (convert 22 9 (.slice ab n cb)).run Tryz.prog V = .ok (.string y) V) := Lib.hid ⟨fun V h => by
          rw [hy, HB.out.2.2.1]
          exact str_any (fun i x hi => h.1 i x (by rw [List.getElem?_append_left (List.getElem?_eq_some_iff.1 hi).1]; exact hi)), fun V h => by
          rw [hy, HB.out.2.2.1]
          exact str_any h.2⟩
      have HKC : Hid (∀ V, BytesAt V (some ⟨F, 0, none⟩) (b ++ [167]) ∧ BytesAt V ab b → V.cell? ⟨F, n, none⟩ = some (.int .u8 167)) := Lib.hid (fun V h => by
        obtain ⟨g', o', e', hc'⟩ := h.1 n 167 (by rw [HB.out.2.2.1]; simp)
        cases e'
        rw [Nat.zero_add] at hc'
        exact hc')
      clear hy
      go_upto_region 6 with fail
      refine wp_region_L (S := fun V => BytesAt V (some ⟨F, 0, none⟩) (b ++ [167]) ∧ BytesAt V ab b) (Z := []) (by kernel_rfl) ?_
      refine wpL_as fun W hW => ?_
      have hgW : W4.grownBy W none := by rw [hW]; exact gdrewK W4 1 none
      have hS : BytesAt W (some ⟨F, 0, none⟩) (b ++ [167]) ∧ BytesAt W ab b := ⟨HF4.out.2.2.2.2.2.2.2.1.on hgW, HF4.out.2.2.2.2.2.2.2.2.on hgW⟩
      have HF6 : Hid (Fr w3.heap.size W cX ka ia ba ∧ W.heap[R7]? = some (.cells #[.slice ka nk kc, .int .i64 x1, .int .i64 x2, .int .i64 x3, .int .i64 x4, .slice ia ni ic, .slice ba nb bc] 27 (0, 0)) ∧ w.heap.size ≤ F ∧ F < w3.heap.size ∧ w3.heap.size ≤ R7 ∧ U9 W F (n + 1) ∧ w.grownBy W none) := Lib.hid ⟨HF4.out.1.kq (Kp.of0 hgW []) (fun x hx => by cases hx), (hgW.block _ (gl HF4.out.2.1) (by simp)).trans HF4.out.2.1, HF4.out.2.2.1, HF4.out.2.2.2.1, HF4.out.2.2.2.2.1, HF4.out.2.2.2.2.2.1.kp (Kp.of0 hgW []) (by simp), HF4.out.2.2.2.2.2.2.1.trans hgW⟩
      clear hW hgW HF4
      (try simp only [Act.put, sA, sB, sC])
      refine t1 0 42 (.slice (some ⟨F, 0, none⟩) (n + 1) cF) hS ?_
      (try simp only [Act.put, sA, sB, sC])
      refine t1 1 43 (.slice ab n cb) hS ?_
      (try simp only [Act.put, sA, sB, sC])
      refine t2 2 44 (.int .i64 (n : Int)) (fun w' hw' => ?_) hS ?_
      · clear hw' hS
        go_simp
      (try simp only [Act.put, sA, sB, sC])
      refine t2 3 45 (.slice (some ⟨F, 0, none⟩) n cF) (fun w' hw' => ?_) hS ?_
      · clear hw' hS
        go_simp
      (try simp only [Act.put, sA, sB, sC])
      refine t2 4 46 (.string y) (fun w' hw' => ?_) hS ?_
      · have kf := HKS.out.1 w' hw'; clear hw' hS
        go_simp
      (try simp only [Act.put, sA, sB, sC])
      refine t1 5 47 (.slice ab n cb) hS ?_
      (try simp only [Act.put, sA, sB, sC])
      refine t2 6 48 (.string y) (fun w' hw' => ?_) hS ?_
      · have kf := HKS.out.2 w' hw'; clear hw' hS
        go_simp
      (try simp only [Act.put, sA, sB, sC])
      refine t2 7 49 (.bool true) (fun w' hw' => ?_) hS ?_
      · clear hw' hS
        go_simp
      (try simp only [Act.put, sA, sB, sC])
      refine t1 8 50 (.bool true) hS ?_
      (try simp only [Act.put, sA, sB, sC])
      refine t1 9 51 (.slice (some ⟨F, 0, none⟩) (n + 1) cF) hS ?_
      (try simp only [Act.put, sA, sB, sC])
      refine t1 10 52 (.slice ab n cb) hS ?_
      (try simp only [Act.put, sA, sB, sC])
      refine t2 11 53 (.int .i64 (n : Int)) (fun w' hw' => ?_) hS ?_
      · clear hw' hS
        go_simp
      (try simp only [Act.put, sA, sB, sC])
      refine t2 12 54 (.pointer (some ⟨F, n, none⟩)) (fun w' hw' => ?_) hS ?_
      · clear hw' hS
        go_simp
        intro hh
        omega
      (try simp only [Act.put, sA, sB, sC])
      refine t2 13 55 (.int .u8 167) (fun w' hw' => ?_) hS ?_
      · have kf := HKC.out w' hw'; clear hw' hS
        go_simp
      (try simp only [Act.put, sA, sB, sC])
      refine t2 14 56 (.bool true) (fun w' hw' => ?_) hS ?_
      · clear hw' hS
        go_simp
      (try simp only [Act.put, sA, sB, sC])
      refine t1 15 57 (.bool true) hS ?_
      (try simp only [Act.put, sA, sB, sC])
      refine t1 16 9 (.bool true) hS ?_
      (try simp only [Act.put, sA, sB, sC])
      refine wpL_done (by kernel_rfl) ?_ _
      clear hS
      have n1 : n + 1 ≤ 9223372036854775807 := by omega
      go_wp2
      go_loopw [10] (fun iv wr => ∃ t : Nat, t ≤ n + 1 ∧ iv = .int .i64 (t : Int) ∧ Hid (U9 wr F (n + 1) ∧ Kp [F] W wr)) (fun i _ => n + 1 - (intOf i).toNat)
      case atStart => exact ⟨0, Nat.zero_le _, rfl, Lib.hid ⟨HF6.out.2.2.2.2.2.1, Kp.refl _ _⟩⟩
      case round =>
        obtain ⟨t, ht, rfl, HT⟩ := hrel
        by_cases hlt : t < n + 1
        · obtain ⟨xv, c5⟩ := HT.out.1.cell hlt
          have z5 := HT.out.1.fr t
          go_wp2
          go_roundw
          case measure => simp [intOf]; omega
          exact ⟨t + 1, by omega, by go_num, Lib.hid ⟨HT.out.1.set, HT.out.2.set (by simp) _⟩⟩
        · obtain rfl : n + 1 = t := by omega
          have hgr : w.grownBy wr none := Kp.grown HF6.out.2.2.2.2.2.2 HT.out.2 (fun k hk => by simp at hk; rw [hk]; exact HF6.out.2.2.1)
          have HW : Hid (Fr w3.heap.size wr cX ka ia ba ∧ wr.heap[R7]? = some (.cells #[.slice ka nk kc, .int .i64 x1, .int .i64 x2, .int .i64 x3, .int .i64 x4, .slice ia ni ic, .slice ba nb bc] 27 (0, 0)) ∧ w.grownBy wr none ∧ R7 < wr.heap.size ∧ w3.heap.size ≤ R7) := Lib.hid (by
            have hh := (HT.out.2.block R7 (gl HF6.out.2.1) (by have := HF6.out.2.2.2.1; have := HF6.out.2.2.2.2.1; simp; omega)).trans HF6.out.2.1
            exact ⟨HF6.out.1.kq HT.out.2 (fun x hx => by simp at hx; rw [hx]; exact .inl HF6.out.2.2.2.1), hh, hgr, gl hh, HF6.out.2.2.2.2.1⟩)
          have hpo := HPO.out hm4 wr (HB.out.2.1.on hgr)
          clear HT hlt ht HF6 hgr n1
          go_wp2_with (first | (go_at_call 5; refine hpo.mono ?_; rintro e w5 ⟨hg5, oa, oc, oi, oj, ob, od, rfl, -, ho5⟩; refine Hid.out ?_))
          refine Lib.hid ?_
          go_wp2_with (with_reducible refine hold_st ?_)
          refine Lib.hid ?_
          refine store_lastc #[.slice oa mk oc, .int .i64 y1, .int .i64 y2, .int .i64 y3, .int .i64 y4, .slice oi mi oj, .slice ob mb od] ?hpb ?hvb ?hib ?hob ?h1b ?hKb
          case hpb => rfl
          case hvb => rfl
          case hib => kernel_rfl
          case hob => rfl
          case h1b => simp [Value.oneCell']
          obtain ⟨W5, hW5⟩ : ∃ W, W = w5.alloc (.cells #[.slice oa mk oc, .int .i64 y1, .int .i64 y2, .int .i64 y3, .int .i64 y4, .slice oi mi oj, .slice ob mb od] 27) := ⟨_, rfl⟩
          have hga := World.grownBy_alloc w5 (.cells #[.slice oa mk oc, .int .i64 y1, .int .i64 y2, .int .i64 y3, .int .i64 y4, .slice oi mi oj, .slice ob mb od] 27) none
          have hr11 := heap_alloc_new w5 (.cells #[.slice oa mk oc, .int .i64 y1, .int .i64 y2, .int .i64 y3, .int .i64 y4, .slice oi mi oj, .slice ob mb od] 27)
          rw [← hW5] at hga hr11 ⊢
          obtain ⟨R11, hR11⟩ : ∃ R, R = w5.heap.size := ⟨_, rfl⟩
          rw [← hR11] at hr11 ⊢
          have hD : mb = 0 ∨ ∃ D, ob = some ⟨D, 0, none⟩ ∧ wr.heap.size ≤ D ∧ D < R11 ∧ U3 W5 D mb ∧ mb ≤ od := by
            rcases ho5.2 with ⟨h0, h1⟩ | ⟨D, cap, cur, e, hB, hh, c1, c2, c3, c4⟩
            · exact .inl h1
            · injection e with e1 e2 e3
              exact .inr ⟨D, e1, hB, by rw [hR11]; exact gl hh, fun j hj => (by
                  have hh5 := (hga.block D (gl hh) (by simp)).trans hh
                  have hj2 : j < cur.size := by rw [c3]; exact Nat.lt_of_lt_of_le hj (Nat.mul_le_mul_right 3 c1)
                  exact ⟨by rw [cell_of_row _ _ (0 + j) _ _ _ hh5, Nat.zero_add]; simp [hj2], by simp [World.frozen?, hh5]⟩), by omega⟩
          have HW5 : Hid (Fr w3.heap.size W5 cX ka ia ba ∧ W5.heap[R7]? = some (.cells #[.slice ka nk kc, .int .i64 x1, .int .i64 x2, .int .i64 x3, .int .i64 x4, .slice ia ni ic, .slice ba nb bc] 27 (0, 0)) ∧ w.grownBy W5 none ∧ W5.heap[R11]? = some (.cells #[.slice oa mk oc, .int .i64 y1, .int .i64 y2, .int .i64 y3, .int .i64 y4, .slice oi mi oj, .slice ob mb od] 27 (0, 0)) ∧ R7 < wr.heap.size ∧ w.heap.size ≤ wr.heap.size ∧ wr.heap.size ≤ R11 ∧ w3.heap.size ≤ wr.heap.size) := Lib.hid (by
            have hgx := hg5.trans hga
            exact ⟨HW.out.1.kq (Kp.of0 hgx []) (fun x hx => by cases hx), (hgx.block _ (gl HW.out.2.1) (by simp)).trans HW.out.2.1, HW.out.2.2.1.trans hgx, hr11, HW.out.2.2.2.1, HW.out.2.2.1.size, by rw [hR11]; exact hg5.size, by have := HW.out.2.2.2.1; have := HW.out.2.2.2.2; omega⟩)
          have HD := Lib.hid hD
          obtain ⟨Z, hZ⟩ : ∃ Z : List Nat, (∀ z ∈ Z, wr.heap.size ≤ z ∧ z < R11) ∧ (0 < mb → ∃ D, ob = some ⟨D, 0, none⟩ ∧ D ∈ Z ∧ U3 W5 D mb ∧ mb ≤ od) := by
            rcases hD with h | ⟨D, h1, h2, h3, h4, h5⟩
            · exact ⟨[], fun z hz => (by cases hz), fun h0 => (by omega)⟩
            · exact ⟨[D], fun z hz => by simp at hz; rw [hz]; exact ⟨h2, h3⟩, fun _ => ⟨D, h1, by simp, h4, h5⟩⟩
          have HD := Lib.hid hZ
          have HFK : Hid (∀ (Z : List Nat) (V : World), (∀ z ∈ Z, wr.heap.size ≤ z) → Kp Z W5 V → Fr w3.heap.size V cX ka ia ba) := Lib.hid (fun Z V hZ hk => HW.out.1.kq ((Kp.of0 (hg5.trans hga) Z).trans hk) (fun x hx => .inr (hZ x hx)))
          clear hW5 hga hr11 hR11 hg5 ho5 hpo HW hD hZ
          generalize hB5 : wr.heap.size = B5 at HW5 HD HFK
          clear hB5
          go_upto_region 12 with fail
          go_wp2
          go_loopw [13] (fun iv wq => ∃ t : Nat, t ≤ mb ∧ iv = .int .i64 (t : Int) ∧ Hid ((0 < mb → ∃ D, ob = some ⟨D, 0, none⟩ ∧ D ∈ Z ∧ U3 wq D mb ∧ mb ≤ od) ∧ Kp Z W5 wq)) (fun i _ => mb - (intOf i).toNat)
          case atStart => exact ⟨0, Nat.zero_le _, rfl, Lib.hid ⟨HD.out.2, Kp.refl _ _⟩⟩
          case round =>
            obtain ⟨t, ht, rfl, HT⟩ := hrel
            have nZ : ∀ k, k < B5 ∨ R11 ≤ k → k ∉ Z := fun k hk hx => by have := HD.out.1 k hx; omega
            have hrq := (HT.out.2.block R11 (gl HW5.out.2.2.2.1) (nZ _ (.inr (Nat.le_refl _)))).trans HW5.out.2.2.2.1
            have y6 := cell_of_row wr R11 6 _ _ _ hrq
            have HRQ := Lib.hid hrq
            have NZ := Lib.hid nZ
            clear hrq nZ
            by_cases hlt : t < mb
            · obtain ⟨D, hob, hDZ, hU3, hod⟩ := HT.out.1 (by omega)
              subst hob
              have HU := Lib.hid (And.intro hDZ hU3)
              clear hDZ hU3
              go_wp2_with (with_reducible refine hold_st ?_)
              refine Lib.hid ?_
              have ht3 : wr.there D (t * 3) 3 := fun j hj => by
                have := HU.out.2 (t * 3 + j) (by omega)
                rwa [Nat.zero_add] at this
              refine wpList_store_mid rfl 32 _ _ rfl D (t * 3) #[.int .i64 0, .int .i64 0, .int .i64 0] (by first | rfl | (show Value.pointer _ = _; congr 3; omega)) rfl ht3 (by kernel_rfl) (by simp [Value.oneCell']) ?_
              clear ht3
              go_wp2
              go_roundw
              case measure => simp [intOf]; omega
              exact ⟨t + 1, by omega, by go_num, Lib.hid ⟨fun _ => ⟨D, rfl, HU.out.1, World.there_setCells HU.out.2 _ _ _, hod⟩, kp_setCells HU.out.1 _ _ _ HT.out.2⟩⟩
            · obtain rfl : mb = t := by omega
              have hgr : w.grownBy wr none := Kp.grown HW5.out.2.2.1 HT.out.2 (fun k hk => by have := (HD.out.1 k hk).1; have := HW5.out.2.2.2.2.2.1; omega)
              have HV : Hid (CodeAt wr cX ka ia ba ∧ wr.heap[R7]? = some (.cells #[.slice ka nk kc, .int .i64 x1, .int .i64 x2, .int .i64 x3, .int .i64 x4, .slice ia ni ic, .slice ba nb bc] 27 (0, 0)) ∧ w.grownBy wr none) := Lib.hid ⟨(HFK.out Z wr (fun z hz => (HD.out.1 z hz).1) HT.out.2).at_, (HT.out.2.block R7 (gl HW5.out.2.1) (NZ.out R7 (.inl HW5.out.2.2.2.2.1))).trans HW5.out.2.1, hgr⟩
              have hrb := HRB.out hn4 wr (HB.out.1.on hgr)
              clear HT hlt ht hgr HFK HW5 HD NZ
              go_wp2_with (first | (go_at_call 6; refine hrb.mono ?_; rintro e w6 ⟨hg6, ra, rc, ri, rj, rb, rd, rfl, hc6⟩; refine Hid.out ?_))
              refine Lib.hid ?_
              go_wp2_with (with_reducible refine hold_st ?_)
              refine Lib.hid ?_
              refine store_lastc #[.slice ra nk rc, .int .i64 x1, .int .i64 x2, .int .i64 x3, .int .i64 x4, .slice ri ni rj, .slice rb nb rd] ?hpc ?hvc ?hic ?hoc ?h1c ?hKc
              case hpc => rfl
              case hvc => rfl
              case hic => kernel_rfl
              case hoc => rfl
              case h1c => simp [Value.oneCell']
              obtain ⟨W6, hW6⟩ : ∃ W, W = w6.alloc (.cells #[.slice ra nk rc, .int .i64 x1, .int .i64 x2, .int .i64 x3, .int .i64 x4, .slice ri ni rj, .slice rb nb rd] 27) := ⟨_, rfl⟩
              have hga := World.grownBy_alloc w6 (.cells #[.slice ra nk rc, .int .i64 x1, .int .i64 x2, .int .i64 x3, .int .i64 x4, .slice ri ni rj, .slice rb nb rd] 27) none
              have hr14 := heap_alloc_new w6 (.cells #[.slice ra nk rc, .int .i64 x1, .int .i64 x2, .int .i64 x3, .int .i64 x4, .slice ri ni rj, .slice rb nb rd] 27)
              rw [← hW6] at hga hr14 ⊢
              have hr7 := ((hg6.trans hga).block R7 (gl HV.out.2.1) (by simp)).trans HV.out.2.1
              have hsa := HSA.out W6 ka kc ia ic ba bc ra rc ri rj rb rd (HV.out.1.on (hg6.trans hga)) (hc6.on hga)
              have HG6 := Lib.hid (HV.out.2.2.trans (hg6.trans hga))
              generalize hR14 : w6.heap.size = R14 at hr14 ⊢
              have u0 := cell_of_row W6 R7 0 _ _ _ hr7
              have u1 := cell_of_row W6 R7 1 _ _ _ hr7
              have u2 := cell_of_row W6 R7 2 _ _ _ hr7
              have u3 := cell_of_row W6 R7 3 _ _ _ hr7
              have u4 := cell_of_row W6 R7 4 _ _ _ hr7
              have u5 := cell_of_row W6 R7 5 _ _ _ hr7
              have u6 := cell_of_row W6 R7 6 _ _ _ hr7
              have v0 := cell_of_row W6 R14 0 _ _ _ hr14
              have v1 := cell_of_row W6 R14 1 _ _ _ hr14
              have v2 := cell_of_row W6 R14 2 _ _ _ hr14
              have v3 := cell_of_row W6 R14 3 _ _ _ hr14
              have v4 := cell_of_row W6 R14 4 _ _ _ hr14
              have v5 := cell_of_row W6 R14 5 _ _ _ hr14
              have v6 := cell_of_row W6 R14 6 _ _ _ hr14
              clear hW6 hga hr14 hr7 hg6 hc6 HV hrb hR14 y6 HRQ
              go_wp2_with (first | (go_at_call 7; refine (hnum _ _).mono ?_; rintro e w' ⟨rfl, hw'⟩; obtain rfl := hw'.symm) | (go_at_call 8; refine hsa.mono ?_; rintro e w7 ⟨rfl, hg7⟩; have H7 := Lib.hid (HG6.out.trans hg7); clear hg7 hsa u0 u1 u2 u3 u4 u5 u6 v0 v1 v2 v3 v4 v5 v6))
              go_ret
              exact ⟨rfl, H7.out⟩
end Go.Proofs.YtfbhflpjhbemlaaGreat
