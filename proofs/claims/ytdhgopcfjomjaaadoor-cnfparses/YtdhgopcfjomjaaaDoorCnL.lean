/- cnf.Of. -/
import Derived.Test.YtdhgopcfjomjaaaDoorCnK
namespace Go.Proofs.YtdhgopcfjomjaaaDoor
open Go.RowKit Go.Maps Go.WideMaps Go.Shelf
open Cn (I64)
attribute [local go_sem] Oper.semAt_some

theorem makeFunc_run (fn : Fn) (args cap : Array Value) (w : World) : (Instr.makeFunc fn args cap).run Tryd.prog w = .ok (.func fn args cap) w := by rfl
theorem told_any (na : Option Addr) (n nc : Nat) (wa : Option Addr) (m mc : Nat) (w : World) : Calls Tryd.prog 30 #[.agg #[.slice na n nc], .slice wa m mc] w fun e w' => e = .returned (.func (.func 41) #[] #[.pointer (some ⟨w.heap.size, 0, none⟩), .pointer (some ⟨w.heap.size + 1, 0, none⟩)]) ∧ w' = (w.alloc (.cells #[.slice na n nc] 35)).alloc (.cells #[.slice wa m mc] 36) := by
  go_enter Tryd.func30, Tryd.ntmps30
  go_wp2
  go_ret
  exact ⟨rfl, rfl⟩

/-- what Of answers -/
def OfP (w : World) (vars : Int) (L : List (List Int)) (E : Int) (e : Ending) (w' : World) : Prop :=
  ∃ (va : Option Addr) (c : Nat), e = .returned (.tuple #[.agg #[.int .i64 vars, .slice va L.length c], .int .i64 E]) ∧ L.length ≤ c ∧ RowsIn (w.heap.size ≤ ·) w' va L ∧ w.grownBy w' none
theorem al3 (W : World) (a b c : Obj) : (((W.alloc a).alloc b).alloc c).heap[W.heap.size]? = some a ∧ (((W.alloc a).alloc b).alloc c).heap[W.heap.size + 1]? = some b ∧ (((W.alloc a).alloc b).alloc c).heap[W.heap.size + 2]? = some c := by
  have h1 := al2 W a b
  have h2 := heap_alloc_new ((W.alloc a).alloc b) c
  simp only [World.size_alloc] at h2
  exact ⟨(heap_alloc_old _ _ (by simp; omega)).trans h1.1, (heap_alloc_old _ _ (by simp)).trans h1.2, h2⟩

theorem owns_form {w : World} {B n : Nat} {T : TypeId} {v : Value} {xs : List Value} (h : w.ownsRow B T 1 v n xs) : ∃ a c, v = .slice a n c := by
  rcases h.2 with ⟨rfl, h0⟩ | ⟨g, cap, cur, rfl, _⟩
  · exact ⟨none, 0, by rw [h0]⟩
  · exact ⟨_, _, rfl⟩
theorem info_sl : (Tryd.prog.info? 36).map (fun i => (i.zero, i.size, i.bytes)) = some (some (.slice none 0 0), 1, 24) := by kernel_rfl
theorem add_w (z xl y : Nat) (h : y = z + (xl + 1)) (hb : z + (xl + 1) ≤ 60000) : wrap64 ((z : Int) + ((xl : Int) + 1)) = (y : Int) ∧ IntKind.i64.wrap ((z : Int) + ((xl : Int) + 1)) = (y : Int) := by
  have h1 : ((z : Int) + ((xl : Int) + 1)) = (y : Int) := by omega
  rw [h1]
  have h2 : I64 (y : Int) := by unfold I64; omega
  exact ⟨w64_small h2, i64_small h2⟩
theorem ofC_wt2 (n : List Cn.Gt) (ws : List Int) : Cn.wt (Cn.ofC n ws) ≤ 10 * n.length + 2 * ws.length := Cn.ofC_wt n ws
set_option maxRecDepth 100000 in
set_option maxHeartbeats 4000000 in
theorem of_ok (w : World) (na : Option Addr) (n : List Cn.Gt) (nc : Nat) (wa : Option Addr) (ws : List Int) (wc : Nat) (hG : GatesAt w na n) (hW : NumsAt w wa ws) (hnl : n.length ≤ 5000) (hwl : ws.length ≤ 1000) (hne : Cn.netE n = 0) (hwo : Cn.wiresOk n ws = true) :
    Calls Tryd.prog 16 #[.agg #[.slice na n.length nc], .slice wa ws.length wc] w (OfP w n.length (Cn.ofC n ws) 0) := by
  obtain ⟨N, hN⟩ : ∃ N, N = n.length := ⟨_, rfl⟩
  obtain ⟨M, hM⟩ : ∃ M, M = ws.length := ⟨_, rfl⟩
  obtain ⟨W0, hW0⟩ : ∃ W0, W0 = ((w.alloc (.cells #[.slice na N nc] 35)).alloc (.cells #[.int .i64 0, .slice none 0 0] 24)).alloc (.cells #[.int .i64 0] 28) := ⟨_, rfl⟩
  have hg0 : w.grownBy W0 none := by rw [hW0]; exact (World.grownBy_alloc _ _ none).trans ((World.grownBy_alloc _ _ none).trans (World.grownBy_alloc _ _ none))
  have ha := al3 w (.cells #[.slice na N nc] 35) (.cells #[.int .i64 0, .slice none 0 0] 24) (.cells #[.int .i64 0] 28)
  rw [← hW0] at ha
  have hck := gcheck_any W0 na n nc (hG.on hg0) (by omega)
  rw [← hN] at hck hnl ⊢
  rw [← hM] at hwl ⊢
  rw [hne] at hck
  have HCK := Lib.hid hck
  have HGW := Lib.hid (And.intro hG (And.intro hW (And.intro hne hwo)))
  have HA := Lib.hid (And.intro ha hg0)
  have HN := Lib.hid (And.intro hN hM)
  have htd := fun V => told_any na N nc wa M wc V
  clear hN hM hck hG hW ha hg0 hne hwo
  refine (callsIn_wide (n := 9)).1 ?_
  refine callsIn_of_wp_marks Tryd.func16 rfl trivial ?_ rfl
  simp only [Tryd.ntmps16, List.size_toArray, List.length_cons, List.length_nil, Nat.reduceAdd, Nat.reduceSub, Array.replicate_succ, Array.replicate_zero, List.push_toArray, List.append_toArray, List.nil_append, List.cons_append]
  gi_wp2_with (refine ⟨trivial, ?_⟩; rw [← hW0]; gi_at_call 29; refine (callsIn_wide.2 HCK.out).mono ?_; rintro e w1 ⟨rfl, hg1⟩; have H1 := Lib.hid hg1; have d0 : w1.cell? ⟨w.heap.size, 0, none⟩ = some (.slice na N nc) := cell_of_row w1 w.heap.size 0 _ _ _ ((hg1.block _ (gl HA.out.1.1) (by simp)).trans HA.out.1.1); have l0 : w.heap.size < w1.heap.size := Nat.lt_of_lt_of_le (gl HA.out.1.1) hg1.size; clear hg1 hW0)
  have hn64 : N ≤ 9223372036854775807 := by omega
  have hm64 : M ≤ 9223372036854775807 := by omega
  have hw2 : wrap64 (2 * (N : Int)) = 2 * (N : Int) := by unfold wrap64; omega
  gi_loopw [20] (fun iv wr => ∃ t : Nat, t ≤ M ∧ iv = .int .i64 (t : Int) ∧ w1 = wr) (fun iv _ => M - (intOf iv).toNat)
  case atStart => exact ⟨0, Nat.zero_le _, rfl, rfl⟩
  case round =>
    obtain ⟨t, ht, rfl, rfl⟩ := hrel
    by_cases hlt : t < M
    · obtain ⟨x, hx⟩ : ∃ x, ws[t]? = some x := ⟨_, List.getElem?_eq_getElem (by rw [← HN.out.2]; exact hlt)⟩
      obtain ⟨b, o, rfl, hc⟩ := (HGW.out.2.1.on (HA.out.2.trans H1.out)) t x hx
      have hxb : 0 ≤ x ∧ x < 2 * (N : Int) := by
        have := List.all_eq_true.1 HGW.out.2.2.2 x (List.mem_of_getElem? hx)
        rw [← HN.out.1] at this
        simpa using this
      have e1 : decide (x < 0) = false := xF (by omega)
      have e2 : decide (2 * (N : Int) ≤ x) = false := xF (by omega)
      clear hx hxb
      gi_wp2
      exact ⟨⟨t + 1, by omega, by go_num, trivial⟩, by simp [intOf]; omega⟩
    · obtain rfl : t = M := by omega
      clear hw2
      gi_wp2_with (refine ⟨trivial, ?_⟩; gi_at_call 30; refine (callsIn_wide.2 (htd _)).mono ?_; rintro e w2 ⟨rfl, hw2⟩; refine Hid.out ?_)
      obtain ⟨W2, hW2⟩ : ∃ W2, W2 = (((w1.alloc (.cells #[.int .i64 (N : Int), .slice none 0 0] 24)).alloc (.cells #[.int .i64 0] 3)).alloc (.cells #[.slice na N nc] 35)).alloc (.cells #[.slice wa t wc] 36) := ⟨_, rfl⟩
      have hg2 : w1.grownBy W2 none := by rw [hW2]; exact (World.grownBy_alloc _ _ none).trans ((World.grownBy_alloc _ _ none).trans ((World.grownBy_alloc _ _ none).trans (World.grownBy_alloc _ _ none)))
      have ha2 := al4 w1 (.cells #[.int .i64 (N : Int), .slice none 0 0] 24) (.cells #[.int .i64 0] 3) (.cells #[.slice na N nc] 35) (.cells #[.slice wa t wc] 36)
      have hs2 : W2.heap.size = w1.heap.size + 4 := by rw [hW2]; simp
      rw [← hW2] at ha2 ⊢
      have H2 := Lib.hid (And.intro hg2 (And.intro ha2 hs2))
      clear hW2 hw2 hg2 ha2 hs2 htd d0
      refine Lib.hid ?_
      gi_wp2
      refine wpIn_rangeFunc_c (by omega) (gf := 41) (lb := #[.pointer (some ⟨w1.heap.size + 1 + 1, 0, none⟩), .pointer (some ⟨w1.heap.size + 1 + 1 + 1, 0, none⟩)]) rfl (enters_of Tryd.func41 (by kernel_rfl) rfl) (told_seq _ (w1.heap.size + 1 + 1) (w1.heap.size + 1 + 1 + 1) na n nc wa ws wc HGW.out.2.2.1 HGW.out.2.2.2 (by rw [← HN.out.2]; omega)) rfl
        (OfI W2 w1.heap.size (w1.heap.size + 1) (N : Int)) OfI.fresh OfI.drop ?i3 ?i4 ?h0
        (fun ca cc x => { tmps := #[.agg #[.slice na N nc], .slice wa t wc, .pointer (some ⟨w.heap.size, 0, none⟩), undef, .pointer (some ⟨w.heap.size + 1, 0, none⟩), .pointer (some ⟨w.heap.size + 1 + 1, 0, none⟩), .int .i64 0, undef, u8, .pointer (some ⟨w1.heap.size, 0, none⟩), .pointer (some ⟨w1.heap.size + 1, 0, none⟩), .slice ca x.length cc, .agg #[.slice na N nc], .int .i64 0, .int .i64 0, .bool false, undef, undef, .slice wa t wc,
            .int .i64 (t : Int), .int .i64 (t : Int), .bool false, u22, u23, u24, u25, u26, u27, u28, u29, u30, u31, u32, u33, u34, u35, .pointer (some ⟨w.heap.size, 0, none⟩), .slice na N nc, .int .i64 (N : Int), .agg #[.int .i64 (N : Int), .slice none 0 0], .agg #[.slice na N nc], .slice wa t wc, .func (.func 41) #[] #[.pointer (some ⟨w1.heap.size + 1 + 1, 0, none⟩), .pointer (some ⟨w1.heap.size + 1 + 1 + 1, 0, none⟩)], .slice ca x.length cc, undef, undef, undef, undef, undef, undef, undef, undef, undef, undef, undef, undef, undef, undef], defers := [] })
        ?assign ?body ?done
      case i3 =>
        rintro A s W ⟨v, xs, _, h⟩
        have hk := h.kp
        have hsz := H2.out.2.2
        have hb := H2.out.2.1
        have hgW : w.grownBy W none := Kp.grown (HA.out.2.trans (H1.out.trans H2.out.1)) hk (fun k hk => by simp at hk; omega)
        unfold LkT
        rw [← HN.out.1, ← HN.out.2]
        exact ⟨(hk.block _ (by omega) (by simp; omega)).trans hb.2.2.1, (hk.block _ (by omega) (by simp; omega)).trans hb.2.2.2, HGW.out.1.on hgW, HGW.out.2.1.on hgW⟩
      case i4 =>
        intro A s W W' h hA hg
        exact h.loop hA (by omega) hg
      case h0 =>
        have hsz := H2.out.2.2
        exact ⟨.slice none 0 0, [], rfl, Kp.refl _ _, ⟨by omega, by omega, by omega⟩, H2.out.2.1.1, H2.out.2.1.2.1, World.ownsRow_nil _ _ _ _, (fun k e => by cases e), (fun x hx => by cases hx), (fun k hk => by cases hk)⟩
      case assign =>
        intro l1 ca cc x W K hK
        simp
        gi_wp2
        exact hK
      case body =>
        rintro l1 A pre ca cc x W ⟨v, xs, rfl, h⟩ hwt hn hc h3 h64
        have hwT := ofC_wt2 n ws
        have hz1 := Cn.wt_app (clsOf xs) [x]
        rw [Cn.wt_one] at hz1
        rw [← HN.out.1, ← HN.out.2] at hwT
        obtain ⟨z, hz⟩ : ∃ z, z = Cn.wt (clsOf xs) := ⟨_, rfl⟩
        obtain ⟨xl, hxl⟩ : ∃ xl, xl = x.length := ⟨_, rfl⟩
        rw [← hz, ← hxl] at hz1
        rw [hz1] at hwt
        have rz := h.rz
        rw [← hz] at rz
        have bz0 : W.cell? ⟨w1.heap.size + 1, 0, none⟩ = some (.int .i64 (z : Int)) := cell_of_row _ _ 0 _ _ _ rz
        have fz0 := frozen_of_row _ _ 0 _ _ rz
        have hwe := fun V => weight_any ca xl cc (by omega) V
        have hzb : z + (xl + 1) ≤ 60000 := by omega
        have hzl := Cn.wt_len (clsOf xs)
        rw [clsOf_len, ← hz] at hzl
        have HZ := Lib.hid (And.intro hz (And.intro hxl (And.intro hz1 hzl)))
        have HR := Lib.hid (And.intro h (And.intro hn (And.intro hc (And.intro h3 h64))))
        obtain ⟨y, hy⟩ : ∃ y, y = z + (xl + 1) := ⟨_, rfl⟩
        have hw3 := (add_w z xl y hy (by omega)).1
        have hw4 := (add_w z xl y hy (by omega)).2
        have HY := Lib.hid (And.intro hy hzb)
        rw [← hxl]
        clear h hn hc h3 h64 hwT hz1 hwt hz hxl rz hzb hzl hy
        gi_wp2
        refine region_inZ (S := fun V' => V' = W.drew) (Z := [4]) (by kernel_rfl) (by rintro ⟨_, _, hlo9⟩; have h9 := hlo9.1; cases h9) (by kernel_rfl) ?_
        refine wpL_as (fun V hV => ?_)
        rw [← hV]
        have b0 : V.cell? ⟨w1.heap.size + 1, 0, none⟩ = some (.int .i64 (z : Int)) := by rw [hV]; exact (gdrew W none).cell bz0 (by simp)
        have f0 : V.frozen? ⟨w1.heap.size + 1, 0, none⟩ = false := by rw [hV]; exact (frozen_of_block rfl).trans fz0
        have HV := Lib.hid hV
        have hS : V = V := rfl
        clear hV bz0 fz0
        (try simp only [Act.put, sA, sB, sC])
        refine t2 0 44 (.int .i64 (z : Int)) (fun w' hw' => ?_) hS ?_
        · subst hw'; go_simp
        (try simp only [Act.put, sA, sB, sC])
        refine t2 1 45 (.slice ca xl cc) (fun w' hw' => ?_) hS ?_
        · subst hw'; go_simp
        (try simp only [Act.put, sA, sB, sC])
        refine wpL_call (i := 2) (d := 46) (R := fun v w' => v = .int .i64 ((xl : Int) + 1) ∧ w' = V) (by kernel_rfl) rfl (by kernel_rfl) (by kernel_rfl) (by kernel_rfl) ((hwe V).mono fun e w' he => ⟨_, he.1, rfl, he.2⟩) (fun v w' h => h.2) (fun v w' h => ?_)
        rw [h.1, h.2]
        clear h w' v
        (try simp only [Act.put, sA, sB, sC])
        refine t2 3 47 (.int .i64 (y : Int)) (fun w' hw' => ?_) hS ?_
        · subst hw'; go_simp
        (try simp only [Act.put, sA, sB, sC])
        refine wpL_skip (i := 4) (w' := V.setCell ⟨w1.heap.size + 1, 0, none⟩ (.int .i64 (y : Int))) (by kernel_rfl) rfl rfl (by kernel_rfl) (by go_simp) (fun hz => absurd (by simp) hz) ?_
        refine wpL_done (by kernel_rfl) ?_ _
        obtain ⟨W3, hW3⟩ : ∃ W3, W3 = V.setCell ⟨w1.heap.size + 1, 0, none⟩ (.int .i64 (y : Int)) := ⟨_, rfl⟩
        have hk3 : Kp [w1.heap.size + 1] W W3 := by rw [hW3, HV.out]; exact ((Kp.refl _ W).drew).set (by simp) _
        have hr3 : W3.heap[w1.heap.size + 1]? = some (.cells #[.int .i64 (y : Int)] 3 (0, 0)) := by rw [hW3]; exact heap_setCell_same V (w1.heap.size + 1) 0 _ _ _ (by rw [HV.out]; exact HR.out.1.rz)
        have q0 : W3.cell? ⟨w1.heap.size + 1, 0, none⟩ = some (.int .i64 (y : Int)) := cell_of_row _ _ 0 _ _ _ hr3
        have hf3 := (hk3.block w1.heap.size (gl HR.out.1.rf) (by simp)).trans HR.out.1.rf
        have q1 : W3.cell? ⟨w1.heap.size, 1, none⟩ = some v := cell_of_row _ _ 1 _ _ _ hf3
        have f1 := frozen_of_row _ _ 1 _ _ hf3
        have e5 : decide ((200000 : Int) < (y : Int)) = false := xF (by have := HY.out; omega)
        rw [← hW3]
        have H3 := Lib.hid (And.intro hk3 (And.intro hr3 hf3))
        have l3 : w1.heap.size < W3.heap.size := gl hf3
        clear hW3 hk3 hr3 hf3 b0 f0 hw3 hw4 hwe
        have hown : (W3.alloc (.cells #[.slice ca xl cc] 36)).ownsRow W2.heap.size 36 1 v xs.length (clV xs) := (owns_on HR.out.1.own (fun k e => H3.out.1.block k (HR.out.1.own.lt k e).2 (by simp; intro e2; have := (HR.out.1.own.lt k e).1; have := H2.out.2.2; omega))).alloc _
        have hnr := heap_alloc_new W3 (.cells #[.slice ca xl cc] 36)
        have hfa := heap_alloc_old W3 (.cells #[.slice ca xl cc] 36) l3
        have hvb : v.ownBlock ≠ some w1.heap.size := fun e => by have := (HR.out.1.own.lt _ e).1; have := H2.out.2.2; omega
        have HO := Lib.hid (And.intro hown (And.intro hnr (And.intro hfa hvb)))
        obtain ⟨it, hit, hz, hsz, hby⟩ := info_parts info_sl
        have hl1 := HZ.out.2.2.2
        have hl2 := HY.out.2
        have hb1 : xs.length + 1 ≤ 60001 := by omega
        have hsz3 : W2.heap.size ≤ (W3.alloc (.cells #[.slice ca xl cc] 36)).heap.size := by have h7 := H3.out.1.size; have h8 := HR.out.1.kp.size; rw [World.size_alloc]; omega
        have hone : ∀ u ∈ [Value.slice ca xl cc], u.oneCell' = true := fun u hu => by rw [List.mem_singleton.1 hu]; rfl
        have hnews : ∀ j u, [Value.slice ca xl cc][j]? = some u → (W3.alloc (.cells #[.slice ca xl cc] 36)).cell? ((⟨W3.heap.size, 0, none⟩ : Addr).add j) = some u := fun j u hu => by
          cases j with
          | zero => simp at hu; subst hu; rw [addr_at]; exact cell_of_row _ _ 0 _ _ _ hnr
          | succ j => simp at hu
        have b63 : xs.length + 1 ≤ maxLen := by unfold maxLen; omega
        have bby : (xs.length + 1) * 24 ≤ 140737488355328 := by omega
        have HB := Lib.hid (And.intro hone (And.intro hnews (And.intro b63 (And.intro bby hsz3))))
        clear hown hnr hfa hvb hl1 hl2 hone hnews b63 bby hsz3
        gi_wp2_with (gi_at_builtin; refine wpListIn_append_own_at _ rfl _ _ 22 rfl W2.heap.size 36 it _ 1 24 Tryd.underlying22 hit hz hsz hby rfl (by decide) v xs.length (clV xs) rfl HO.out.1 ⟨W3.heap.size, 0, none⟩ 1 1 [.slice ca xl cc] rfl rfl HB.out.2.1 HB.out.1 HB.out.2.2.1 HB.out.2.2.2.1 HB.out.2.2.2.2 ?_; intro v' w4 ho4 hg4 _ hat4; obtain ⟨a4, c4, hv4⟩ := owns_form ho4; have hf4 := (hg4.block w1.heap.size (by rw [World.size_alloc]; omega) (fun e => HO.out.2.2.2 e.symm)).trans (HO.out.2.2.1.trans H3.out.2.2); have g1 : w4.cell? ⟨w1.heap.size, 1, none⟩ = some v := cell_of_row _ _ 1 _ _ _ hf4; have g2 := frozen_of_row w4 w1.heap.size 1 _ _ hf4; have H4 := Lib.hid (And.intro ho4 (And.intro hg4 (And.intro hat4 hf4))); clear ho4 hg4 hat4 hf4; subst hv4)
        have hcl : clsOf (xs ++ [(ca, cc, x)]) = clsOf xs ++ [x] := by simp [clsOf]
        have hnx := HR.out.1.next (W1 := W3) (W2 := W3.alloc (.cells #[.slice ca xl cc] 36)) (W3 := w4) (W4 := w4.setCell ⟨w1.heap.size, 1, none⟩ (.slice a4 (xs.length + 1) c4)) (v' := .slice a4 (xs.length + 1) c4) HR.out.2.1 HR.out.2.2.1 HR.out.2.2.2.1 HR.out.2.2.2.2 H3.out.1
          (by rw [hcl, HZ.out.2.2.1, ← HY.out.1]; exact H3.out.2.1) (World.grownBy_alloc _ _ none) (by rw [← HZ.out.2.1]; exact H4.out.1) H4.out.2.1 H4.out.2.2.1 ((Kp.refl _ w4).set (by simp) _) (heap_setCell_same _ _ 1 _ _ _ H4.out.2.2.2)
        exact ⟨⟨_, _, hcl, hnx.1⟩, hnx.2⟩
      case done =>
        rintro W ⟨v, xs, hxs, h⟩ hK
        obtain ⟨a5, c5, hv5⟩ := owns_form h.own
        subst hv5
        have hk := h.kp
        have hsz := H2.out.2.2
        have l2 : w.heap.size + 2 < w1.heap.size := Nat.lt_of_lt_of_le (gl HA.out.1.2.2) H1.out.size
        have c0 : W.cell? ⟨w1.heap.size, 0, none⟩ = some (.int .i64 (N : Int)) := cell_of_row _ _ 0 _ _ _ h.rf
        have c1 : W.cell? ⟨w1.heap.size, 1, none⟩ = some (.slice a5 xs.length c5) := cell_of_row _ _ 1 _ _ _ h.rf
        have r1 : W.heap[w.heap.size + 1]? = some (.cells #[.int .i64 0, .slice none 0 0] 24 (0, 0)) := (hk.block _ (by omega) (by simp; omega)).trans (((H1.out.trans H2.out.1).block _ (gl HA.out.1.2.1) (by simp)).trans HA.out.1.2.1)
        have r2 : W.heap[w.heap.size + 1 + 1]? = some (.cells #[.int .i64 0] 28 (0, 0)) := (hk.block _ (by omega) (by simp; omega)).trans (((H1.out.trans H2.out.1).block _ (gl HA.out.1.2.2) (by simp)).trans HA.out.1.2.2)
        have d0 := frozen_of_row _ _ 0 _ _ r1
        have d1 := frozen_of_row _ _ 1 _ _ r1
        have d2 := frozen_of_row _ _ 0 _ _ r2
        have e0 := cell_of_row _ _ 0 _ _ _ r1
        have e1 := cell_of_row _ _ 1 _ _ _ r1
        have e2 := cell_of_row _ _ 0 _ _ _ r2
        have HD := Lib.hid (And.intro h (And.intro hxs (And.intro r1 r2)))
        clear h hxs r1 r2 hk hsz
        gi_wp2
        obtain ⟨Wf, hWf⟩ : ∃ Wf, Wf = ((W.setCell ⟨w.heap.size + 1, 0, none⟩ (.int .i64 (N : Int))).setCell ⟨w.heap.size + 1, 1, none⟩ (.slice a5 xs.length c5)).setCell ⟨w.heap.size + 1 + 1, 0, none⟩ (.int .i64 0) := ⟨_, rfl⟩
        obtain ⟨h, hxs, r1, r2⟩ := HD.out
        have hsz := H2.out.2.2
        have hkf : Kp [w.heap.size + 1, w.heap.size + 1 + 1] W Wf := by rw [hWf]; exact (((Kp.refl _ W).set (by simp) _).set (by simp) _).set (by simp) _
        have p1 : Wf.heap[w.heap.size + 1]? = some (.cells #[.int .i64 (N : Int), .slice a5 xs.length c5] 24 (0, 0)) := by
          rw [hWf, heap_setCell_other _ _ _ _ (by simp)]
          exact heap_setCell_same _ _ 1 _ _ _ (heap_setCell_same _ _ 0 _ _ _ r1)
        have p2 : Wf.heap[w.heap.size + 1 + 1]? = some (.cells #[.int .i64 0] 28 (0, 0)) := by
          rw [hWf]
          exact heap_setCell_same _ _ 0 _ _ _ ((heap_setCell_other _ _ (w.heap.size + 1 + 1) _ (by simp)).trans ((heap_setCell_other _ _ (w.heap.size + 1 + 1) _ (by simp)).trans r2))
        have hKf : Wf.heap[W2.heap.size]? = some (.deferred (some [])) := (hkf.block _ (gl hK) (by simp; omega)).trans hK
        rw [← hWf]
        refine ⟨by simp, .inl ⟨_, _, rfl, run_takeDeferred hKf, ?_⟩⟩
        have hgp := grownBy_putObj' Wf W2.heap.size (.deferred none)
        have z1 := (hgp.block _ (gl p1) (by simp; omega)).trans p1
        have z2 := (hgp.block _ (gl p2) (by simp; omega)).trans p2
        obtain ⟨_, hc5, hri⟩ := h.rows (by simp)
        have hrz : RowsIn (w.heap.size ≤ ·) (Wf.putObj W2.heap.size (.deferred none)) a5 (Cn.ofC n ws) := by
          rw [← hxs]
          refine (hri.onLt (fun k hl hk => ?_)).mono (fun k hk => by omega)
          exact (hgp.block k (Nat.lt_of_lt_of_le hl hkf.size) (by simp; omega)).trans (hkf.block k hl (by simp; omega))
        have hgz : w.grownBy (Wf.putObj W2.heap.size (.deferred none)) none := by
          have q1 : w.grownBy W none := Kp.grown (HA.out.2.trans (H1.out.trans H2.out.1)) h.kp (fun k hk => by simp at hk; omega)
          have q2 : w.grownBy Wf none := Kp.grown q1 hkf (fun k hk => by simp at hk; omega)
          exact grown_ov q2 hgp (fun k e => by cases e; omega)
        have hlen : xs.length = (Cn.ofC n ws).length := by rw [← hxs, clsOf_len]
        generalize (Wf.putObj W2.heap.size (.deferred none)) = Wz at z1 z2 hrz hgz ⊢
        have y0 : Wz.cell? ⟨w.heap.size + 1, 0, none⟩ = some (.int .i64 (N : Int)) := cell_of_row _ _ 0 _ _ _ z1
        have y1 : Wz.cell? ⟨w.heap.size + 1, 1, none⟩ = some (.slice a5 xs.length c5) := cell_of_row _ _ 1 _ _ _ z1
        have y2 : Wz.cell? ⟨w.heap.size + 1 + 1, 0, none⟩ = some (.int .i64 0) := cell_of_row _ _ 0 _ _ _ z2
        have HF : Hid (OfP w N (Cn.ofC n ws) 0 (.returned (.tuple #[.agg #[.int .i64 (N : Int), .slice a5 xs.length c5], .int .i64 0])) Wz) := Lib.hid ⟨a5, c5, by rw [hlen], by rw [← hlen]; exact hc5, hrz, hgz⟩
        clear h hxs r1 r2 hsz hkf p1 p2 hKf hWf hgp z1 z2 hc5 hri hrz hgz hlen
        simp [LeavesInM, LeavesIn, results, Tryd.results16, go_sem, y0, y1, y2]
        exact HF.out
end Go.Proofs.YtdhgopcfjomjaaaDoor
