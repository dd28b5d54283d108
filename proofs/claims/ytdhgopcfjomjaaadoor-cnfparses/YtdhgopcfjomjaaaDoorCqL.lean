/- cnf: the reader: formula. -/
import Derived.Test.YtdhgopcfjomjaaaDoorCqK
namespace Go.Proofs.YtdhgopcfjomjaaaDoor
open Go.RowKit Go.Maps Go.WideMaps Go.Shelf
open Go.Lib hiding intOf run_convert_string_bytes
open Cn (I64)
attribute [local go_sem] Oper.semAt_some

theorem clauses_any (rb : Nat) (c : Int) (w : World) : Calls Tryd.prog 49 #[.pointer (some ⟨rb, 0, none⟩), .int .i64 c] w fun e w' => e = .returned (.func (.func 56) #[] #[.pointer (some ⟨w.heap.size + 1, 0, none⟩), .pointer (some ⟨w.heap.size, 0, none⟩)]) ∧ w' = (w.alloc (.cells #[.pointer (some ⟨rb, 0, none⟩)] 79)).alloc (.cells #[.int .i64 c] 3) := by
  go_enter Tryd.func49, Tryd.ntmps49
  go_wp2
  go_ret
  exact ⟨rfl, rfl⟩

namespace Cn
/-- a number and what stands behind it: the number, the rest, bad -/
def ahP (r : List UInt8) (b : Bool) (p : List UInt8) : Int × List UInt8 × Bool := (cntVal (digs r), trimPrefix (trimLeftS r cs10) p, b || cntBad (digs r) || !hasPrefix (trimLeftS r cs10) p)
theorem ah_len (r : List UInt8) (b : Bool) (p : List UInt8) : (ahP r b p).2.1.length ≤ r.length := Nat.le_trans (trimP_len _ _) (trimL_len _)
/-- what formula reads: variables, clauses, the rest, bad -/
def formP (s : List UInt8) : Int × List (List Int) × List UInt8 × Bool :=
  let b1 := false || !hasPrefix s hd6
  let p1 := ahP (trimPrefix s hd6) b1 [32]
  let p2 := ahP p1.2.1 p1.2.2 [10]
  let t := csGo p2.1.toNat [] p2.2.1 p2.2.2
  (p1.1, t.1, t.2.1, if t.2.1 = [] then t.2.2 else true)
end Cn

set_option maxRecDepth 100000 in
set_option maxHeartbeats 4000000 in
theorem formula_any (w : World) (rb : Nat) (s : List UInt8) (h : Rd w rb s false) (hl : s.length ≤ 2000000) (he : Errs w) (hne : 1 ≠ rb ∧ 2 ≠ rb) :
    Calls Tryd.prog 37 #[.pointer (some ⟨rb, 0, none⟩)] w fun e w' => ∃ (va : Option Addr) (c : Nat), e = .returned (.agg #[.int .i64 (Cn.formP s).1, .slice va (Cn.formP s).2.1.length c]) ∧ (Cn.formP s).2.1.length ≤ c ∧ RowsIn (w.heap.size ≤ ·) w' va (Cn.formP s).2.1 ∧ Rd w' rb (Cn.formP s).2.2.1 (Cn.formP s).2.2.2 ∧ Kp [rb] w w' := by
  obtain ⟨W0, hW0⟩ : ∃ W0, W0 = w.alloc (.cells #[.int .i64 0, .slice none 0 0] 24) := ⟨_, rfl⟩
  have hg0 : w.grownBy W0 none := by rw [hW0]; exact World.grownBy_alloc _ _ _
  have hb0 : W0.heap[w.heap.size]? = some (.cells #[.int .i64 0, .slice none 0 0] 24 (0, 0)) := by rw [hW0]; exact heap_alloc_new _ _
  have hlt := gl h
  have hE : ∀ V, Kp [rb] w V → Errs V := fun V hk => he.kp hk (fun k hk => by rw [List.mem_singleton] at hk; rw [hk]; exact hne)
  have hw1 := word_any W0 rb s hd6 false (h.on hg0)
  have hl1 := Cn.trimP_len s hd6
  obtain ⟨F, hF⟩ : ∃ F, F = Cn.formP s := ⟨_, rfl⟩
  rw [← hF]
  unfold Cn.formP at hF
  obtain ⟨r1, hr1⟩ : ∃ r1, r1 = trimPrefix s hd6 := ⟨_, rfl⟩
  obtain ⟨b1, hb1⟩ : ∃ b1, b1 = (false || !hasPrefix s hd6) := ⟨_, rfl⟩
  rw [← hr1, ← hb1] at hw1
  simp only [← hr1, ← hb1] at hF
  rw [← hr1] at hl1
  have hl2 := Cn.ah_len r1 b1 [32]
  have ha1 := fun V (hV : Rd V rb r1 b1) (hk : Kp [rb] w V) => aheadC_any V rb r1 [32] b1 hV (by omega) (hE V hk) hne
  obtain ⟨P1, hP1⟩ : ∃ P1, P1 = Cn.ahP r1 b1 [32] := ⟨_, rfl⟩
  have ha1' : ∀ V, Rd V rb r1 b1 → Kp [rb] w V → Calls Tryd.prog 47 #[.pointer (some ⟨rb, 0, none⟩), .func (.func 48) #[.pointer (some ⟨rb, 0, none⟩)] #[], .string ⟨([32] : List UInt8).toArray⟩] V fun e w' => e = .returned (.int .i64 P1.1) ∧ Rd w' rb P1.2.1 P1.2.2 ∧ Kp [rb] V w' := by rw [hP1]; exact ha1
  rw [← hP1] at hl2
  simp only [← hP1] at hF
  have hl3 := Cn.ah_len P1.2.1 P1.2.2 [10]
  have ha2 := fun V (hV : Rd V rb P1.2.1 P1.2.2) (hk : Kp [rb] w V) => aheadC_any V rb P1.2.1 [10] P1.2.2 hV (by omega) (hE V hk) hne
  obtain ⟨P2, hP2⟩ : ∃ P2, P2 = Cn.ahP P1.2.1 P1.2.2 [10] := ⟨_, rfl⟩
  have ha2' : ∀ V, Rd V rb P1.2.1 P1.2.2 → Kp [rb] w V → Calls Tryd.prog 47 #[.pointer (some ⟨rb, 0, none⟩), .func (.func 48) #[.pointer (some ⟨rb, 0, none⟩)] #[], .string ⟨([10] : List UInt8).toArray⟩] V fun e w' => e = .returned (.int .i64 P2.1) ∧ Rd w' rb P2.2.1 P2.2.2 ∧ Kp [rb] V w' := by rw [hP2]; exact ha2
  have hc64 : I64 P2.1 := by rw [hP2]; exact Cn.cnt_i64 _
  rw [← hP2] at hl3
  simp only [← hP2] at hF
  obtain ⟨vars, r2, b2⟩ := P1
  obtain ⟨c, r3, b3⟩ := P2
  simp only at *
  obtain ⟨T, hT⟩ : ∃ T, T = Cn.csGo c.toNat [] r3 b3 := ⟨_, rfl⟩
  rw [← hT] at hF
  have hcs := fun V => clauses_any rb c V
  have HA := Lib.hid (And.intro hw1 (And.intro ha1' (And.intro ha2' (And.intro hg0 hb0))))
  have HB := Lib.hid (And.intro hT (And.intro hF (And.intro hc64 (And.intro hE (show r3.length ≤ 2000000 by omega)))))
  have HL := Lib.hid (And.intro hlt hne)
  clear hg0 hb0 hE hw1 hF hr1 hb1 ha1 ha1' ha2 ha2' hP1 hP2 hT hc64 hl hl1 hl2 hl3 h he hne hlt
  refine (callsIn_wide (n := 9)).1 ?_
  refine callsIn_of_wp_marks Tryd.func37 rfl trivial ?_ rfl
  simp only [Tryd.ntmps37, List.size_toArray, List.length_cons, List.length_nil, Nat.reduceAdd, Nat.reduceSub, Array.replicate_succ, Array.replicate_zero, List.push_toArray, List.append_toArray, List.nil_append, List.cons_append]
  gi_wp2_with (first
    | (refine ⟨trivial, ?_⟩; rw [← hW0]; gi_at_call 46; refine (callsIn_wide.2 HA.out.1).mono ?_; rintro e w1 ⟨rfl, h1, hk1⟩; have H1 := Lib.hid (And.intro h1 ((Kp.of0 HA.out.2.2.2.1 _).trans hk1)); have K1 := Lib.hid hk1; clear h1 hk1 hW0)
    | (refine ⟨trivial, ?_⟩; gi_at_call 47; refine (callsIn_wide.2 (HA.out.2.1 _ H1.out.1 H1.out.2)).mono ?_; rintro e w2 ⟨rfl, h2, hk2⟩; have H2 := Lib.hid (And.intro h2 hk2); clear h2 hk2; refine Hid.out ?_))
  obtain ⟨W3, hW3⟩ : ∃ W3, W3 = w2.alloc (.cells #[.int .i64 vars, .slice none 0 0] 24) := ⟨_, rfl⟩
  have hg3 : w2.grownBy W3 none := by rw [hW3]; exact World.grownBy_alloc _ _ _
  have hf3 : W3.heap[w2.heap.size]? = some (.cells #[.int .i64 vars, .slice none 0 0] 24 (0, 0)) := by rw [hW3]; exact heap_alloc_new _ _
  have H3 := Lib.hid (And.intro (H2.out.1.on hg3) (And.intro ((H1.out.2.trans H2.out.2).trans (Kp.of0 hg3 _)) (And.intro hf3 ((K1.out.trans H2.out.2).trans (Kp.of0 hg3 _)))))
  clear hg3 hf3
  refine Lib.hid ?_
  gi_wp2_with (first
    | (refine ⟨trivial, ?_⟩; rw [← hW3]; gi_at_call 47; refine (callsIn_wide.2 (HA.out.2.2.1 _ H3.out.1 H3.out.2.1)).mono ?_; rintro e w4 ⟨rfl, h4, hk4⟩; have H4 := Lib.hid (And.intro h4 hk4); clear h4 hk4 hW3)
    | (refine ⟨trivial, ?_⟩; gi_at_call 49; refine (callsIn_wide.2 (hcs _)).mono ?_; rintro e w5 ⟨rfl, hw5⟩; refine Hid.out ?_))
  obtain ⟨W5, hW5⟩ : ∃ W5, W5 = (w4.alloc (.cells #[.pointer (some ⟨rb, 0, none⟩)] 79)).alloc (.cells #[.int .i64 c] 3) := ⟨_, rfl⟩
  have hg5 : w4.grownBy W5 none := by rw [hW5]; exact (World.grownBy_alloc _ _ none).trans (World.grownBy_alloc _ _ none)
  have hs5 : W5.heap.size = w4.heap.size + 2 := by rw [hW5]; simp
  have ha5 := al2 w4 (.cells #[.pointer (some ⟨rb, 0, none⟩)] 79) (.cells #[.int .i64 c] 3)
  rw [← hW5] at ha5 ⊢
  have hlw : w.heap.size ≤ w2.heap.size := (H1.out.2.trans H2.out.2).size
  have hl2 : w2.heap.size < W3.heap.size := gl H3.out.2.2.1
  have hl4 : w2.heap.size < w4.heap.size := Nat.lt_of_lt_of_le hl2 H4.out.2.size
  have hlr := HL.out.1
  have hbf : W5.heap[w2.heap.size]? = some (.cells #[.int .i64 vars, .slice none 0 0] 24 (0, 0)) := (hg5.block _ hl4 (by simp)).trans ((H4.out.2.block _ hl2 (by simp; omega)).trans H3.out.2.2.1)
  have hk5 : Kp [rb] w W5 := (H3.out.2.1.trans H4.out.2).trans (Kp.of0 hg5 _)
  have hof : OfJ W5 w2.heap.size rb vars [] [] r3 b3 W5 := ⟨.slice none 0 0, [], rfl, ⟨Kp.refl _ _, ⟨by omega, by omega, by omega⟩, hbf, H4.out.1.on hg5, World.ownsRow_nil _ _ _ _, (fun k e => by cases e), (fun x hx => by cases hx), (fun k hk => by cases hk)⟩⟩
  have H5 := Lib.hid (And.intro ha5 (And.intro hs5 (And.intro hk5 (And.intro hl4 (And.intro hlw hg5)))))
  have HOF := Lib.hid hof
  have hrb5 : rb < W5.heap.size := by omega
  clear hW5 hw5 ha5 hs5 hg5 hk5 hof hl2 hl4 hlw hbf hcs hlr
  refine Lib.hid ?_
  gi_wp2
  refine wpIn_rangeFunc_s (by omega) (gf := 56) (lb := #[.pointer (some ⟨w4.heap.size + 1, 0, none⟩), .pointer (some ⟨w4.heap.size, 0, none⟩)]) rfl (enters_of Tryd.func56 (by kernel_rfl) rfl) hrb5 (clauses_seq _ (w4.heap.size + 1) w4.heap.size rb c r3 b3 HB.out.2.2.2.2 HB.out.2.2.1 HL.out.2) rfl
    (OfJ W5 w2.heap.size rb vars) OfJ.turn OfJ.drop ?i3 ?i5 ?i4 ?h0
    (fun ca cc x => { tmps := #[.pointer (some ⟨rb, 0, none⟩), undef, .pointer (some ⟨w.heap.size, 0, none⟩), .pointer (some ⟨w2.heap.size, 0, none⟩), .slice ca x.length cc, .pointer (some ⟨rb, 0, none⟩), .tuple #[], .pointer (some ⟨rb, 0, none⟩), .pointer (some ⟨rb, 0, none⟩), .func (.func 48) #[.pointer (some ⟨rb, 0, none⟩)] #[], .int .i64 vars, .agg #[.int .i64 vars, .slice none 0 0],
        .pointer (some ⟨rb, 0, none⟩), .pointer (some ⟨rb, 0, none⟩), .pointer (some ⟨rb, 0, none⟩), .func (.func 48) #[.pointer (some ⟨rb, 0, none⟩)] #[], .int .i64 c, .func (.func 56) #[] #[.pointer (some ⟨w4.heap.size + 1, 0, none⟩), .pointer (some ⟨w4.heap.size, 0, none⟩)], .slice ca x.length cc, undef, undef, undef, undef, undef, undef, undef, undef, undef, undef, undef, undef, undef, undef, undef], defers := [] })
    ?assign ?body ?done
  case i3 =>
    rintro A s r b W ⟨v, xs, _, h⟩
    have hk := h.kp
    have hsz := H5.out.2.1
    have h24 := H5.out.2.2.2.1
    have hlw := H5.out.2.2.2.2.1
    have hlr := HL.out.1
    exact ⟨(hk.block _ (by omega) (by simp; omega)).trans H5.out.1.2, (hk.block _ (by omega) (by simp; omega)).trans H5.out.1.1, h.rd, (HB.out.2.2.2.1 _ H5.out.2.2.1).kp hk (fun k hk => by
      simp at hk
      rcases hk with rfl | rfl
      · obtain ⟨e1, e2, q1, _, q2, _⟩ := HB.out.2.2.2.1 w (Kp.refl _ _)
        have z1 := lt_of_some q1
        have z2 := lt_of_some q2
        omega
      · exact HL.out.2)⟩
  case i5 => exact fun A s r b W h => by obtain ⟨v, xs, _, h⟩ := h; exact h.rd
  case i4 => exact fun A s r b W W' h hA hg => h.loop hA (by omega) hg
  case h0 => exact HOF.out
  case assign =>
    intro l1 ca cc x W K hK
    simp
    gi_wp2
    exact hK
  case body =>
    rintro l1 A pre ca cc x r W ⟨v, xs, rfl, h⟩ hwt hn hc h64
    have q1 : W.cell? ⟨w2.heap.size, 1, none⟩ = some v := cell_of_row _ _ 1 _ _ _ h.rf
    have hown := h.own.alloc (.cells #[.slice ca x.length cc] 36)
    have hnr := heap_alloc_new W (.cells #[.slice ca x.length cc] 36)
    have hfa := (heap_alloc_old W (.cells #[.slice ca x.length cc] 36) (gl h.rf)).trans h.rf
    have hlo := h.lo
    have hvb : v.ownBlock ≠ some w2.heap.size := fun e => by have := (h.own.lt _ e).1; omega
    have hwl := Cn.wt_len (clsOf xs ++ [x])
    rw [List.length_append, List.length_singleton, clsOf_len] at hwl
    have hz1 := Cn.wt_app (clsOf xs) [x]
    rw [Cn.wt_one] at hz1
    have hr3 := HB.out.2.2.2.2
    have hx2 : x.length ≤ 2000000 := by omega
    have hb1 : xs.length + 1 ≤ 2000000 := by omega
    have HR := Lib.hid (And.intro h (And.intro hn (And.intro hc (And.intro hx2 h64))))
    have HO := Lib.hid (And.intro hown (And.intro hnr (And.intro hfa hvb)))
    obtain ⟨it, hit, hz, hsz, hby⟩ := info_parts info_sl
    have hsz3 : W5.heap.size ≤ (W.alloc (.cells #[.slice ca x.length cc] 36)).heap.size := by have h8 := h.kp.size; rw [World.size_alloc]; omega
    have hone : ∀ u ∈ [Value.slice ca x.length cc], u.oneCell' = true := fun u hu => by rw [List.mem_singleton.1 hu]; rfl
    have hnews : ∀ j u, [Value.slice ca x.length cc][j]? = some u → (W.alloc (.cells #[.slice ca x.length cc] 36)).cell? ((⟨W.heap.size, 0, none⟩ : Addr).add j) = some u := fun j u hu => by
      cases j with
      | zero => simp at hu; subst hu; rw [addr_at]; exact cell_of_row _ _ 0 _ _ _ hnr
      | succ j => simp at hu
    have b63 : xs.length + 1 ≤ maxLen := by unfold maxLen; omega
    have bby : (xs.length + 1) * 24 ≤ 140737488355328 := by omega
    have l2 : w2.heap.size < W.heap.size := gl h.rf
    have HBB := Lib.hid (And.intro hone (And.intro hnews (And.intro b63 (And.intro bby (And.intro hsz3 l2)))))
    clear hown hnr hfa hvb hone hnews b63 bby hsz3 h hn hc h64 hwt hwl hz1 hr3 hlo l2
    gi_wp2_with (gi_at_builtin; refine wpListIn_append_own_at _ rfl _ _ 22 rfl W5.heap.size 36 it _ 1 24 Tryd.underlying22 hit hz hsz hby rfl (by decide) v xs.length (clV xs) rfl HO.out.1 ⟨W.heap.size, 0, none⟩ 1 1 [.slice ca x.length cc] rfl rfl HBB.out.2.1 HBB.out.1 HBB.out.2.2.1 HBB.out.2.2.2.1 HBB.out.2.2.2.2.1 ?_; intro v' w7 ho4 hg4 _ hat4; obtain ⟨a4, c7, hv4⟩ := owns_form ho4; have hf4 := (hg4.block w2.heap.size (by rw [World.size_alloc]; have := HBB.out.2.2.2.2.2; omega) (fun e => HO.out.2.2.2 e.symm)).trans HO.out.2.2.1; have g1 : w7.cell? ⟨w2.heap.size, 1, none⟩ = some v := cell_of_row _ _ 1 _ _ _ hf4; have g2 := frozen_of_row w7 w2.heap.size 1 _ _ hf4; have H7 := Lib.hid (And.intro ho4 (And.intro hg4 (And.intro hat4 hf4))); clear ho4 hg4 hat4 hf4; subst hv4)
    have hcl : clsOf (xs ++ [(ca, cc, x)]) = clsOf xs ++ [x] := by simp [clsOf]
    have hnx := HR.out.1.next (W2 := W.alloc (.cells #[.slice ca x.length cc] 36)) (W3 := w7) (W4 := w7.setCell ⟨w2.heap.size, 1, none⟩ (.slice a4 (xs.length + 1) c7)) (v' := .slice a4 (xs.length + 1) c7) HR.out.2.1 HR.out.2.2.1 HR.out.2.2.2.1 HR.out.2.2.2.2
      (World.grownBy_alloc _ _ none) H7.out.1 H7.out.2.1 H7.out.2.2.1 ((Kp.refl _ w7).set (by simp) _) (heap_setCell_same _ _ 1 _ _ _ H7.out.2.2.2)
    exact ⟨⟨_, _, hcl, hnx.1⟩, hnx.2⟩
  case done =>
    rintro W ⟨v, xs, hxs, h⟩ hK
    obtain ⟨a5, c5, hv5⟩ := owns_form h.own
    subst hv5
    rw [← HB.out.1] at hxs h
    obtain ⟨cls, r4, b4⟩ := T
    simp only at hxs h
    have hF := HB.out.2.1
    have hk := h.kp
    have hlo := h.lo
    have hlr := HL.out.1
    have hw0 : w.heap.size < w2.heap.size := Nat.lt_of_lt_of_le (gl HA.out.2.2.2.2) (K1.out.trans H2.out.2).size
    have hw5 := H5.out.2.2.2.1
    have hs5 := H5.out.2.1
    have rs : W.heap[w.heap.size]? = some (.cells #[.int .i64 0, .slice none 0 0] 24 (0, 0)) := (hk.block _ (by omega) (by simp; omega)).trans ((((H3.out.2.2.2.trans H4.out.2).trans (Kp.of0 H5.out.2.2.2.2.2 _)).block _ (gl HA.out.2.2.2.2) (by simp; omega)).trans HA.out.2.2.2.2)
    have hrows := h.rows (by simp)
    have hfin : ∀ Wr bb, Kp [rb] W Wr → Rd Wr rb r4 bb → ∀ Wf, Wf = (Wr.setCell ⟨w.heap.size, 0, none⟩ (.int .i64 vars)).setCell ⟨w.heap.size, 1, none⟩ (.slice a5 xs.length c5) →
        Wf.heap[W5.heap.size]? = some (.deferred (some [])) ∧ (Wf.putObj W5.heap.size (.deferred none)).cell? ⟨w.heap.size, 0, none⟩ = some (.int .i64 vars) ∧ (Wf.putObj W5.heap.size (.deferred none)).cell? ⟨w.heap.size, 1, none⟩ = some (.slice a5 xs.length c5) ∧
        RowsIn (w.heap.size ≤ ·) (Wf.putObj W5.heap.size (.deferred none)) a5 cls ∧ Rd (Wf.putObj W5.heap.size (.deferred none)) rb r4 bb ∧ Kp [rb] w (Wf.putObj W5.heap.size (.deferred none)) := by
      intro Wr bb hkr hrd Wf hWf
      have hkf : Kp [w.heap.size] Wr Wf := by rw [hWf]; exact ((Kp.refl _ Wr).set (by simp) _).set (by simp) _
      have rs2 := (hkr.block w.heap.size (gl rs) (by simp; omega)).trans rs
      have p1 : Wf.heap[w.heap.size]? = some (.cells #[.int .i64 vars, .slice a5 xs.length c5] 24 (0, 0)) := by
        rw [hWf]
        exact heap_setCell_same _ _ 1 _ _ _ (heap_setCell_same _ _ 0 _ _ _ rs2)
      have hKf : Wf.heap[W5.heap.size]? = some (.deferred (some [])) := (hkf.block _ (by have := gl hK; have := hkr.size; omega) (by simp; omega)).trans ((hkr.block _ (gl hK) (by simp; omega)).trans hK)
      have hgp := grownBy_putObj' Wf W5.heap.size (.deferred none)
      have z1 := (hgp.block _ (gl p1) (by simp; omega)).trans p1
      have hrz : RowsIn (w.heap.size ≤ ·) (Wf.putObj W5.heap.size (.deferred none)) a5 cls := by
        rw [← hxs]
        refine (hrows.2.2.onLt (fun k hl hk2 => ?_)).mono (fun k hk2 => by omega)
        exact (hgp.block k (Nat.lt_of_lt_of_le hl (Nat.le_trans hkr.size hkf.size)) (by simp; omega)).trans ((hkf.block k (Nat.lt_of_lt_of_le hl hkr.size) (by simp; omega)).trans (hkr.block k hl (by simp; omega)))
      have q5 := H5.out.2.2.1
      have q0 : Kp [rb] w W := ⟨hk.os.trans q5.os, hk.tape.trans q5.tape, hk.output.trans q5.output, Nat.le_trans q5.size hk.size, fun k hl hx => (hk.block k (by omega) (by simp at hx ⊢; exact ⟨by omega, hx⟩)).trans (q5.block k hl hx)⟩
      have q2 : Kp [rb] w Wf := ⟨hkf.os.trans (hkr.os.trans q0.os), hkf.tape.trans (hkr.tape.trans q0.tape), hkf.output.trans (hkr.output.trans q0.output), Nat.le_trans q0.size (Nat.le_trans hkr.size hkf.size), fun k hl hx => (hkf.block k (Nat.lt_of_lt_of_le hl (Nat.le_trans q0.size hkr.size)) (by simp; omega)).trans ((hkr.block k (Nat.lt_of_lt_of_le hl q0.size) hx).trans (q0.block k hl hx))⟩
      exact ⟨hKf, cell_of_row _ _ 0 _ _ _ z1, cell_of_row _ _ 1 _ _ _ z1, hrz, (hgp.block rb (by have := gl hrd; have := hkf.size; omega) (by simp; omega)).trans ((hkf.block rb (gl hrd) (by simp; omega)).trans hrd), Kp.ov q2 hgp (fun k e => by cases e; omega)⟩
    have hxl : xs.length = cls.length := by rw [← hxs, clsOf_len]
    have c0 : W.cell? ⟨w2.heap.size, 0, none⟩ = some (.int .i64 vars) := cell_of_row _ _ 0 _ _ _ h.rf
    have c1 : W.cell? ⟨w2.heap.size, 1, none⟩ = some (.slice a5 xs.length c5) := cell_of_row _ _ 1 _ _ _ h.rf
    have d0 := frozen_of_row _ _ 0 _ _ rs
    have d1 := frozen_of_row _ _ 1 _ _ rs
    have t0 := cell_of_row _ _ 0 _ _ _ rs
    have t1 := cell_of_row _ _ 1 _ _ _ rs
    have e0 := h.rd.c0
    have HFN := Lib.hid (And.intro hfin (And.intro hF (And.intro hxl (And.intro h.rd hrows.2.1))))
    cases r4 with
    | nil =>
      clear hfin hF hxl hrows hk hlo hlr hw0 hw5 hs5 hxs h rs hK hrb5
      gi_wp2
      obtain ⟨Wf, hWf⟩ : ∃ Wf, Wf = (W.setCell ⟨w.heap.size, 0, none⟩ (.int .i64 vars)).setCell ⟨w.heap.size, 1, none⟩ (.slice a5 xs.length c5) := ⟨_, rfl⟩
      obtain ⟨k1, y0, y1, k2, k3, k4⟩ := HFN.out.1 W b4 (Kp.refl _ _) HFN.out.2.2.2.1 Wf hWf
      rw [← hWf]
      refine ⟨by simp, .inl ⟨_, _, rfl, run_takeDeferred k1, ?_⟩⟩
      generalize (Wf.putObj W5.heap.size (.deferred none)) = Wz at y0 y1 k2 k3 k4 ⊢
      have HZ := Lib.hid (And.intro k2 (And.intro k3 k4))
      clear k1 k2 k3 k4 hWf c0 c1 d0 d1 t0 t1 e0
      simp [LeavesInM, LeavesIn, results, Tryd.results37, go_sem, y0, y1]
      rw [HFN.out.2.1]
      exact ⟨a5, c5, ⟨rfl, rfl, by rw [HFN.out.2.2.1], rfl⟩, by have := HFN.out.2.2.2.2; rw [HFN.out.2.2.1] at this; exact this, HZ.out.1, by simpa using HZ.out.2.1, HZ.out.2.2⟩
    | cons y t =>
      have e5 : ¬ (⟨(y :: t).toArray⟩ : ByteArray) = ⟨#[]⟩ := fun e => by have := congrArg ByteArray.size e; simp [ByteArray.size] at this
      have e1 := h.rd.c1
      have f1 := h.rd.f 1
      obtain ⟨Wr, hWr⟩ : ∃ Wr, Wr = W.setCell ⟨rb, 1, none⟩ (.bool true) := ⟨_, rfl⟩
      have hkr : Kp [rb] W Wr := by rw [hWr]; exact Kp.set0 _ _ _ _
      have hrr : Rd Wr rb (y :: t) true := by rw [hWr]; exact h.rd.set1 _
      have rf2 := (hkr.block _ (gl h.rf) (by simp; exact hlo.2.2)).trans h.rf
      have rs2 := (hkr.block _ (gl rs) (by simp; omega)).trans rs
      have c0' : Wr.cell? ⟨w2.heap.size, 0, none⟩ = some (.int .i64 vars) := cell_of_row _ _ 0 _ _ _ rf2
      have c1' : Wr.cell? ⟨w2.heap.size, 1, none⟩ = some (.slice a5 xs.length c5) := cell_of_row _ _ 1 _ _ _ rf2
      have d0' := frozen_of_row _ _ 0 _ _ rs2
      have d1' := frozen_of_row _ _ 1 _ _ rs2
      have t0' := cell_of_row _ _ 0 _ _ _ rs2
      have t1' := cell_of_row _ _ 1 _ _ _ rs2
      have HK := Lib.hid (And.intro hkr hrr)
      clear hfin hF hxl hrows hk hlo hlr hw0 hw5 hs5 hxs h rs hK hrb5 hkr hrr rf2 rs2 c0 c1 d0 d1 t0 t1
      subst hWr
      gi_wp2
      obtain ⟨Wr, hWr⟩ : ∃ Wr, Wr = W.setCell ⟨rb, 1, none⟩ (.bool true) := ⟨_, rfl⟩
      rw [← hWr] at HK ⊢
      clear hWr c0' c1' d0' d1' t0' t1' e1 f1 e0
      obtain ⟨Wf, hWf⟩ : ∃ Wf, Wf = (Wr.setCell ⟨w.heap.size, 0, none⟩ (.int .i64 vars)).setCell ⟨w.heap.size, 1, none⟩ (.slice a5 xs.length c5) := ⟨_, rfl⟩
      obtain ⟨k1, y0, y1, k2, k3, k4⟩ := HFN.out.1 Wr true HK.out.1 HK.out.2 Wf hWf
      rw [← hWf]
      refine ⟨by simp, .inl ⟨_, _, rfl, run_takeDeferred k1, ?_⟩⟩
      generalize (Wf.putObj W5.heap.size (.deferred none)) = Wz at y0 y1 k2 k3 k4 ⊢
      have HZ := Lib.hid (And.intro k2 (And.intro k3 k4))
      clear k1 k2 k3 k4 hWf
      simp [LeavesInM, LeavesIn, results, Tryd.results37, go_sem, y0, y1]
      rw [HFN.out.2.1]
      exact ⟨a5, c5, ⟨rfl, rfl, by rw [HFN.out.2.2.1], rfl⟩, by have := HFN.out.2.2.2.2; rw [HFN.out.2.2.1] at this; exact this, HZ.out.1, by simpa using HZ.out.2.1, HZ.out.2.2⟩
end Go.Proofs.YtdhgopcfjomjaaaDoor
